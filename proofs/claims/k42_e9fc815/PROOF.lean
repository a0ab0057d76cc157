import PyProof.Rows.All
import Wide.All
import OpenK.AllK
import Wide.FinOn
import Lean
import PyProof.EqAt
import PyProof.EqKinds
import PyProof.TupleCall
import PySem.Challenge.RW_meetvalue_k42_ring_walked
set_option Elab.async false
set_option linter.all false
set_option maxRecDepth 100000
/-! THE HAND LAYER, for ints, bools, texts, own classes, LISTS and tuples (index, slices, in, append, pop ..), calls, loops. Paste it whole ahead of your own text; what your proof does not reach may be deleted. -/
namespace L2
open PySem PySem.Spec PyProof.Rows

/-- a key: an int or a str -/
abbrev Key := Sum Int Str
def keyIs : Key → Value → Bool
  | .inl k, v => Value.isInt k v
  | .inr x, v => Value.isStrOf x v
def keyH (w : World) : Key → Int
  | .inl k => hashInt k
  | .inr x => hashStr w x
theorem keyIs_shape : ∀ {k : Key} {v : Value}, keyIs k v = true → (∃ i t, k = Sum.inl i ∧ v = Value.int i t) ∨ (∃ x t, k = Sum.inr x ∧ v = Value.str x t)
  | .inl i, v, h => by
    obtain ⟨t, e⟩ := Value.isInt_shape (k := i) (v := v) h
    exact .inl ⟨i, t, rfl, e⟩
  | .inr x, v, h => by
    obtain ⟨t, e⟩ := Value.isStrOf_shape (x := x) (v := v) h
    exact .inr ⟨x, t, rfl, e⟩
theorem keyIs_int (i : Int) (t : Tok) : keyIs (.inl i) (.int i t) = true := by simp [keyIs, Value.isInt]
theorem keyIs_str (x : Str) (t : Tok) : keyIs (.inr x) (.str x t) = true := by simp [keyIs, Value.isStrOf]
theorem key_ll (a b : Int) : decide ((Sum.inl a : Key) = Sum.inl b) = (a == b) := by
  by_cases e : a = b
  · subst e; simp
  · have h : ¬ (Sum.inl a : Key) = Sum.inl b := fun q => e (Sum.inl.inj q)
    rw [decide_eq_false h]
    exact (beq_eq_false_iff_ne.mpr e).symm
theorem key_rr (a b : Str) : decide ((Sum.inr a : Key) = Sum.inr b) = decide (a = b) := by
  by_cases e : a = b
  · subst e; simp
  · have h : ¬ (Sum.inr a : Key) = Sum.inr b := fun q => e (Sum.inr.inj q)
    rw [decide_eq_false h, decide_eq_false e]
theorem key_lr (a : Int) (b : Str) : decide ((Sum.inl a : Key) = Sum.inr b) = false := decide_eq_false (fun q => nomatch q)
theorem key_rl (a : Str) (b : Int) : decide ((Sum.inr a : Key) = Sum.inl b) = false := decide_eq_false (fun q => nomatch q)

def mixKind (prog : Program) (w : World) : PySem.KeyKind prog w Key where
  is := keyIs
  hash := keyH w
  inj := fun v a b ha hb => by
    rcases keyIs_shape ha with ⟨i, t, rfl, rfl⟩ | ⟨x, t, rfl, rfl⟩
    · rcases keyIs_shape hb with ⟨j, u, rfl, e⟩ | ⟨y, u, rfl, e⟩
      · injection e with e1 _; rw [e1]
      · exact nomatch e
    · rcases keyIs_shape hb with ⟨j, u, rfl, e⟩ | ⟨y, u, rfl, e⟩
      · exact nomatch e
      · injection e with e1 _; rw [e1]
  byValue := fun k v h => by
    rcases keyIs_shape h with ⟨i, t, rfl, rfl⟩ | ⟨x, t, rfl, rfl⟩ <;> rfl
  pyHash := fun hv h => by
    rcases keyIs_shape hv with ⟨i, t, rfl, rfl⟩ | ⟨x, t, rfl, rfl⟩
    · exact wpAny_pyHash_int h
    · exact wpAny_pyHash_str h
  eqBool := fun hu hv h => by
    rcases keyIs_shape hu with ⟨i, t, rfl, rfl⟩ | ⟨x, t, rfl, rfl⟩
    · rcases keyIs_shape hv with ⟨j, u, rfl, rfl⟩ | ⟨y, u, rfl, rfl⟩
      · rw [key_ll] at h; exact wpAny_eqBool_int h
      · rw [key_lr] at h; exact SeqAt.EqAt.int_str i t y u _ _ _ _ h
    · rcases keyIs_shape hv with ⟨j, u, rfl, rfl⟩ | ⟨y, u, rfl, rfl⟩
      · rw [key_rl] at h; exact SeqAt.EqAt.str_int x t j u _ _ _ _ h
      · rw [key_rr] at h; exact wpAny_eqBool_str h
  «strs» := fun k x t v h => by
    rcases keyIs_shape h with ⟨i, u, rfl, e⟩ | ⟨y, u, rfl, e⟩
    · exact nomatch e
    · injection e with e1 _
      subst e1
      cases v <;> rfl

theorem mixKind_is (prog : Program) (w : World) (k : Key) (v : Value) : (mixKind prog w).is k v = keyIs k v := rfl
theorem mixKind_int (prog : Program) (w : World) (i : Int) (t : Tok) : (mixKind prog w).is (.inl i) (.int i t) = true := keyIs_int i t
theorem mixKind_str (prog : Program) (w : World) (x : Str) (t : Tok) : (mixKind prog w).is (.inr x) (.str x t) = true := keyIs_str x t
end L2

namespace L2
open PySem PySem.Spec PyProof.Rows

/-- a value, without the heap -/
inductive V where
  | non | bl (b : Bool) | int (i : Int) | str (x : Str) | byt (b : Array UInt8) | flt (b : UInt64) | ref (a : Addr) | ty (n : String)
  deriving DecidableEq

def RelV : V → Value → Prop
  | .non, u => u = Value.none
  | .bl b, u => u = Value.bool b
  | .int i, u => ∃ t, u = Value.int i t
  | .str x, u => ∃ t, u = Value.str x t
  | .byt b, u => ∃ t, u = Value.bytes b t
  | .flt b, u => ∃ t, u = Value.float b t
  | .ref a, u => u = Value.ref a
  | .ty n, u => u = Value.type n

abbrev Vals : List V → List Value → Prop := Paired RelV
theorem Vals.length {xs : List V} {us : List Value} (r : Vals xs us) : xs.length = us.length := Paired.length r
theorem Vals.get : ∀ {xs : List V} {us : List Value} {i : Nat} {x : V}, Vals xs us → xs[i]? = some x → ∃ u, us[i]? = some u ∧ RelV x u
  | _, _, _, _, .nil, e => by simp at e
  | _, _, 0, _, .cons r _, e => by simp at e; subst e; exact ⟨_, rfl, r⟩
  | _, _, i + 1, x, .cons _ t, e => by
    obtain ⟨u, h1, h2⟩ := Vals.get (i := i) (x := x) t (by simpa using e)
    exact ⟨u, by simpa using h1, h2⟩
theorem Vals.set {x : V} {u : Value} (r : RelV x u) : ∀ {xs : List V} {us : List Value} (i : Nat), Vals xs us → Vals (xs.set i x) (us.set i u)
  | _, _, _, .nil => .nil
  | _, _, 0, .cons _ t => .cons r t
  | _, _, i + 1, .cons q t => .cons q (Vals.set r i t)
theorem Vals.append : ∀ {xs ys : List V} {us ws : List Value}, Vals xs us → Vals ys ws → Vals (xs ++ ys) (us ++ ws)
  | _, _, _, _, .nil, s => s
  | _, _, _, _, .cons r t, s => .cons r (Vals.append t s)
theorem Vals.take : ∀ {xs : List V} {us : List Value} (n : Nat), Vals xs us → Vals (xs.take n) (us.take n)
  | _, _, 0, _ => .nil
  | _, _, _ + 1, .nil => .nil
  | _, _, n + 1, .cons r t => .cons r (Vals.take n t)
theorem Vals.drop : ∀ {xs : List V} {us : List Value} (n : Nat), Vals xs us → Vals (xs.drop n) (us.drop n)
  | _, _, 0, r => r
  | _, _, _ + 1, .nil => .nil
  | _, _, n + 1, .cons _ t => Vals.drop n t
theorem Vals.none_of : ∀ {xs : List V} {us : List Value} {i : Nat}, Vals xs us → xs[i]? = none → us[i]? = none := fun {xs us i} r e => by
  have h1 := r.length
  have h2 : xs.length ≤ i := List.getElem?_eq_none_iff.mp e
  exact List.getElem?_eq_none_iff.mpr (by omega)

def RelO : Option V → Option Value → Prop
  | some v, some u => RelV v u
  | none, none => True
  | _, _ => False
def KV {κ : Type} : List (κ × V) → List (κ × Value) → Prop := Paired fun (p : κ × V) (q : κ × Value) => p.1 = q.1 ∧ RelV p.2 q.2

/-- a key of a dict (00_mix): an int or a text -/
def kV : Key → V
  | .inl i => .int i
  | .inr x => .str x

/-- what stands at a tracked address -/
inductive HO where
  /-- a list -/
  | lst (xs : List V)
  /-- a tuple (never changes) -/
  | tup (xs : List V)
  /-- a dict whose keys are ints and texts; one whose keys are tuples of ints and texts (the empty one is both) -/
  | dK (kvs : List (Key × V)) | dT (kvs : List (List Key × V))
  /-- a set of ints: its members, its size -/
  | set (S : Int → Bool) (n : Nat)
  /-- an instance of the class at C, its dict at dx, its attributes -/
  | ins (C dx : Addr) (fs : List (Str × V))
  /-- the dict of the instance at x -/
  | own (x : Addr)
  /-- the dict of an exception -/
  | xd (fs : List (Str × V))
  /-- a bound method, f of x -/
  | met (f x : Addr)
  /-- a range object lo, lo + 1, .. below hi -/
  | rng (lo hi : Int)
  /-- a thing that is known to the object (the script; a dict while a loop walks it): read, never written while it is so -/
  | frz (o : Obj) (u : HO)
  /-- a code object's table -/
  | tbl (ps : Array Value)
  /-- any other thing, by what is true of its one object (a def of one's own: SetO a S n := HO.ext fun h => ..) -/
  | ext (φ : Heap → Prop)

abbrev Hp := Addr → Option HO
def upd (H : Hp) (a : Addr) (o : HO) : Hp := fun b => if b = a then some o else H b
theorem upd_same {H : Hp} {a : Addr} {o : HO} : upd H a o a = some o := by unfold upd; rw [if_pos rfl]
theorem upd_ne {H : Hp} {a b : Addr} {o : HO} (h : b ≠ a) : upd H a o b = H b := by unfold upd; rw [if_neg h]
theorem upd_upd {H : Hp} {a : Addr} {o u : HO} : upd (upd H a o) a u = upd H a u := by
  funext b; unfold upd; split <;> rfl
/-- two objects of different content stand apart -/
theorem ne_of {H : Hp} {a b : Addr} {o u : HO} (h : H a = some o) (h' : H b = some u) (d : o ≠ u) : a ≠ b := by
  intro e; subst e; rw [h] at h'; exact d (Option.some.inj h')
theorem ne_of_none {H : Hp} {a b : Addr} {o : HO} (h : H a = some o) (h' : H b = none) : a ≠ b := by
  intro e; subst e; rw [h] at h'; cases h'

section
variable (P : Program) (w : World)
def ObjOk (H : Hp) (h : Heap) (a : Addr) : HO → Prop
  | .lst xs => xs.length ≤ sizeLine ∧ ∃ (its : List Value) (n : Nat), Vals xs its ∧ h.get? a = some { cls := .type "list", data := .seq its.toArray n }
  | .tup xs => xs.length ≤ sizeLine ∧ ∃ its : List Value, Vals xs its ∧ IsTup h a its.toArray
  | .dK kvs => kvs.length ≤ sizeLine ∧ (a == sysModules) = false ∧ ∃ vs, KV kvs vs ∧ h.DictOf (mixKind P w) a vs
  | .dT kvs => kvs.length ≤ sizeLine ∧ (a == sysModules) = false ∧ ∃ xs : List (List Key × Addr × Value),
      Paired (fun (p : List Key × V) (q : List Key × Addr × Value) => p.1 = q.1 ∧ H q.2.1 = some (.tup (p.1.map kV)) ∧ RelV p.2 q.2.2) kvs xs ∧
      ∃ o es ep, h.get? a = some o ∧ o.ExactDict ∧ o.data = .dict es ep ∧ es.toList = xs.map (entryOfKey (tupleKind (mixKind P w))) ∧ (xs.map (·.1)).Nodup
  | .set S n => h.SetOf (intKind P w) a S n
  | .ins C dx fs => H dx = some (.own a) ∧ fs.length ≤ 1000 ∧ dx ≠ a ∧ h.get? a = some (PySem.W.instObj C dx) ∧
      ∃ mA, h.Ns1 dx mA ∧ (∀ f, RelO (fs.lookup f) (mA f)) ∧ PySem.Within mA (fs.map (·.1))
  | .own _ => ∃ o, h.get? a = some o
  | .xd fs => ∃ mA, h.Ns1 a mA ∧ ∀ f, RelO (fs.lookup f) (mA f)
  | .rng lo hi => ∃ t u v, h.get? a = some { cls := .type "range", data := .fields #[.int lo t, .int hi u, .int 1 v] }
  | .frz o u => h.get? a = some o ∧ ObjOk H h a u
  | .tbl ps => h.get? a = some { cls := .none, data := .fields ps }
  | .met f x => h.get? a = some (PySem.W.methodObj (.ref f) (.ref x))
  | .ext φ => φ h ∧ (∃ o, h.get? a = some o) ∧ ∀ h1 h2 : Heap, φ h1 → (∀ o, h1.get? a = some o → h2.get? a = some o) → φ h2
/-- the abstract heap is held -/
def HOk (H : Hp) (h : Heap) : Prop := ∀ a o, H a = some o → ObjOk P w H h a o
end

section
variable {P : Program} {w : World} {H H' : Hp} {h h' : Heap} {a : Addr} {o : HO}
theorem ObjOk.lt (x : ObjOk P w H h a o) : a < h.objs.size := by
  cases o with
  | lst xs => obtain ⟨_, _, _, _, e⟩ := x; exact Heap.lt_size e
  | tup xs => obtain ⟨_, _, _, p⟩ := x; exact p.lt
  | dK kvs => obtain ⟨_, _, _, _, o, _, _, e, _⟩ := x; exact Heap.lt_size e
  | dT kvs => obtain ⟨_, _, _, _, o, _, _, e, _⟩ := x; exact Heap.lt_size e
  | set S n => obtain ⟨o, _, _, _, e, _⟩ := x; exact Heap.lt_size e
  | ins C dx fs => obtain ⟨_, _, _, e, _⟩ := x; exact Heap.lt_size e
  | own y => obtain ⟨_, e⟩ := x; exact Heap.lt_size e
  | xd fs => obtain ⟨_, ⟨_, _, _, e, _⟩, _⟩ := x; exact Heap.lt_size e
  | rng lo hi => obtain ⟨_, _, _, e⟩ := x; exact Heap.lt_size e
  | frz ob u => obtain ⟨e, _⟩ := x; exact Heap.lt_size e
  | tbl ps => exact Heap.lt_size (show h.get? a = some _ from x)
  | met f y => exact Heap.lt_size (show h.get? a = some _ from x)
  | ext φ => obtain ⟨_, ⟨_, e⟩, _⟩ := x; exact Heap.lt_size e
theorem Paired.mapP {α β : Type} {F G : α → β → Prop} : ∀ {l₁ : List α} {l₂ : List β}, Paired F l₁ l₂ → (∀ a b, F a b → G a b) → Paired G l₁ l₂
  | _, _, .nil, _ => .nil
  | _, _, .cons r t, f => .cons (f _ _ r) (Paired.mapP t f)
theorem Paired.imp' {α β : Type} {F G : α → β → Prop} (f : ∀ a b, F a b → G a b) {l₁ : List α} {l₂ : List β} (r : Paired F l₁ l₂) : Paired G l₁ l₂ := Paired.mapP r f
/-- what an object's description leans on: its own object, its own dict, the tuples -/
theorem ObjOk.stay (x : ObjOk P w H h a o) (k : ∀ b u, (b = a ∨ H b = some (.own a)) → h.get? b = some u → h'.get? b = some u)
    (ho : ∀ b, H b = some (.own a) → H' b = some (.own a)) (ht : ∀ b xs, H b = some (.tup xs) → H' b = some (.tup xs)) : ObjOk P w H' h' a o := by
  induction o with
  | lst xs => obtain ⟨z, its, n, r, e⟩ := x; exact ⟨z, its, n, r, k _ _ (.inl rfl) e⟩
  | tup xs => obtain ⟨z, its, r, ob, e, c⟩ := x; exact ⟨z, its, r, ob, k _ _ (.inl rfl) e, c⟩
  | dK kvs => obtain ⟨z, y, vs, r, ob, es, ep, e, c⟩ := x; exact ⟨z, y, vs, r, ob, es, ep, k _ _ (.inl rfl) e, c⟩
  | dT kvs =>
    obtain ⟨z, y, xs, r, ob, es, ep, e, c⟩ := x
    exact ⟨z, y, xs, Paired.mapP r fun p q z => ⟨z.1, ht _ _ z.2.1, z.2.2⟩, ob, es, ep, k _ _ (.inl rfl) e, c⟩
  | set S n => obtain ⟨ob, es, ep, t, e, c⟩ := x; exact ⟨ob, es, ep, t, k _ _ (.inl rfl) e, c⟩
  | ins C dx fs =>
    obtain ⟨d, z, ne, e, mA, ⟨od, es, ep, e2, c⟩, r⟩ := x
    exact ⟨ho _ d, z, ne, k _ _ (.inl rfl) e, mA, ⟨od, es, ep, k _ _ (.inr d) e2, c⟩, r⟩
  | own y => obtain ⟨ob, e⟩ := x; exact ⟨ob, k _ _ (.inl rfl) e⟩
  | xd fs => obtain ⟨mA, ⟨od, es, ep, e, c⟩, r⟩ := x; exact ⟨mA, ⟨od, es, ep, k _ _ (.inl rfl) e, c⟩, r⟩
  | rng lo hi => obtain ⟨t, u, v, e⟩ := x; exact ⟨t, u, v, k _ _ (.inl rfl) e⟩
  | frz ob u ih => obtain ⟨e, q⟩ := x; exact ⟨k _ _ (.inl rfl) e, ih q⟩
  | tbl ps =>
    have e : h.get? a = some { cls := .none, data := .fields ps } := x
    show h'.get? a = some { cls := .none, data := .fields ps }
    exact k a _ (.inl rfl) e
  | met f y =>
    have e : h.get? a = some (PySem.W.methodObj (.ref f) (.ref y)) := x
    show h'.get? a = some (PySem.W.methodObj (.ref f) (.ref y))
    exact k a _ (.inl rfl) e
  | ext φ => obtain ⟨p, ⟨o, e⟩, st⟩ := x; exact ⟨st _ _ p fun o q => k _ _ (.inl rfl) q, ⟨o, k _ _ (.inl rfl) e⟩, st⟩
theorem HOk.lt (x : HOk P w H h) (e : H a = some o) : a < h.objs.size := (x a o e).lt
theorem HOk.fresh (x : HOk P w H h) (e : h.objs.size ≤ a) : H a = none := by
  cases q : H a with
  | none => rfl
  | some u => exact absurd (Nat.lt_of_lt_of_le (x.lt q) e) (Nat.lt_irrefl _)
/-- every object of the heap is kept -/
theorem HOk.kept (x : HOk P w H h) (k : ∀ b u, h.get? b = some u → h'.get? b = some u) : HOk P w H h' := fun a o e =>
  (x a o e).stay (fun b u _ q => k b u q) (fun _ q => q) fun _ _ q => q
/-- a new object is laid and tracked -/
theorem HOk.laid (x : HOk P w H h) (k : ∀ b u, h.get? b = some u → h'.get? b = some u) (hp : h.objs.size ≤ a) (new : ObjOk P w (upd H a o) h' a o) : HOk P w (upd H a o) h' := fun b u e => by
  have hn := x.fresh hp
  by_cases hb : b = a
  · subst hb; rw [upd_same] at e; cases e; exact new
  · rw [upd_ne hb] at e
    exact (x b u e).stay (fun c v _ q => k c v q) (fun c q => by rw [upd_ne (ne_of_none q hn)]; exact q) fun c xs q => by rw [upd_ne (ne_of_none q hn)]; exact q
end

/-- what may be read as u: it is u, or a known u -/
def Rd (H : Hp) (a : Addr) (u : HO) : Prop := H a = some u ∨ ∃ o, H a = some (.frz o u)
theorem Rd.of {H : Hp} {a : Addr} {u : HO} (h : H a = some u) : Rd H a u := .inl h
theorem Rd.ok {P : Program} {w : World} {H : Hp} {h : Heap} {a : Addr} {u : HO} (r : Rd H a u) (x : HOk P w H h) : ObjOk P w H h a u := by
  rcases r with r | ⟨o, r⟩
  · exact x a u r
  · obtain ⟨_, q⟩ := x a _ r
    exact q
/-- what may be written -/
def Mut : Option HO → Prop
  | some (.lst _) => True
  | some (.dK _) => True
  | some (.dT _) => True
  | some (.set _ _) => True
  | some (.ins _ _ _) => True
  | some (.ext _) => True
  | _ => False
section
variable {P : Program} {w : World} {H : Hp} {h h' : Heap} {x e : Addr} {o' : HO}
/-- the object at e is changed: x itself, or the dict of the instance x -/
theorem HOk.write (ok : HOk P w H h) (mu : Mut (H x)) (he : e = x ∨ H e = some (.own x)) (k : ∀ b u, b ≠ e → h.get? b = some u → h'.get? b = some u) (heo : ∃ u, h'.get? e = some u)
    (new : ObjOk P w (upd H x o') h' x o') : HOk P w (upd H x o') h' := fun b u q => by
  have nown : ∀ c y, H c = some (.own y) → c ≠ x := fun c y r z => by subst z; rw [r] at mu; exact mu
  have ntup : ∀ c xs, H c = some (.tup xs) → c ≠ x := fun c xs r z => by subst z; rw [r] at mu; exact mu
  by_cases hb : b = x
  · subst hb; rw [upd_same] at q; cases q; exact new
  · rw [upd_ne hb] at q
    by_cases hbe : b = e
    · have q' : H b = some (.own x) := by
        rcases he with z | z
        · exact absurd (hbe.trans z) hb
        · rw [hbe]; exact z
      rw [q] at q'; cases q'
      obtain ⟨v, hv⟩ := heo
      exact ⟨v, by rw [hbe]; exact hv⟩
    · refine (ok b u q).stay (fun c v hc r => k c v ?_ r) (fun c r => by rw [upd_ne (nown c b r)]; exact r) fun c xs r => by rw [upd_ne (ntup c xs r)]; exact r
      rcases hc with rfl | hc
      · exact hbe
      · rintro rfl
        rcases he with z | z
        · exact nown c b hc z
        · rw [hc] at z; cases z; exact hb rfl
end

/-! ### kept unless tracked; of the frames at fs (the callers') the slots may change (an exception that passes writes there); of the records at ex (iterators) nothing is said -/
structure Un (fs ex : List Addr) (H H' : Hp) (h h' : Heap) : Prop where
  keep : ∀ b o, h.get? b = some o → H b = none → b ∉ fs → b ∉ ex → h'.get? b = some o
  slot : ∀ b o, h.get? b = some o → H b = none → b ∈ fs → b ∉ ex → ∃ sl, h'.get? b = some { o with slots := sl }
  free : ∀ b o, h.get? b = some o → H b = none → b ∉ ex → H' b = none
  there : ∀ b o, h.get? b = some o → b ∉ ex → ∃ o', h'.get? b = some o'
  tups : ∀ b xs, H b = some (.tup xs) → H' b = some (.tup xs)
  frzs : ∀ b o u, H b = some (.frz o u) → H' b = some (.frz o u)
  tbls : ∀ b ps, H b = some (.tbl ps) → ∃ more, H' b = some (.tbl (ps ++ more))
section
variable {fs fs' ex ex' : List Addr} {H H1 H2 : Hp} {h h1 h2 h' : Heap} {a x e : Addr} {o : HO}
theorem Un.any (u : Un fs ex H H1 h h1) {b : Addr} {ob : Obj} (q : h.get? b = some ob) (n : H b = none) (hx : b ∉ ex) : ∃ sl, h1.get? b = some { ob with slots := sl } := by
  by_cases hb : b ∈ fs
  · exact u.slot b ob q n hb hx
  · exact ⟨ob.slots, u.keep b ob q n hb hx⟩
theorem Un.trans (a : Un fs ex H H1 h h1) (b : Un fs ex H1 H2 h1 h2) : Un fs ex H H2 h h2 where
  keep := fun c ob q n hc hx => b.keep c ob (a.keep c ob q n hc hx) (a.free c ob q n hx) hc hx
  slot := fun c ob q n hc hx => by
    obtain ⟨sl, e1⟩ := a.slot c ob q n hc hx
    obtain ⟨sl', e2⟩ := b.slot c _ e1 (a.free c ob q n hx) hc hx
    exact ⟨sl', e2⟩
  free := fun c ob q n hx => by
    obtain ⟨o', e1⟩ := a.there c ob q hx
    exact b.free c o' e1 (a.free c ob q n hx) hx
  there := fun c ob q hx => by
    obtain ⟨o', e1⟩ := a.there c ob q hx
    exact b.there c o' e1 hx
  tups := fun c xs q => b.tups c xs (a.tups c xs q)
  frzs := fun c ob xs q => b.frzs c ob xs (a.frzs c ob xs q)
  tbls := fun c ps q => by
    obtain ⟨m1, e1⟩ := a.tbls c ps q
    obtain ⟨m2, e2⟩ := b.tbls c _ e1
    exact ⟨m1 ++ m2, by rw [e2, Array.append_assoc]⟩
theorem Un.kept (k : ∀ b u, h.get? b = some u → h'.get? b = some u) : Un fs ex H H h h' :=
  ⟨fun b ob q _ _ _ => k b ob q, fun b ob q _ _ _ => ⟨ob.slots, k b ob q⟩, fun _ _ _ n _ => n, fun b ob q _ => ⟨ob, k b ob q⟩, fun _ _ q => q, fun _ _ _ q => q, fun _ ps q => ⟨#[], by rw [q]; simp⟩⟩
theorem Un.refl : Un fs ex H H h h := Un.kept fun _ _ q => q
theorem Un.laid (k : ∀ b u, h.get? b = some u → h'.get? b = some u) (hp : h.objs.size ≤ a) (hn : H a = none) : Un fs ex H (upd H a o) h h' where
  keep := fun b u q _ _ _ => k b u q
  slot := fun b u q _ _ _ => ⟨u.slots, k b u q⟩
  free := fun b u q n _ => by rw [upd_ne (Nat.ne_of_lt (Nat.lt_of_lt_of_le (Heap.lt_size q) hp))]; exact n
  there := fun b u q _ => ⟨u, k b u q⟩
  tups := fun b xs q => by rw [upd_ne (ne_of_none q hn)]; exact q
  frzs := fun b u xs q => by rw [upd_ne (ne_of_none q hn)]; exact q
  tbls := fun b ps q => ⟨#[], by rw [upd_ne (ne_of_none q hn), q]; simp⟩
theorem Un.write (mu : Mut (H x)) (he : e = x ∨ H e = some (.own x)) (k : ∀ b u, b ≠ e → h.get? b = some u → h'.get? b = some u) (heo : ∃ u, h'.get? e = some u) : Un fs ex H (upd H x o) h h' := by
  have hx : ∀ b, H b = none → b ≠ x := fun b n z => by subst z; rw [n] at mu; exact mu
  have hb : ∀ b, H b = none → b ≠ e := fun b n z => by
    subst z
    rcases he with r | r
    · exact hx b n r
    · rw [n] at r; cases r
  have hm : ∀ b u, H b = some u → ¬ Mut (some u) → b ≠ x := fun b u q nm z => by subst z; rw [q] at mu; exact nm mu
  refine ⟨fun b u q n _ _ => k b u (hb b n) q, fun b u q n _ _ => ⟨u.slots, k b u (hb b n) q⟩, fun b u q n _ => by rw [upd_ne (hx b n)]; exact n, fun b u q _ => ?_,
    fun b xs q => by rw [upd_ne (hm b _ q fun z => z)]; exact q, fun b u xs q => by rw [upd_ne (hm b _ q fun z => z)]; exact q, fun b ps q => ⟨#[], by rw [upd_ne (hm b _ q fun z => z), q]; simp⟩⟩
  by_cases hbe : b = e
  · subst hbe; exact heo
  · exact ⟨u, k b u hbe q⟩
theorem Un.mono (u : Un fs ex H H1 h h1) (hs : ∀ b ∈ fs, b ∈ fs') (hx : ∀ b ∈ ex, b ∈ ex') : Un fs' ex' H H1 h h1 :=
  ⟨fun b ob q n hb he => u.keep b ob q n (fun z => hb (hs b z)) fun z => he (hx b z), fun _ _ q n _ he => u.any q n fun z => he (hx _ z), fun b ob q n he => u.free b ob q n fun z => he (hx b z), fun b ob q he => u.there b ob q fun z => he (hx b z), u.tups, u.frzs, u.tbls⟩
end

/-! ### the heap without what is tracked -/
def trk (h : Heap) (H : Hp) : List Addr := (List.range h.objs.size).filter fun a => (H a).isSome
def hidT (h : Heap) (H : Hp) : Heap := PySem.W.hideAll h (trk h H)
theorem hidT_size (h : Heap) (H : Hp) : (hidT h H).objs.size = h.objs.size := PySem.W.hideAll_size _ _
theorem hidT_get {h : Heap} {H : Hp} {b : Addr} {o : Obj} (e : h.get? b = some o) (n : H b = none) : (hidT h H).get? b = some o :=
  PySem.W.hideAll_get _ e fun hm => by
    have q : (H b).isSome = true := (List.mem_filter.mp hm).2
    rw [n] at q; simp at q
theorem of_hidT {h : Heap} {H : Hp} {b : Addr} {o : Obj} (e : (hidT h H).get? b = some o) : h.get? b = some o ∧ H b = none := by
  have e' : h.get? b = some o := PySem.W.of_hideAll (trk h H) e
  refine ⟨e', ?_⟩
  cases q : H b with
  | none => rfl
  | some x =>
    have hm : b ∈ trk h H := List.mem_filter.mpr ⟨List.mem_range.mpr (Heap.lt_size e'), by simp [q]⟩
    have z : (hidT h H).get? b = none := PySem.W.hideAll_none (trk h H) hm
    rw [z] at e; cases e

/-! ### OpenK's ledger, filled with every new object but one -/
def allNews (g h : Heap) (L : Addr) : List (Addr × Obj) := (List.range h.objs.size).filterMap fun a => if a = L ∨ (g.get? a).isSome = true then none else (h.get? a).map fun o => (a, o)
theorem mem_allNews {g h : Heap} {L a : Addr} {o : Obj} (h1 : a ≠ L) (h2 : g.get? a = none) (h3 : h.get? a = some o) : (a, o) ∈ allNews g h L :=
  List.mem_filterMap.mpr ⟨a, List.mem_range.mpr (Heap.lt_size h3), by simp [h1, h2, h3]⟩
theorem of_mem_allNews {g h : Heap} {L : Addr} {p : Addr × Obj} (hp : p ∈ allNews g h L) : p.1 ≠ L ∧ g.get? p.1 = none ∧ h.get? p.1 = some p.2 := by
  obtain ⟨b, _, e⟩ := List.mem_filterMap.mp hp
  split at e
  · cases e
  · rename_i hn
    cases q : h.get? b with
    | none => rw [q] at e; simp at e
    | some u =>
      rw [q] at e
      simp only [Option.map_some, Option.some.injEq] at e
      subst e
      refine ⟨fun z => hn (.inl z), ?_, q⟩
      show g.get? b = none
      cases r : g.get? b with
      | none => rfl
      | some v => exact (hn (.inr (by simp [r]))).elim
def rest (g h : Heap) (L d : Addr) : List (Addr × Obj) := (allNews g h L).filter fun p => decide (p.1 ≠ d)
theorem rest_ne {g h : Heap} {L d : Addr} : ∀ p ∈ rest g h L d, p.1 ≠ d := fun p hp => of_decide_eq_true (List.mem_filter.mp hp).2
theorem mem_rest {g h : Heap} {L d a : Addr} {o : Obj} (h1 : a ≠ L) (h2 : g.get? a = none) (h3 : h.get? a = some o) (h4 : a ≠ d) : (a, o) ∈ rest g h L d :=
  List.mem_filter.mpr ⟨mem_allNews h1 h2 h3, decide_eq_true h4⟩
theorem news_all {g h : Heap} {L : Addr} : News g L h (allNews g h L) := fun p hp => let ⟨a, b, c⟩ := of_mem_allNews hp; ⟨c, a, b⟩
theorem news_at {g h : Heap} {L d : Addr} {o : Obj} (h1 : d ≠ L) (h2 : g.get? d = none) (h3 : h.get? d = some o) : News g L h ((d, o) :: rest g h L d) := fun p hp => by
  rcases List.mem_cons.mp hp with rfl | hp
  · exact ⟨h3, h1, h2⟩
  · exact news_all p (List.mem_filter.mp hp).1
/-- behind a rule that changed d alone: all else but the frame is kept -/
theorem kept_of_news {g h h' : Heap} {L d : Addr} {m : Str → Option Value} (k : ∀ b o, g.get? b = some o → h.get? b = some o) (F : Fr g L h' m) (N : News g L h' (rest g h L d)) :
    ∀ b o, b ≠ L → b ≠ d → h.get? b = some o → h'.get? b = some o := fun b o h1 h2 e => by
  cases q : g.get? b with
  | some u =>
    have := k b u q
    rw [e] at this; cases this
    exact F.keep b _ q
  | none => exact (N (b, o) (mem_rest h1 q e h2)).1
end L2

namespace L2
open PySem PySem.Spec PyProof.Rows

/-- the module's facts, over the base: the heap at the law's entry without what is tracked there -/
structure Mod (K : PySem.W.Frag) (mg : Str → Option Value) (base : Heap) : Prop where
  kin : K.In base
  glob : base.Ns mainGlobals mg
  blt : ∃ mb, base.Ns builtinsNs mb ∧ ∀ x : Str, x ≠ "__name__" → mb x = bootBuiltins x
  nolimit : base.NoLimit

/-- the context: a def's body (or a comprehension's block) running. base: fixed through the whole law; s₀, H₀: the entry; outer: the frames whose slots others may change (a def's callers); stack: all frames that run;
   ex: iterators that were made ahead of the entry and are walked here (a comprehension's); fn: the names whose cells were made at the entry (a def: all; a comprehension's block: its own); calm: not within an except suite; pn: pins that every state bears; xe: what is wanted of an exception that leaves the code -/
structure Cx where
  prog : Program
  w : World
  K : PySem.W.Frag
  mg : Str → Option Value
  base : Heap
  A : Around
  N : List Str
  s₀ : Shared
  H₀ : Hp
  env : Env
  outer : List Env
  stack : List Env
  ex : List Addr
  fn : Str → Bool
  calm : Bool
  pn : List (Addr × Obj)
  xe : Value → Shared → Prop
/-- the callers' frames -/
def frs (l : List Env) : List Addr := l.filterMap (·.frame)
abbrev Cx.fs (X : Cx) : List Addr := frs X.outer

def Vis (sc : Scope) (x : Str) : Prop := sc.names.lookup x = some .local ∨ sc.names.lookup x = some .cell ∨ sc.names.lookup x = some .free
def Loc (sc : Scope) (x : Str) : Prop := sc.names.lookup x = some .local ∨ sc.names.lookup x = some .cell
def Look (env : Env) (h : Heap) (m : Str → Option Value) (x : Str) (u : Value) : Prop :=
  (env.kindOf x = some .local ∧ m x = some u) ∨ ((env.kindOf x = some .cell ∨ env.kindOf x = some .free) ∧ ∃ c, env.cells.lookup x = some c ∧ h.IsCell c (some u))

structure Cx.Ok (X : Cx) : Prop where
  mod : Mod X.K X.mg X.base
  kind : X.env.scope.kind = .function
  glob : X.env.globals = mainGlobals
  blt : X.env.builtins = builtinsNs
  above : X.s₀.heap.objs.size ≤ X.env.locals
  inj : ∀ x y c, X.env.cells.lookup x = some c → X.env.cells.lookup y = some c → x = y
  has : ∀ x, (X.env.kindOf x = some .cell ∨ X.env.kindOf x = some .free) → ∃ c, X.env.cells.lookup x = some c
  cab : ∀ x c, X.fn x = true → X.env.cells.lookup x = some c → X.s₀.heap.objs.size ≤ c
  hd : X.calm = true → X.A.handled = none
  frames : X.A.frames = some X.stack
  stk : X.stack = X.outer ∨ (X.stack = X.env :: X.outer ∧ X.env.frame = some X.env.locals)
  exf : ∀ b ∈ X.ex, b ≠ X.env.locals ∧ ∀ x c, X.env.cells.lookup x = some c → c ≠ b
  bs : ∀ b o, X.base.get? b = some o → X.s₀.heap.get? b = some o ∧ X.H₀ b = none
  bsz : X.base.objs.size ≤ X.s₀.heap.objs.size
  noex : ∀ b o, X.base.get? b = some o → b ∉ X.ex
  exfs : ∀ b ∈ X.ex, b ∉ X.fs
  funs : X.s₀.heap.FunFrames X.base X.outer
  frf : ∀ b ∈ X.fs, X.H₀ b = none

structure Inv (X : Cx) (pins : List (Addr × Obj)) (σ : List (Option V)) (H : Hp) (s : Shared) : Prop where
  ok : X.Ok
  os : s.os = X.s₀.os
  bare : AllBare s.gens
  base : Un X.fs X.ex X.H₀ H X.s₀.heap s.heap
  loc : ∃ m, s.heap.Ns X.env.locals m ∧ ∀ (i : Nat) (x : Str) (v : V), X.N[i]? = some x → σ[i]? = some (some v) → Vis X.env.scope x → ∃ u, RelV v u ∧ Look X.env s.heap m x u
  cell : ∀ x c, X.env.cells.lookup x = some c → ∃ v, s.heap.IsCell c v
  free : H X.env.locals = none
  freeC : ∀ x c, X.env.cells.lookup x = some c → H c = none
  pin : ∀ p ∈ X.pn ++ pins, s.heap.get? p.1 = some p.2 ∧ H p.1 = none ∧ p.1 ≠ X.env.locals ∧ p.1 ∉ X.fs ∧ ∀ v, p.2.data ≠ .cell v
  hok : HOk X.prog X.w H s.heap
  len : σ.length = X.N.length

section
variable {X : Cx} {pins : List (Addr × Obj)} {σ : List (Option V)} {H H' : Hp} {s : Shared} {h' : Heap}

theorem Cx.Ok.nofr (ok : X.Ok) {b : Addr} {o : Obj} (e : X.base.get? b = some o) : b ∉ X.fs := fun hb => by
  have := (ok.funs.mem hb).1
  rw [e] at this; cases this
theorem Inv.bs (I : Inv X pins σ H s) : ∀ b o, X.base.get? b = some o → s.heap.get? b = some o ∧ H b = none := fun b o e =>
  ⟨I.base.keep b o (I.ok.bs b o e).1 (I.ok.bs b o e).2 (I.ok.nofr e) (I.ok.noex b o e), I.base.free b o (I.ok.bs b o e).1 (I.ok.bs b o e).2 (I.ok.noex b o e)⟩
theorem Inv.bk (I : Inv X pins σ H s) : ∀ b o, X.base.get? b = some o → s.heap.get? b = some o := fun b o e => (I.bs b o e).1
theorem Inv.mod (I : Inv X pins σ H s) : Mod X.K X.mg X.base := I.ok.mod
theorem Inv.kIn (I : Inv X pins σ H s) : X.K.In s.heap := I.ok.mod.kin.keeps I.bk
theorem Inv.nolimit (I : Inv X pins σ H s) : s.heap.NoLimit := I.ok.mod.nolimit.keeps I.bk
/-- the frame over the base: for OpenK's rules (K.In X.base is I.mod.kin) -/
theorem Inv.fr (I : Inv X pins σ H s) : ∃ m, Fr X.base X.env.locals s.heap m :=
  let ⟨m, hn, _⟩ := I.loc
  ⟨m, hn, I.bk, Nat.le_trans I.ok.bsz I.ok.above⟩
theorem Inv.lt (I : Inv X pins σ H s) : X.env.locals < s.heap.objs.size := let ⟨_, hn, _⟩ := I.loc; hn.lt
theorem Inv.sz (I : Inv X pins σ H s) : X.s₀.heap.objs.size ≤ s.heap.objs.size := Nat.le_trans I.ok.above (Nat.le_of_lt I.lt)
theorem Inv.nofs (I : Inv X pins σ H s) {a : Addr} (h : s.heap.objs.size ≤ a) : a ∉ X.fs := fun hb => by
  obtain ⟨_, o, ho, _⟩ := I.ok.funs.mem hb
  exact absurd (Nat.lt_of_lt_of_le (Heap.lt_size ho) (Nat.le_trans I.sz h)) (Nat.lt_irrefl _)
theorem Inv.cne (I : Inv X pins σ H s) : ∀ x c, X.env.cells.lookup x = some c → c ≠ X.env.locals := fun x c e z => by
  obtain ⟨v, o, ho, hd⟩ := I.cell x c e
  obtain ⟨m, ⟨o', es, ep, ho', hd', _⟩, _⟩ := I.loc
  rw [z, ho'] at ho; cases ho; rw [hd'] at hd; cases hd
theorem Inv.funs (I : Inv X pins σ H s) : s.heap.FunFrames X.base X.outer := by
  have all : ∀ (l : List Env), (∀ b ∈ frs l, b ∈ X.fs) → X.s₀.heap.FunFrames X.base l → s.heap.FunFrames X.base l := by
    intro l
    induction l with
    | nil => intro _ _; trivial
    | cons env r ih =>
      intro hs hl
      obtain ⟨hk, ⟨L, o, hf, hn, ho, hd⟩, hr⟩ := hl
      have hL : L ∈ X.fs := hs L (by unfold frs; rw [List.filterMap_cons, hf]; exact List.mem_cons_self)
      obtain ⟨sl, e⟩ := I.base.slot L o ho (I.ok.frf L hL) hL fun z => I.ok.exfs L z hL
      exact ⟨hk, ⟨L, _, hf, hn, e, hd⟩, ih (fun b hb => hs b (by unfold frs; rw [List.filterMap_cons, hf]; exact List.mem_cons_of_mem _ hb)) hr⟩
  exact all X.outer (fun _ hb => hb) I.ok.funs

/-- the frames that run, for a call -/
theorem Inv.stack (I : Inv X pins σ H s) : s.heap.FunFrames X.base X.stack := by
  rcases I.ok.stk with e | ⟨e, hf⟩
  · rw [e]; exact I.funs
  · rw [e]
    obtain ⟨m, hn, _⟩ := I.loc
    refine .cons (by rw [I.ok.kind]; decide) hf hn ?_ I.funs
    exact Heap.get?_none_of_le (Nat.le_trans I.ok.bsz I.ok.above)
theorem Inv.stkSub (I : Inv X pins σ H s) : ∀ b ∈ frs X.stack, b ∈ X.env.locals :: X.fs := fun b hb => by
  rcases I.ok.stk with e | ⟨e, hf⟩
  · rw [e] at hb; exact List.mem_cons_of_mem _ hb
  · rw [e] at hb
    unfold frs at hb
    rw [List.filterMap_cons, hf] at hb
    exact hb
theorem Inv.stkFree (I : Inv X pins σ H s) : ∀ b ∈ frs X.stack, H b = none := fun b hb => by
  rcases List.mem_cons.mp (I.stkSub b hb) with e | hb
  · rw [e]; exact I.free
  · obtain ⟨_, o, ho, _⟩ := I.ok.funs.mem hb
    exact I.base.free b o ho (I.ok.frf b hb) fun z => I.ok.exfs b z hb

/-- THE STEP: the untracked objects but the frame and the records at ch are kept (the callers' frames up to slots), the frame's map is kept, the new abstract heap is held -/
theorem Inv.step {g' : Array GenState} {t' : Nat} {d' : Drawn} {ch : List Addr} (I : Inv X pins σ H s)
    (hch : ∀ b ∈ ch, (b ∈ X.ex ∨ X.s₀.heap.objs.size ≤ b) ∧ b ≠ X.env.locals ∧ (∀ x c, X.env.cells.lookup x = some c → c ≠ b) ∧ ∀ p ∈ X.pn ++ pins, p.1 ≠ b)
    (keep : ∀ b o, b ≠ X.env.locals → b ∉ X.fs → b ∉ ch → s.heap.get? b = some o → H b = none → h'.get? b = some o)
    (slot : ∀ b o, b ≠ X.env.locals → b ∈ X.fs → b ∉ ch → s.heap.get? b = some o → H b = none → ∃ sl, h'.get? b = some { o with slots := sl }) (free : ∀ b o, b ∉ ch → s.heap.get? b = some o → H b = none → H' b = none)
    (there : ∀ b o, b ∉ ch → s.heap.get? b = some o → ∃ o', h'.get? b = some o')
    (tups : ∀ b xs, H b = some (.tup xs) → H' b = some (.tup xs)) (frzs : ∀ b o u, H b = some (.frz o u) → H' b = some (.frz o u)) (tbls : ∀ b ps, H b = some (.tbl ps) → ∃ more, H' b = some (.tbl (ps ++ more)))
    (ns : ∀ m, s.heap.Ns X.env.locals m → h'.Ns X.env.locals m) (hok : HOk X.prog X.w H' h') (hg : AllBare g') :
    Inv X pins σ H' { s with heap := h', gens := g', drawn := d', toks := t' } := by
  have neL : ∀ b o, X.s₀.heap.get? b = some o → b ≠ X.env.locals := fun b o e => Nat.ne_of_lt (Nat.lt_of_lt_of_le (Heap.lt_size e) I.ok.above)
  have neC : ∀ b o, X.s₀.heap.get? b = some o → b ∉ X.ex → b ∉ ch := fun b o e hx hb => by
    rcases (hch b hb).1 with z | z
    · exact hx z
    · exact absurd (Nat.lt_of_lt_of_le (Heap.lt_size e) z) (Nat.lt_irrefl _)
  have cellK : ∀ x c, X.env.cells.lookup x = some c → ∀ v, s.heap.IsCell c v → h'.IsCell c v := fun x c e v ⟨o, ho, hd⟩ => by
    have nch : c ∉ ch := fun z => (hch c z).2.2.1 x c e rfl
    by_cases hc : c ∈ X.fs
    · obtain ⟨sl, q⟩ := slot c o (I.cne x c e) hc nch ho (I.freeC x c e)
      exact ⟨_, q, hd⟩
    · exact ⟨o, keep c o (I.cne x c e) hc nch ho (I.freeC x c e), hd⟩
  refine ⟨I.ok, I.os, hg, ⟨fun b o e n hb hx => ?_, fun b o e n hb hx => ?_, fun b o e n hx => ?_, fun b o e hx => ?_, fun b xs e => tups b xs (I.base.tups b xs e), fun b o xs e => frzs b o xs (I.base.frzs b o xs e), fun b ps e => ?_⟩, ?_, fun x c e => ?_, ?_, fun x c e => ?_, fun p hp => ?_, hok, I.len⟩
  · exact keep b o (neL b o e) hb (neC b o e hx) (I.base.keep b o e n hb hx) (I.base.free b o e n hx)
  · obtain ⟨sl, e1⟩ := I.base.slot b o e n hb hx
    obtain ⟨sl', e2⟩ := slot b _ (neL b o e) hb (neC b o e hx) e1 (I.base.free b o e n hx)
    exact ⟨sl', e2⟩
  · obtain ⟨o', e1⟩ := I.base.there b o e hx
    exact free b o' (neC b o e hx) e1 (I.base.free b o e n hx)
  · obtain ⟨o', e1⟩ := I.base.there b o e hx
    exact there b o' (neC b o e hx) e1
  · obtain ⟨m1, e1⟩ := I.base.tbls b ps e
    obtain ⟨m2, e2⟩ := tbls b _ e1
    exact ⟨m1 ++ m2, by rw [e2, Array.append_assoc]⟩
  · obtain ⟨m, hn, hl⟩ := I.loc
    refine ⟨m, ns m hn, fun i x v e1 e2 e3 => ?_⟩
    obtain ⟨u, r, l⟩ := hl i x v e1 e2 e3
    refine ⟨u, r, ?_⟩
    rcases l with l | ⟨k, c, e, z⟩
    · exact .inl l
    · exact .inr ⟨k, c, e, cellK x c e _ z⟩
  · obtain ⟨v, z⟩ := I.cell x c e
    exact ⟨v, cellK x c e v z⟩
  · obtain ⟨m, ⟨o, _, _, ho, _⟩, _⟩ := I.loc
    exact free _ o (fun z => (hch _ z).2.1 rfl) ho I.free
  · obtain ⟨v, o, ho, hd⟩ := I.cell x c e
    exact free c o (fun z => (hch c z).2.2.1 x c e rfl) ho (I.freeC x c e)
  · obtain ⟨e, n, ne, nf, d⟩ := I.pin p hp
    have nch : p.1 ∉ ch := fun z => (hch p.1 z).2.2.2 p hp rfl
    exact ⟨keep p.1 p.2 ne nf nch e n, free p.1 p.2 nch e n, ne, nf, d⟩
/-- .. where the frame's own object is kept too -/
theorem Inv.un {t' : Nat} (I : Inv X pins σ H s) (u : Un X.fs [] H H' s.heap h') (hok : HOk X.prog X.w H' h') : Inv X pins σ H' { s with heap := h', toks := t' } := by
  obtain ⟨m, ⟨o, es, ep, ho, r⟩, _⟩ := id I.loc
  obtain ⟨sl, hL⟩ := u.any ho I.free (by simp)
  exact I.step (g' := s.gens) (d' := s.drawn) (ch := []) (fun _ z => nomatch z) (fun b o _ hb _ e n => u.keep b o e n hb (by simp)) (fun b o _ hb _ e n => u.slot b o e n hb (by simp)) (fun b o _ e n => u.free b o e n (by simp)) (fun b o _ e => u.there b o e (by simp)) u.tups u.frzs u.tbls (fun m' hm => by
    obtain ⟨o', es', ep', ho', r'⟩ := hm
    rw [ho] at ho'; cases ho'
    exact ⟨_, es', ep', hL, r'⟩) hok I.bare
/-- behind a call (or a comprehension's block): the slots of this frame may have changed too, the records at ch may have turned -/
theorem Inv.call {g' : Array GenState} {t' : Nat} {d' : Drawn} {ch : List Addr} (I : Inv X pins σ H s) (u : Un (frs X.stack) ch H H' s.heap h') (hok : HOk X.prog X.w H' h') (hg : AllBare g')
    (hch : ∀ b ∈ ch, (b ∈ X.ex ∨ X.s₀.heap.objs.size ≤ b) ∧ b ≠ X.env.locals ∧ (∀ x c, X.env.cells.lookup x = some c → c ≠ b) ∧ ∀ p ∈ X.pn ++ pins, p.1 ≠ b) :
    Inv X pins σ H' { s with heap := h', gens := g', drawn := d', toks := t' } := by
  obtain ⟨m, ⟨o, es, ep, ho, r⟩, _⟩ := id I.loc
  obtain ⟨sl, hL⟩ := u.any ho I.free fun z => (hch _ z).2.1 rfl
  exact I.step (ch := ch) hch (fun b o hL hb hc e n => u.keep b o e n (fun z => (List.mem_cons.mp (I.stkSub b z)).elim hL hb) hc) (fun b o _ _ hc e n => u.any e n hc) (fun b o hc e n => u.free b o e n hc) (fun b o hc e => u.there b o e hc) u.tups u.frzs u.tbls (fun m' hm => by
    obtain ⟨o', es', ep', ho', r'⟩ := hm
    rw [ho] at ho'; cases ho'
    exact ⟨_, es', ep', hL, r'⟩) hok hg
/-- an untracked record of ours (an iterator) has turned -/
theorem Inv.turned {t' : Nat} {it : Addr} (I : Inv X pins σ H s) (k : ∀ b o, b ≠ it → s.heap.get? b = some o → h'.get? b = some o) (hn : H it = none) (hL : it ≠ X.env.locals)
    (h1 : it ∈ X.ex ∨ X.s₀.heap.objs.size ≤ it) (h2 : ∀ x c, X.env.cells.lookup x = some c → c ≠ it) (h3 : ∀ p ∈ X.pn ++ pins, p.1 ≠ it) : Inv X pins σ H { s with heap := h', toks := t' } := by
  have nit : ∀ b u, H b = some u → b ≠ it := fun b u e z => by rw [z, hn] at e; cases e
  refine I.step (g' := s.gens) (d' := s.drawn) (ch := [it]) (fun b hb => ?_) (fun b o _ _ hc e _ => k b o (fun z => hc (by simp [z])) e) (fun b o _ _ hc e _ => ⟨o.slots, k b o (fun z => hc (by simp [z])) e⟩) (fun _ _ _ _ n => n)
    (fun b o hc e => ⟨o, k b o (fun z => hc (by simp [z])) e⟩) (fun _ _ e => e) (fun _ _ _ e => e) (fun b ps e => ⟨#[], by rw [e]; simp⟩) (fun m hm => ?_) (fun b u e => ?_) I.bare
  · have e : b = it := by simpa using hb
    subst e
    exact ⟨h1, hL, h2, h3⟩
  · obtain ⟨o, es, ep, ho, r⟩ := hm
    exact ⟨o, es, ep, k _ o (Ne.symm hL) ho, r⟩
  · refine (I.hok b u e).stay (fun c v hc q => k c v ?_ q) (fun _ q => q) fun _ _ q => q
    rcases hc with z | z
    · rw [z]; exact nit b u e
    · exact nit c _ z
theorem Inv.tok (I : Inv X pins σ H s) (t : Nat) : Inv X pins σ H { s with toks := t } := I.un (h' := s.heap) (t' := t) Un.refl I.hok
/-- all objects kept -/
theorem Inv.kept {t' : Nat} (I : Inv X pins σ H s) (k : ∀ b u, s.heap.get? b = some u → h'.get? b = some u) : Inv X pins σ H { s with heap := h', toks := t' } := I.un (Un.kept k) (I.hok.kept k)
/-- a new object laid and tracked -/
theorem Inv.laid {a : Addr} {o : HO} {t' : Nat} (I : Inv X pins σ H s) (k : ∀ b u, s.heap.get? b = some u → h'.get? b = some u) (hp : s.heap.objs.size ≤ a) (new : ObjOk X.prog X.w (upd H a o) h' a o) :
    Inv X pins σ (upd H a o) { s with heap := h', toks := t' } := I.un (Un.laid k hp (I.hok.fresh hp)) (I.hok.laid k hp new)
/-- an object written -/
theorem Inv.write {x e : Addr} {o : HO} {t' : Nat} (I : Inv X pins σ H s) (mu : Mut (H x)) (he : e = x ∨ H e = some (.own x)) (k : ∀ b u, b ≠ e → s.heap.get? b = some u → h'.get? b = some u) (heo : ∃ u, h'.get? e = some u)
    (new : ObjOk X.prog X.w (upd H x o) h' x o) : Inv X pins σ (upd H x o) { s with heap := h', toks := t' } := I.un (Un.write mu he k heo) (I.hok.write mu he k heo new)
/-- forgetting slots, pins -/
theorem Inv.weak {σ' : List (Option V)} (I : Inv X pins σ H s) (hl : σ'.length = σ.length) (w : ∀ (i : Nat) v, σ'[i]? = some (some v) → σ[i]? = some (some v)) : Inv X pins σ' H s :=
  ⟨I.ok, I.os, I.bare, I.base, let ⟨m, hn, hl'⟩ := I.loc; ⟨m, hn, fun i x v e1 e2 e3 => hl' i x v e1 (w i v e2) e3⟩, I.cell, I.free, I.freeC, I.pin, I.hok, hl.trans I.len⟩
theorem Inv.pins_of {pins' : List (Addr × Obj)} (I : Inv X pins σ H s) (h : ∀ p ∈ pins', s.heap.get? p.1 = some p.2 ∧ H p.1 = none ∧ p.1 ≠ X.env.locals ∧ p.1 ∉ X.fs ∧ ∀ v, p.2.data ≠ .cell v) : Inv X pins' σ H s :=
  ⟨I.ok, I.os, I.bare, I.base, I.loc, I.cell, I.free, I.freeC, fun p hp => (List.mem_append.mp hp).elim (fun z => I.pin p (List.mem_append_left _ z)) (h p), I.hok, I.len⟩

theorem nodup_ix {N : List Str} (hN : N.Nodup) {i j : Nat} {x : Str} (a : N[i]? = some x) (b : N[j]? = some x) : i = j := by
  obtain ⟨h1, e1⟩ := List.getElem?_eq_some_iff.mp a
  obtain ⟨h2, e2⟩ := List.getElem?_eq_some_iff.mp b
  exact (List.getElem_inj hN).mp (e1.trans e2.symm)

/-- a name is stored; what changed -/
theorem store_ok2 {M : Model} {A : Around} {E : Value → Shared → Prop} {i : Nat} {x : Str} {v : V} {u : Value} {Q : Unit → Shared → Prop} (I : Inv X pins σ H s) (hN : X.N.Nodup) (hi : X.N[i]? = some x) (hx : Loc X.env.scope x) (r : RelV v u)
    (h : ∀ s', Inv X pins (σ.set i (some v)) H s' → (∃ a, Heap.SameBut a s.heap s'.heap ∧ (a = X.env.locals ∨ X.env.cells.lookup x = some a)) → Q () s') (hf : X.fn x = true ∨ X.env.scope.names.lookup x = some .local := by first | exact .inl rfl | exact .inr rfl | assumption) : wpAny M A (storeName X.env x u) Q E s := by
  obtain ⟨m, hn, hl⟩ := id I.loc
  have hcls : (X.env.scope.kind == .class || (X.env.scope.kind == .module && X.env.locals != X.env.globals)) = false := by rw [I.ok.kind]; rfl
  have hiσ : i < σ.length := by rw [I.len]; exact (List.getElem?_eq_some_iff.mp hi).1
  have cne := I.cne
  have tracked : ∀ {a : Addr} {h' : Heap}, (∃ o, s.heap.get? a = some o ∧ H a = none) → Heap.SameBut a s.heap h' → HOk X.prog X.w H h' := fun {a h'} ha hs b ob e => by
    obtain ⟨_, _, hfree⟩ := ha
    refine (I.hok b ob e).stay (fun c w' hc q => (hs.2 c ?_).trans q) (fun _ q => q) fun _ _ q => q
    rintro rfl
    rcases hc with rfl | hc
    · rw [hfree] at e; cases e
    · rw [hfree] at hc; cases hc
  rcases hx with hk | hk
  · refine wpAny_storeName_local hk hn (fun h' hn' hs => ?_) hcls
    obtain ⟨oL, _, _, hoL, _⟩ := id hn
    refine h _ ⟨I.ok, I.os, I.bare, ⟨fun b o e n hb hx => ?_, fun b o e n hb hx => ?_, I.base.free, fun b o e hx => ?_, I.base.tups, I.base.frzs, I.base.tbls⟩, ⟨_, hn', fun j y v' e1 e2 e3 => ?_⟩, fun y c e => ?_, I.free, I.freeC, fun p hp => ?_, tracked ⟨oL, hoL, I.free⟩ hs, by simpa using I.len⟩ ⟨_, hs, .inl rfl⟩
    · exact (hs.2 b (Nat.ne_of_lt (Nat.lt_of_lt_of_le (Heap.lt_size e) I.ok.above))).trans (I.base.keep b o e n hb hx)
    · obtain ⟨sl, e1⟩ := I.base.slot b o e n hb hx
      exact ⟨sl, (hs.2 b (Nat.ne_of_lt (Nat.lt_of_lt_of_le (Heap.lt_size e) I.ok.above))).trans e1⟩
    · obtain ⟨o', e1⟩ := I.base.there b o e hx
      exact ⟨o', (hs.2 b (Nat.ne_of_lt (Nat.lt_of_lt_of_le (Heap.lt_size e) I.ok.above))).trans e1⟩
    · by_cases hj : j = i
      · subst hj
        rw [hi] at e1; cases e1
        rw [List.getElem?_set_self hiσ] at e2
        cases e2
        exact ⟨u, r, .inl ⟨hk, by simp⟩⟩
      · rw [List.getElem?_set_ne (Ne.symm hj)] at e2
        obtain ⟨u', r', q⟩ := hl j y v' e1 e2 e3
        refine ⟨u', r', ?_⟩
        rcases q with ⟨k, e⟩ | ⟨k, c, e, z⟩
        · refine .inl ⟨k, ?_⟩
          have : y ≠ x := fun e => hj (nodup_ix hN e1 (e ▸ hi))
          simp [this, e]
        · exact .inr ⟨k, c, e, z.sameBut hs (cne y c e)⟩
    · obtain ⟨w', z⟩ := I.cell y c e
      exact ⟨w', z.sameBut hs (cne y c e)⟩
    · obtain ⟨e, n, ne, nf, d⟩ := I.pin p hp
      exact ⟨(hs.2 p.1 ne).trans e, n, ne, nf, d⟩
  · have hfn : X.fn x = true := by
      rcases hf with z | z
      · exact z
      · rw [z] at hk; cases hk
    obtain ⟨c, hc⟩ := I.ok.has x (.inl hk)
    obtain ⟨w', z⟩ := I.cell x c hc
    refine wpAny_storeName_cell I.ok.kind hk hc z (fun h' hc' hs => ?_)
    obtain ⟨oc, hoc, hocd⟩ := id z
    refine h { s with heap := h' } ⟨I.ok, I.os, I.bare, ⟨fun b o e n hb hx => ?_, fun b o e n hb hx => ?_, I.base.free, fun b o e hx => ?_, I.base.tups, I.base.frzs, I.base.tbls⟩, ⟨m, hn.sameBut hs (Ne.symm (cne x c hc)), fun j y v' e1 e2 e3 => ?_⟩, fun y c' e => ?_, I.free, I.freeC, fun p hp => ?_, tracked ⟨oc, hoc, I.freeC x c hc⟩ hs, by simpa using I.len⟩ ⟨c, hs, .inr hc⟩
    · exact (hs.2 b (Nat.ne_of_lt (Nat.lt_of_lt_of_le (Heap.lt_size e) (I.ok.cab x c hfn hc)))).trans (I.base.keep b o e n hb hx)
    · obtain ⟨sl, e1⟩ := I.base.slot b o e n hb hx
      exact ⟨sl, (hs.2 b (Nat.ne_of_lt (Nat.lt_of_lt_of_le (Heap.lt_size e) (I.ok.cab x c hfn hc)))).trans e1⟩
    · obtain ⟨o', e1⟩ := I.base.there b o e hx
      exact ⟨o', (hs.2 b (Nat.ne_of_lt (Nat.lt_of_lt_of_le (Heap.lt_size e) (I.ok.cab x c hfn hc)))).trans e1⟩
    · by_cases hj : j = i
      · subst hj
        rw [hi] at e1; cases e1
        rw [List.getElem?_set_self hiσ] at e2
        cases e2
        exact ⟨u, r, .inr ⟨.inl hk, c, hc, hc'⟩⟩
      · rw [List.getElem?_set_ne (Ne.symm hj)] at e2
        obtain ⟨u', r', q⟩ := hl j y v' e1 e2 e3
        refine ⟨u', r', ?_⟩
        rcases q with q | ⟨k, c', e, z'⟩
        · exact .inl q
        · refine .inr ⟨k, c', e, z'.sameBut hs ?_⟩
          rintro rfl
          exact hj (nodup_ix hN e1 (I.ok.inj _ _ _ e hc ▸ hi))
    · by_cases hcc : c' = c
      · subst hcc; exact ⟨_, hc'⟩
      · obtain ⟨w2, z2⟩ := I.cell y c' e
        exact ⟨w2, z2.sameBut hs hcc⟩
    · obtain ⟨e, n, ne, nf, d⟩ := I.pin p hp
      refine ⟨(hs.2 p.1 ?_).trans e, n, ne, nf, d⟩
      intro q
      rw [q, hoc] at e
      have q' : oc = p.2 := Option.some.inj e
      exact d w' (by rw [← q']; exact hocd)
theorem store_ok {M : Model} {A : Around} {E : Value → Shared → Prop} {i : Nat} {x : Str} {v : V} {u : Value} {Q : Unit → Shared → Prop} (I : Inv X pins σ H s) (hN : X.N.Nodup) (hi : X.N[i]? = some x) (hx : Loc X.env.scope x) (r : RelV v u)
    (h : ∀ s', Inv X pins (σ.set i (some v)) H s' → Q () s') (hf : X.fn x = true ∨ X.env.scope.names.lookup x = some .local := by first | exact .inl rfl | exact .inr rfl | assumption) : wpAny M A (storeName X.env x u) Q E s :=
  store_ok2 I hN hi hx r (fun s' I' _ => h s' I') hf
/-- behind a call or a block, the state as it is -/
theorem Inv.call' {s' : Shared} {ch : List Addr} (I : Inv X pins σ H s) (ho : s'.os = s.os) (u : Un (frs X.stack) ch H H' s.heap s'.heap) (hok : HOk X.prog X.w H' s'.heap) (hg : AllBare s'.gens)
    (hch : ∀ b ∈ ch, (b ∈ X.ex ∨ X.s₀.heap.objs.size ≤ b) ∧ b ≠ X.env.locals ∧ (∀ x c, X.env.cells.lookup x = some c → c ≠ b) ∧ ∀ p ∈ X.pn ++ pins, p.1 ≠ b) : Inv X pins σ H' s' := by
  obtain ⟨h', g', d', t', o'⟩ := s'
  have e : o' = s.os := ho
  subst e
  exact I.call (g' := g') (t' := t') (d' := d') u hok hg hch
end

/-! ### the judgements -/
/-- an exception: its class, its own dict's address (where it has one), the abstract heap behind it -/
abbrev XK := Value → Option Addr → Hp → Prop
abbrev St := List (Option V)
abbrev VK := V → Hp → Prop
/-- an expression's reading; a test's; an argument list's -/
abbrev TE := St → Hp → VK → Prop
abbrev TT := St → Hp → (Bool → Hp → Prop) → Prop
abbrev TA := St → Hp → (List V → Hp → Prop) → Prop
/-- what is wanted behind a statement -/
structure Ends where
  nx : St → Hp → Prop
  rt : VK
  bk : St → Hp → Prop := fun _ _ => False
  ct : St → Hp → Prop := fun _ _ => False
abbrev TS := Ends → St → Hp → Prop

def EP (X : Cx) (pins : List (Addr × Obj)) (σ : St) (Q : VK) (u : Value) (s' : Shared) : Prop := ∃ v H', Inv X pins σ H' s' ∧ RelV v u ∧ Q v H'
def TP (X : Cx) (pins : List (Addr × Obj)) (σ : St) (Q : Bool → Hp → Prop) (b : Bool) (s' : Shared) : Prop := ∃ H', Inv X pins σ H' s' ∧ Q b H'
def AP (X : Cx) (pins : List (Addr × Obj)) (σ : St) (Q : List V → Hp → Prop) (us : List Value) (s' : Shared) : Prop := ∃ vs H', Inv X pins σ H' s' ∧ Vals vs us ∧ Q vs H'
def SP (X : Cx) (pins : List (Addr × Obj)) (D : Ends) (f : Flow) (s' : Shared) : Prop :=
  match f with
  | .next => ∃ σ' H', Inv X pins σ' H' s' ∧ D.nx σ' H'
  | .brk => ∃ σ' H', Inv X pins σ' H' s' ∧ D.bk σ' H'
  | .cont => ∃ σ' H', Inv X pins σ' H' s' ∧ D.ct σ' H'
  | .ret u => ∃ v σ' H', Inv X pins σ' H' s' ∧ RelV v u ∧ D.rt v H'

def PE (X : Cx) (e : Expr) (t : TE) : Prop :=
  ∀ (pins : List (Addr × Obj)) (s : Shared) (σ : St) (H : Hp) (Q : VK), Inv X pins σ H s → t σ H Q → wpAny (model X.prog X.w) X.A (eval e X.env) (EP X pins σ Q) X.xe s
def PT (X : Cx) (e : Expr) (t : TT) : Prop :=
  ∀ (pins : List (Addr × Obj)) (s : Shared) (σ : St) (H : Hp) (Q : Bool → Hp → Prop), Inv X pins σ H s → t σ H Q → wpAny (model X.prog X.w) X.A (isTrue e X.env (eval e X.env)) (TP X pins σ Q) X.xe s
/-- a test whatever its 'whole' is (and, or) -/
def PW (X : Cx) (e : Expr) (t : TT) : Prop :=
  ∀ (whole : Sem Value) (pins : List (Addr × Obj)) (s : Shared) (σ : St) (H : Hp) (Q : Bool → Hp → Prop), Inv X pins σ H s → t σ H Q → wpAny (model X.prog X.w) X.A (isTrue e X.env whole) (TP X pins σ Q) X.xe s
theorem PW.pt {X : Cx} {e : Expr} {t : TT} (h : PW X e t) : PT X e t := h _
/-- an argument list (no star), from the left -/
def PA (X : Cx) (es : List Expr) (t : TA) : Prop :=
  ∀ (pos : Pos) (pins : List (Addr × Obj)) (s : Shared) (σ : St) (H : Hp) (Q : List V → Hp → Prop), Inv X pins σ H s → t σ H Q → wpAny (model X.prog X.w) X.A (spliced (backTo pos (starEach es X.env))) (AP X pins σ Q) X.xe s
def PS (X : Cx) (st : Stmt) (t : TS) : Prop :=
  ∀ (pins : List (Addr × Obj)) (s : Shared) (σ : St) (H : Hp) (D : Ends), Inv X pins σ H s → t D σ H → wpAny (model X.prog X.w) X.A (exec st X.env) (SP X pins D) X.xe s
def PSs (X : Cx) (st : List Stmt) (t : TS) : Prop :=
  ∀ (pins : List (Addr × Obj)) (s : Shared) (σ : St) (H : Hp) (D : Ends), Inv X pins σ H s → t D σ H → wpAny (model X.prog X.w) X.A (execs st X.env) (SP X pins D) X.xe s
/-- weaken the end -/
theorem thn {α : Type} {t : Sem α} {Q Q' : α → Shared → Prop} {M : Model} {A : Around} {E : Value → Shared → Prop} {s : Shared} (h : wpAny M A t Q E s) (hQ : ∀ a s, Q a s → Q' a s) : wpAny M A t Q' E s := wpAny_mono h hQ fun _ _ x => x
end L2

namespace L2
open PySem PySem.Spec PyProof.Rows
section
variable {X : Cx}

/-- two expressions in a row -/
theorem bin {a b : Expr} {ta tb : TE} (ha : PE X a ta) (hb : PE X b tb) {pins : List (Addr × Obj)} {s : Shared} {σ : St} {H : Hp} {R : V → V → Hp → Prop} (I : Inv X pins σ H s) (h : ta σ H fun x H1 => tb σ H1 fun y H2 => R x y H2)
    {α : Type} {Q : α → Shared → Prop} {f : Value → Value → Sem α}
    (hf : ∀ v u s2 x y H2, Inv X pins σ H2 s2 → RelV x v → RelV y u → R x y H2 → wpAny (model X.prog X.w) X.A (f v u) Q X.xe s2) :
    wpAny (model X.prog X.w) X.A (eval a X.env) (fun v s₁ => wpAny (model X.prog X.w) X.A (eval b X.env) (fun u s₂ => wpAny (model X.prog X.w) X.A (f v u) Q X.xe s₂) X.xe s₁) X.xe s := by
  refine thn (ha pins s σ H _ I h) fun v s1 ⟨x, H1, I1, r1, q1⟩ => ?_
  refine thn (hb pins s1 σ H1 _ I1 q1) fun u s2 ⟨y, H2, I2, r2, q2⟩ => ?_
  exact hf v u s2 x y H2 I2 r1 r2 q2

/-! ### names and constants -/
def tVar (i : Nat) : TE := fun σ H Q => ∃ v, σ[i]? = some (some v) ∧ Q v H
def tC (v : V) : TE := fun _ H Q => Q v H
theorem pe_var {i : Nat} {x : Str} {pos : Pos} (hN : X.N[i]? = some x) (hv : Vis X.env.scope x) (hd : (x == ("__debug__" : Str)) = false := by decide) (hcd : (x == ("__classdict__" : Str)) = false := by decide) : PE X (.Name x pos) (tVar i) := by
  intro pins s σ H Q I h
  obtain ⟨v, e, h⟩ := h
  obtain ⟨m, hn, hl⟩ := I.loc
  obtain ⟨u, r, l⟩ := hl i x v hN e hv
  have fin : EP X pins σ Q u s := ⟨v, H, I, r, h⟩
  rcases l with ⟨hk, hm⟩ | ⟨hk, c, hc, hcell⟩
  · exact wpAny_Name (wpAny_loadName_local I.ok.kind hk hn hm fin) hd
  · rcases hk with hk | hk
    · exact wpAny_Name (wpAny_loadName_cell I.ok.kind hk hc hcell fin) hd
    · exact wpAny_Name (wpAny_loadName_free I.ok.kind hk hc hcell fin hcd) hd
theorem pe_int {i j pos} : PE X (.Constant (.int i) j pos) (tC (.int i)) := fun _ _ _ H _ I h => wpAny_Constant_int ⟨.int i, H, I.tok _, ⟨_, rfl⟩, h⟩
theorem pe_bl {b j pos} : PE X (.Constant (.bool b) j pos) (tC (.bl b)) := fun _ _ _ H _ I h => Constant_bool ⟨.bl b, H, I, rfl, h⟩
theorem pe_non {j pos} : PE X (.Constant .none j pos) (tC .non) := fun _ _ _ H _ I h => Constant_none ⟨.non, H, I, rfl, h⟩
theorem pe_str {x j pos} : PE X (.Constant (.str x) j pos) (tC (.str x)) := fun _ _ _ H _ I h => Calls.Constant_str ⟨.str x, H, I.tok _, ⟨_, rfl⟩, h⟩

/-- a global name of the def -/
def Gl (X : Cx) (x : Str) : Prop := X.env.kindOf x = some .globalImplicit
theorem ld_glob {E : Value → Shared → Prop} {pins : List (Addr × Obj)} {s : Shared} {σ : St} {H : Hp} {x : Str} {u : Value} {pos : Pos} {Q : Value → Shared → Prop} (I : Inv X pins σ H s) (hg : Gl X x) (hm : X.mg x = some u) (h : Q u s)
    (hd : (x == ("__debug__" : Str)) = false := by decide) : wpAny (model X.prog X.w) X.A (eval (.Name x pos) X.env) Q E s :=
  Calls.Name_function_global I.ok.kind hg (Calls.loadGlobal_global (by rw [I.ok.glob]; exact I.mod.glob.keeps I.bk) hm h) hd
theorem ld_blt {E : Value → Shared → Prop} {pins : List (Addr × Obj)} {s : Shared} {σ : St} {H : Hp} {x : Str} {u : Value} {pos : Pos} {Q : Value → Shared → Prop} (I : Inv X pins σ H s) (hg : Gl X x) (hm : X.mg x = none) (hv : bootBuiltins x = some u) (h : Q u s)
    (hn : x ≠ "__name__" := by decide) (hd : (x == ("__debug__" : Str)) = false := by decide) : wpAny (model X.prog X.w) X.A (eval (.Name x pos) X.env) Q E s := by
  obtain ⟨mb, h1, h2⟩ := I.mod.blt
  exact Calls.Name_function_global I.ok.kind hg (Calls.loadGlobal_builtin (by rw [I.ok.glob]; exact I.mod.glob.keeps I.bk) hm (by rw [I.ok.blt]; exact h1.keeps I.bk) ((h2 x hn).trans hv) h) hd
/-- a module's constant, a class, a function, as a value -/
theorem pe_glob {x : Str} {v : V} {u : Value} {pos : Pos} (hg : Gl X x) (hm : X.mg x = some u) (r : RelV v u) (hd : (x == ("__debug__" : Str)) = false := by decide) : PE X (.Name x pos) (tC v) :=
  fun _ _ _ H _ I h => ld_glob I hg hm ⟨v, H, I, r, h⟩ hd
theorem pe_bltn {x : Str} {v : V} {u : Value} {pos : Pos} (hg : Gl X x) (hm : X.mg x = none) (hv : bootBuiltins x = some u) (r : RelV v u) (hn : x ≠ "__name__" := by decide) (hd : (x == ("__debug__" : Str)) = false := by decide) : PE X (.Name x pos) (tC v) :=
  fun _ _ _ H _ I h => ld_blt I hg hm hv ⟨v, H, I, r, h⟩ hn hd

/-! ### arithmetic -/
/-- two ints -/
def t2I (ta tb : TE) (k : Int → Int → Hp → Prop) : St → Hp → Prop := fun σ H => ta σ H fun x H1 => tb σ H1 fun y H2 => ∃ i j, x = .int i ∧ y = .int j ∧ k i j H2
def tAdd (ta tb : TE) : TE := fun σ H Q => t2I ta tb (fun i j H2 => Q (.int (i + j)) H2) σ H
def tSub (ta tb : TE) : TE := fun σ H Q => t2I ta tb (fun i j H2 => Q (.int (i - j)) H2) σ H
/-- the left factor below 2^64 -/
def tMul (ta tb : TE) : TE := fun σ H Q => t2I ta tb (fun i j H2 => (-(2 ^ 64) < i ∧ i < 2 ^ 64) ∧ Q (.int (i * j)) H2) σ H
variable {a b : Expr} {ta tb : TE} {pos : Pos}
theorem pe_add (ha : PE X a ta) (hb : PE X b tb) : PE X (.BinOp a .Add b pos) (tAdd ta tb) := by
  intro pins s σ H Q I h
  refine wpAny_BinOp (bin ha hb I h fun v u s2 x y H2 I2 rx ry q => ?_)
  obtain ⟨i, j, rfl, rfl, q⟩ := q
  obtain ⟨t, rfl⟩ := rx
  obtain ⟨t', rfl⟩ := ry
  exact add_int ⟨.int _, H2, I2.tok _, ⟨_, rfl⟩, q⟩
theorem pe_sub (ha : PE X a ta) (hb : PE X b tb) : PE X (.BinOp a .Sub b pos) (tSub ta tb) := by
  intro pins s σ H Q I h
  refine wpAny_BinOp (bin ha hb I h fun v u s2 x y H2 I2 rx ry q => ?_)
  obtain ⟨i, j, rfl, rfl, q⟩ := q
  obtain ⟨t, rfl⟩ := rx
  obtain ⟨t', rfl⟩ := ry
  exact sub_int ⟨.int _, H2, I2.tok _, ⟨_, rfl⟩, q⟩
theorem pe_mul (ha : PE X a ta) (hb : PE X b tb) : PE X (.BinOp a .Mult b pos) (tMul ta tb) := by
  intro pins s σ H Q I h
  refine wpAny_BinOp (bin ha hb I h fun v u s2 x y H2 I2 rx ry q => ?_)
  obtain ⟨i, j, rfl, rfl, ⟨q1, q2⟩, q⟩ := q
  obtain ⟨t, rfl⟩ := rx
  obtain ⟨t', rfl⟩ := ry
  exact mul_int ⟨.int _, H2, I2.tok _, ⟨_, rfl⟩, q⟩ (.of_left (intBits_le_64 q1 q2))

/-! ### comparisons -/
def PC (X : Cx) (op : CmpOp) (a b : Expr) (t : TE) : Prop :=
  ∀ (pins : List (Addr × Obj)) (s : Shared) (σ : St) (H : Hp) (Q : VK), Inv X pins σ H s → t σ H Q →
    wpAny (model X.prog X.w) X.A (eval a X.env) (fun v s₁ => wpAny (model X.prog X.w) X.A (eval b X.env) (fun u s₂ => wpAny (model X.prog X.w) X.A (compareOp op v u) (EP X pins σ Q) X.xe s₂) X.xe s₁) X.xe s
theorem nobehind (b : Expr) {op : CmpOp} (h : op ≠ .In) (h2 : op ≠ .NotIn) : behindInMarks op b = false := by
  have e1 : (op == CmpOp.In) = false := by cases op <;> first | rfl | exact absurd rfl h
  have e2 : (op == CmpOp.NotIn) = false := by cases op <;> first | rfl | exact absurd rfl h2
  cases b <;> simp [behindInMarks, e1, e2]
def tCmp (p : Int → Int → Bool) (ta tb : TE) : TE := fun σ H Q => t2I ta tb (fun i j H2 => Q (.bl (p i j)) H2) σ H
abbrev tLt : TE → TE → TE := tCmp fun i j => decide (i < j)
abbrev tLe : TE → TE → TE := tCmp fun i j => decide (i ≤ j)
abbrev tGt : TE → TE → TE := tCmp fun i j => decide (j < i)
abbrev tGe : TE → TE → TE := tCmp fun i j => decide (j ≤ i)
abbrev tEqI : TE → TE → TE := tCmp fun i j => decide (i = j)
abbrev tNeI : TE → TE → TE := tCmp fun i j => !decide (i = j)
/-- a comparison of two ints, by its rule -/
theorem pc_int {op : CmpOp} {p : Int → Int → Bool} (ha : PE X a ta) (hb : PE X b tb)
    (rule : ∀ (i j : Int) (t u : Tok) (Q : Value → Shared → Prop) (s : Shared), Q (.bool (p i j)) s → wpAny (model X.prog X.w) X.A (compareOp op (.int i t) (.int j u)) Q X.xe s) : PC X op a b (tCmp p ta tb) := by
  intro pins s σ H Q I h
  refine bin ha hb I h fun v u s2 x y H2 I2 rx ry q => ?_
  obtain ⟨i, j, rfl, rfl, q⟩ := q
  obtain ⟨t, rfl⟩ := rx
  obtain ⟨t', rfl⟩ := ry
  exact rule i j t t' _ s2 ⟨.bl _, H2, I2, rfl, q⟩
theorem pc_lt (ha : PE X a ta) (hb : PE X b tb) : PC X .Lt a b (tLt ta tb) := pc_int ha hb fun _ _ _ _ _ _ h => lt_int h
theorem pc_le (ha : PE X a ta) (hb : PE X b tb) : PC X .LtE a b (tLe ta tb) := pc_int ha hb fun _ _ _ _ _ _ h => le_int h
theorem pc_gt (ha : PE X a ta) (hb : PE X b tb) : PC X .Gt a b (tGt ta tb) := pc_int ha hb fun _ _ _ _ _ _ h => gt_int h
theorem pc_ge (ha : PE X a ta) (hb : PE X b tb) : PC X .GtE a b (tGe ta tb) := pc_int ha hb fun _ _ _ _ _ _ h => ge_int h
theorem pc_eqI (ha : PE X a ta) (hb : PE X b tb) : PC X .Eq a b (tEqI ta tb) := pc_int ha hb fun _ _ _ _ _ _ h => eq_int (by rw [Bool.beq_eq_decide_eq]; exact h)
theorem pc_neI (ha : PE X a ta) (hb : PE X b tb) : PC X .NotEq a b (tNeI ta tb) := pc_int ha hb fun _ _ _ _ _ _ h => ne_int (by rw [bne, Bool.beq_eq_decide_eq]; exact h)
/-- is None -/
def tIsN (ta : TE) : TE := fun σ H Q => ta σ H fun x H1 => Q (.bl (decide (x = .non))) H1
def tNotN (ta : TE) : TE := fun σ H Q => ta σ H fun x H1 => Q (.bl (!decide (x = .non))) H1
theorem RelV.none_iff {x : V} {v : Value} (r : RelV x v) : (v == Value.none) = decide (x = .non) := by
  cases x with
  | non => cases r; rfl
  | bl _ => cases r; rfl
  | int _ => obtain ⟨t, rfl⟩ := r; rfl
  | str _ => obtain ⟨t, rfl⟩ := r; rfl
  | byt _ => obtain ⟨t, rfl⟩ := r; rfl
  | flt _ => obtain ⟨t, rfl⟩ := r; rfl
  | ref _ => cases r; rfl
  | ty _ => cases r; rfl
theorem pc_isN {j pos'} (ha : PE X a ta) : PC X .Is a (.Constant .none j pos') (tIsN ta) := by
  intro pins s σ H Q I h
  refine thn (ha pins s σ H _ I h) fun v s1 ⟨x, H1, I1, r1, q1⟩ => ?_
  exact Constant_none (is_none_gen ⟨.bl _, H1, I1, by rw [r1.none_iff]; rfl, q1⟩)
theorem pc_notN {j pos'} (ha : PE X a ta) : PC X .IsNot a (.Constant .none j pos') (tNotN ta) := by
  intro pins s σ H Q I h
  refine thn (ha pins s σ H _ I h) fun v s1 ⟨x, H1, I1, r1, q1⟩ => ?_
  exact Constant_none (isnot_none_gen ⟨.bl _, H1, I1, by rw [r1.none_iff]; rfl, q1⟩)
/-- a comparison as a value, as a test -/
def tB (t : TE) : TT := fun σ H Q => t σ H fun x H1 => ∃ c, x = .bl c ∧ Q c H1
theorem pe_cmp {op : CmpOp} {t : TE} (h : PC X op a b t) (h1 : behindInMarks op b = false := by first | exact nobehind _ (by decide) (by decide) | rfl) : PE X (.Compare a [op] [b] pos) t := fun pins s σ H Q I hw => wpAny_Compare1 (h pins s σ H Q I hw) h1
theorem pt_cmp {op : CmpOp} {t : TE} (h : PC X op a b t) (h1 : behindInMarks op b = false := by first | exact nobehind _ (by decide) (by decide) | rfl) : PT X (.Compare a [op] [b] pos) (tB t) := by
  intro pins s σ H Q I hw
  refine wpAny_isTrue_Compare1 (thn (h pins s σ H _ I hw) fun v s1 h1 => thn h1 fun u s2 h2 => thn h2 fun c s3 ⟨x, H1, I1, r1, q1⟩ => ?_) h1
  obtain ⟨d, rfl, q⟩ := q1
  cases r1
  exact wpAny_truthy_bool ⟨H1, I1, q⟩
/-- an expression whose value is a bool, as a test -/
theorem pt_val {e : Expr} {t : TE} (h : PE X e t) (he : ∀ whole, isTrue e X.env whole = (do let v ← whole; standAt e.pos; holding [v] (truthy v)) := by intro _; rfl) : PT X e (tB t) := by
  intro pins s σ H Q I hw
  refine isTrue_plain (thn (h pins s σ H _ I hw) fun v s1 ⟨x, H1, I1, r1, q1⟩ => ?_) (he _)
  obtain ⟨d, rfl, q⟩ := q1
  cases r1
  exact wpAny_truthy_bool ⟨H1, I1, q⟩

/-! ### and, or, not -/
variable {tA tB' : TT} {rest : List Expr}
def tAnd (t u : TT) : TT := fun σ H Q => t σ H fun c H1 => if c = true then u σ H1 Q else Q false H1
def tOr (t u : TT) : TT := fun σ H Q => t σ H fun c H1 => if c = true then Q true H1 else u σ H1 Q
def tNot (t : TT) : TT := fun σ H Q => t σ H fun c H1 => Q (!c) H1
theorem pw_and1 (ha : PT X a tA) : PW X (.BoolOp .And [a] pos) tA := by
  intro wh pins s σ H Q I h
  refine isTrue_and (thn (ha pins s σ H Q I h) fun c s1 e => ?_)
  cases c with
  | true => exact isTrue_and_nil e
  | false => exact e
theorem pw_or1 (ha : PT X a tA) : PW X (.BoolOp .Or [a] pos) tA := by
  intro wh pins s σ H Q I h
  refine isTrue_or (thn (ha pins s σ H Q I h) fun c s1 e => ?_)
  cases c with
  | false => exact isTrue_or_nil e
  | true => exact e
theorem pw_and (ha : PT X a tA) (hb : PW X (.BoolOp .And (b :: rest) pos) tB') : PW X (.BoolOp .And (a :: b :: rest) pos) (tAnd tA tB') := by
  intro wh pins s σ H Q I h
  refine isTrue_and (thn (ha pins s σ H _ I h) fun c s1 ⟨H1, I1, q1⟩ => ?_)
  cases c with
  | true => exact hb wh pins s1 σ H1 Q I1 q1
  | false => exact ⟨H1, I1, q1⟩
theorem pw_or (ha : PT X a tA) (hb : PW X (.BoolOp .Or (b :: rest) pos) tB') : PW X (.BoolOp .Or (a :: b :: rest) pos) (tOr tA tB') := by
  intro wh pins s σ H Q I h
  refine isTrue_or (thn (ha pins s σ H _ I h) fun c s1 ⟨H1, I1, q1⟩ => ?_)
  cases c with
  | true => exact ⟨H1, I1, q1⟩
  | false => exact hb wh pins s1 σ H1 Q I1 q1
theorem pt_not (ha : PT X a tA) : PT X (.UnaryOp .Not a pos) (tNot tA) := by
  intro pins s σ H Q I h
  exact isTrue_not (ha pins s σ H (fun c H1 => Q (!c) H1) I h)
/-- .. as values (bools) -/
def tAndV (ta tb : TE) : TE := fun σ H Q => ta σ H fun x H1 => ∃ c, x = .bl c ∧ if c = true then tb σ H1 Q else Q (.bl false) H1
def tOrV (ta tb : TE) : TE := fun σ H Q => ta σ H fun x H1 => ∃ c, x = .bl c ∧ if c = true then Q (.bl true) H1 else tb σ H1 Q
def tNotV (ta : TE) : TE := fun σ H Q => ta σ H fun x H1 => ∃ c, x = .bl c ∧ Q (.bl (!c)) H1
theorem pe_one {op} {t : TE} (h : PE X a t) : PE X (.BoolOp op [a] pos) t := fun pins s σ H Q I hw => BoolOp_one (h pins s σ H Q I hw)
theorem pe_and (ha : PE X a ta) (hb : PE X (.BoolOp .And (b :: rest) pos) tb) : PE X (.BoolOp .And (a :: b :: rest) pos) (tAndV ta tb) := by
  intro pins s σ H Q I h
  refine BoolOp_and (thn (ha pins s σ H _ I h) fun v s1 ⟨x, H1, I1, r1, q1⟩ => ?_)
  obtain ⟨c, rfl, q1⟩ := q1
  cases r1
  refine wpAny_truthy_bool ?_
  cases c with
  | true => exact hb pins s1 σ H1 Q I1 q1
  | false => exact ⟨.bl false, H1, I1, rfl, q1⟩
theorem pe_or (ha : PE X a ta) (hb : PE X (.BoolOp .Or (b :: rest) pos) tb) : PE X (.BoolOp .Or (a :: b :: rest) pos) (tOrV ta tb) := by
  intro pins s σ H Q I h
  refine BoolOp_or (thn (ha pins s σ H _ I h) fun v s1 ⟨x, H1, I1, r1, q1⟩ => ?_)
  obtain ⟨c, rfl, q1⟩ := q1
  cases r1
  refine wpAny_truthy_bool ?_
  cases c with
  | false => exact hb pins s1 σ H1 Q I1 q1
  | true => exact ⟨.bl true, H1, I1, rfl, q1⟩
theorem pe_not (ha : PE X a ta) : PE X (.UnaryOp .Not a pos) (tNotV ta) := by
  intro pins s σ H Q I h
  refine UnaryOp_ (thn (ha pins s σ H _ I h) fun v s1 ⟨x, H1, I1, r1, q1⟩ => ?_)
  obtain ⟨c, rfl, q1⟩ := q1
  cases r1
  exact not_of (wpAny_truthy_bool ⟨.bl (!c), H1, I1, rfl, q1⟩)
/-- a if t else b -/
def tIf (t : TT) (ta tb : TE) : TE := fun σ H Q => t σ H fun c H1 => if c = true then ta σ H1 Q else tb σ H1 Q
theorem pe_ifExp {c : Expr} (hc : PT X c tA) (ha : PE X a ta) (hb : PE X b tb) : PE X (.IfExp c a b pos) (tIf tA ta tb) := by
  intro pins s σ H Q I h
  refine wpAny_IfExp (thn (hc pins s σ H _ I h) fun d s1 ⟨H1, I1, q1⟩ => ?_)
  cases d with
  | true => exact ha pins s1 σ H1 Q I1 q1
  | false => exact hb pins s1 σ H1 Q I1 q1
end
end L2

namespace L2
open PySem PySem.Spec PyProof.Rows

/-! ### a list, a tuple that is read: tracked, frozen, or an object of the module -/
def SqL (K : PySem.W.Frag) (H : Hp) (a : Addr) (xs : List V) : Prop :=
  Rd H a (.lst xs) ∨
    ∃ (o : Obj) (its : Array Value) (n : Nat), K.lookup a = some o ∧ o.cls = .type "list" ∧ o.dict = none ∧ o.data = .seq its n ∧ its.size ≤ sizeLine ∧ Vals xs its.toList
def SqT (K : PySem.W.Frag) (H : Hp) (a : Addr) (xs : List V) : Prop :=
  Rd H a (.tup xs) ∨
    ∃ (o : Obj) (its : Array Value) (n : Nat), K.lookup a = some o ∧ o.cls = .type "tuple" ∧ o.data = .seq its n ∧ its.size ≤ sizeLine ∧ Vals xs its.toList
def absV : Value → Option V
  | .none => some .non
  | .bool b => some (.bl b)
  | .int i _ => some (.int i)
  | .str x _ => some (.str x)
  | .bytes b _ => some (.byt b)
  | .float b _ => some (.flt b)
  | .ref a => some (.ref a)
  | .type n => some (.ty n)
  | _ => none
theorem RelV.abs {x : V} {u : Value} (r : RelV x u) : absV u = some x := by
  cases x with
  | non => cases r; rfl
  | bl _ => cases r; rfl
  | int _ => obtain ⟨t, rfl⟩ := r; rfl
  | str _ => obtain ⟨t, rfl⟩ := r; rfl
  | byt _ => obtain ⟨t, rfl⟩ := r; rfl
  | flt _ => obtain ⟨t, rfl⟩ := r; rfl
  | ref _ => cases r; rfl
  | ty _ => cases r; rfl
theorem RelV.inj {x y : V} {u : Value} (r : RelV x u) (q : RelV y u) : x = y := Option.some.inj (r.abs.symm.trans q.abs)
theorem Vals.inj : ∀ {xs ys : List V} {us : List Value}, Vals xs us → Vals ys us → xs = ys
  | _, _, _, .nil, .nil => rfl
  | _, _, _, .cons r t, .cons r' t' => by rw [r.inj r', Vals.inj t t']
section
variable {X : Cx} {pins : List (Addr × Obj)} {σ : St} {H : Hp} {s : Shared} {a : Addr} {xs ys : List V}
theorem SqL.of {K : PySem.W.Frag} (h : H a = some (.lst xs)) : SqL K H a xs := .inl (.inl h)
theorem SqT.of {K : PySem.W.Frag} (h : H a = some (.tup xs)) : SqT K H a xs := .inl (.inl h)
theorem Inv.list (I : Inv X pins σ H s) (h : SqL X.K H a xs) : ∃ its : List Value, Vals xs its ∧ PlainL s.heap a its.toArray ∧ xs.length ≤ sizeLine := by
  rcases h with h | ⟨o, its, n, hk, hc, hd, hs, hz, r⟩
  · obtain ⟨z, its, n, r, e⟩ := h.ok I.hok
    exact ⟨its, r, ⟨_, n, e, rfl, rfl, rfl⟩, z⟩
  · refine ⟨its.toList, r, ⟨o, n, I.kIn a o hk, hc, hd, by simpa using hs⟩, ?_⟩
    have e := r.length
    simp only [Array.length_toList] at e
    omega
theorem Inv.tuple (I : Inv X pins σ H s) (h : SqT X.K H a xs) : ∃ its : List Value, Vals xs its ∧ IsTup s.heap a its.toArray ∧ xs.length ≤ sizeLine := by
  rcases h with h | ⟨o, its, n, hk, hc, hs, hz, r⟩
  · obtain ⟨z, its, r, p⟩ := h.ok I.hok
    exact ⟨its, r, p, z⟩
  · refine ⟨its.toList, r, ⟨o, I.kIn a o hk, hc, n, by simpa using hs⟩, ?_⟩
    have e := r.length
    simp only [Array.length_toList] at e
    omega
theorem Inv.list_inj (I : Inv X pins σ H s) (h : SqL X.K H a xs) (h' : SqL X.K H a ys) : xs = ys := by
  obtain ⟨its, r, ⟨o, n, e, _, _, d⟩, _⟩ := I.list h
  obtain ⟨its', r', ⟨o', n', e', _, _, d'⟩, _⟩ := I.list h'
  rw [e] at e'; cases e'
  rw [d] at d'
  injection d' with d1 _
  have : its = its' := by simpa using congrArg Array.toList d1
  subst this
  exact r.inj r'
theorem Inv.tuple_inj (I : Inv X pins σ H s) (h : SqT X.K H a xs) (h' : SqT X.K H a ys) : xs = ys := by
  obtain ⟨its, r, ⟨o, e, _, n, d⟩, _⟩ := I.tuple h
  obtain ⟨its', r', ⟨o', e', _, n', d'⟩, _⟩ := I.tuple h'
  rw [e] at e'; cases e'
  rw [d] at d'
  injection d' with d1 _
  have : its = its' := by simpa using congrArg Array.toList d1
  subst this
  exact r.inj r'
end

/-! ### another wish about exceptions -/
abbrev Cx.wish (X : Cx) (E : Value → Shared → Prop) : Cx := { X with xe := E }
/-- no exception leaves -/
abbrev Cx.nox (X : Cx) : Cx := X.wish fun _ _ => False
theorem Cx.Ok.wish {X : Cx} (ok : X.Ok) (E : Value → Shared → Prop) : (X.wish E).Ok :=
  ⟨ok.mod, ok.kind, ok.glob, ok.blt, ok.above, ok.inj, ok.has, ok.cab, ok.hd, ok.frames, ok.stk, ok.exf, ok.bs, ok.bsz, ok.noex, ok.exfs, ok.funs, ok.frf⟩
theorem Cx.Ok.unwish {X : Cx} {E : Value → Shared → Prop} (ok : (X.wish E).Ok) : X.Ok :=
  ⟨ok.mod, ok.kind, ok.glob, ok.blt, ok.above, ok.inj, ok.has, ok.cab, ok.hd, ok.frames, ok.stk, ok.exf, ok.bs, ok.bsz, ok.noex, ok.exfs, ok.funs, ok.frf⟩
section
variable {X : Cx} {pins : List (Addr × Obj)} {σ : St} {H : Hp} {s : Shared} {E : Value → Shared → Prop}
theorem Inv.wish (I : Inv X pins σ H s) (E : Value → Shared → Prop) : Inv (X.wish E) pins σ H s := ⟨I.ok.wish E, I.os, I.bare, I.base, I.loc, I.cell, I.free, I.freeC, I.pin, I.hok, I.len⟩
theorem Inv.unwish (I : Inv (X.wish E) pins σ H s) : Inv X pins σ H s := ⟨I.ok.unwish, I.os, I.bare, I.base, I.loc, I.cell, I.free, I.freeC, I.pin, I.hok, I.len⟩
theorem SP.unwish {D : Ends} {f : Flow} {s' : Shared} (h : SP (X.wish E) pins D f s') : SP X pins D f s' := by
  cases f with
  | next => obtain ⟨σ', H', I, q⟩ := h; exact ⟨σ', H', I.unwish, q⟩
  | brk => obtain ⟨σ', H', I, q⟩ := h; exact ⟨σ', H', I.unwish, q⟩
  | cont => obtain ⟨σ', H', I, q⟩ := h; exact ⟨σ', H', I.unwish, q⟩
  | ret u => obtain ⟨v, σ', H', I, r, q⟩ := h; exact ⟨v, σ', H', I.unwish, r, q⟩
theorem PE.nox {e : Expr} {t : TE} (h : PE X.nox e t) : PE X e t := fun pins s σ H Q I hw =>
  wpAny_mono (h pins s σ H Q (I.wish _) hw) (fun _ _ ⟨v, H', I', r, q⟩ => ⟨v, H', I'.unwish, r, q⟩) fun _ _ z => False.elim z
theorem PT.nox {e : Expr} {t : TT} (h : PT X.nox e t) : PT X e t := fun pins s σ H Q I hw =>
  wpAny_mono (h pins s σ H Q (I.wish _) hw) (fun _ _ ⟨H', I', q⟩ => ⟨H', I'.unwish, q⟩) fun _ _ z => False.elim z
theorem PSs.nox {st : List Stmt} {t : TS} (h : PSs X.nox st t) : PSs X st t := fun pins s σ H D I hw =>
  wpAny_mono (h pins s σ H D (I.wish _) hw) (fun _ _ q => q.unwish) fun _ _ z => False.elim z
end

/-! ### blocks and small statements -/
section
variable {X : Cx} {st : Stmt} {rest : List Stmt} {t u : TS} {e : Expr} {te : TE} {pos : Pos}
def tNext : TS := fun D σ H => D.nx σ H
def tSeq (t u : TS) : TS := fun D σ H => t { D with nx := u D } σ H
theorem pss_nil : PSs X [] tNext := fun _ _ σ H _ I h => wpAny_execs_nil ⟨σ, H, I, h⟩
theorem pss_cons (h1 : PS X st t) (h2 : PSs X rest u) : PSs X (st :: rest) (tSeq t u) := by
  intro pins s σ H D I h
  refine wpAny_execs_cons (thn (h1 pins s σ H { D with nx := u D } I h) fun f s1 q => ?_)
  cases f with
  | next =>
    obtain ⟨σ', H', I', q⟩ := q
    exact h2 pins s1 σ' H' D I' q
  | ret v => exact q
  | brk => exact q
  | cont => exact q
theorem pss_one (h1 : PS X st t) : PSs X [st] t := by
  intro pins s σ H D I h
  refine wpAny_execs_cons (thn (h1 pins s σ H D I h) fun f s1 q => ?_)
  cases f with
  | next => exact wpAny_execs_nil q
  | ret v => exact q
  | brk => exact q
  | cont => exact q
def tBreak : TS := fun D σ H => D.bk σ H
def tCont : TS := fun D σ H => D.ct σ H
theorem ps_pass : PS X (.Pass pos) tNext := fun _ _ σ H _ I h => wpAny_Pass ⟨σ, H, I, h⟩
theorem ps_break : PS X (.Break pos) tBreak := fun _ _ σ H _ I h => wpAny_Break ⟨σ, H, I, h⟩
theorem ps_continue : PS X (.Continue pos) tCont := fun _ _ σ H _ I h => wpAny_Continue ⟨σ, H, I, h⟩
/-- in a def's body nothing is shown -/
theorem Inv.quiet {pins : List (Addr × Obj)} {σ : St} {H : Hp} {s : Shared} (I : Inv X pins σ H s) : interactive X.env = false := by simp [interactive, I.ok.kind]
/-- a docstring -/
theorem ps_doc {x j pos pos'} : PS X (.Expr (.Constant (.str x) j pos) pos') tNext := fun _ s σ H _ I h => wpAny_Expr (Calls.Constant_str (show SP X _ _ .next { s with toks := s.toks + 1 } from ⟨σ, H, I.tok _, h⟩)) I.quiet
/-- an expression whose value is dropped -/
def tDrop (te : TE) : TS := fun D σ H => te σ H fun _ H1 => D.nx σ H1
theorem ps_expr (he : PE X e te) (hs : swapsWith e none pos.line X.env = pure false := by rfl) : PS X (.Expr e pos) (tDrop te) := by
  intro pins s σ H D I h
  exact wpAny_Expr_any (thn (he pins s σ H _ I h) fun v s1 ⟨x, H1, I1, r1, q1⟩ => ⟨σ, H1, I1, q1⟩) I.quiet hs
def tRet (te : TE) : TS := fun D σ H => te σ H D.rt
theorem ps_ret (he : PE X e te) : PS X (.Return (some e) pos) (tRet te) := by
  intro pins s σ H D I h
  exact wpAny_Return_some (thn (he pins s σ H _ I h) fun v s1 ⟨x, H1, I1, r1, q1⟩ => ⟨x, σ, H1, I1, r1, q1⟩)
def tRetN : TS := fun D _ H => D.rt .non H
theorem ps_retN : PS X (.Return none pos) tRetN := fun _ _ σ H _ I h => wpAny_Return_none ⟨.non, σ, H, I, rfl, h⟩
def tIfS (c : TT) (t u : TS) : TS := fun D σ H => c σ H fun b H1 => if b = true then t D σ H1 else u D σ H1
theorem ps_if {c : Expr} {a b : List Stmt} {tc : TT} (hc : PT X c tc) (ha : PSs X a t) (hb : PSs X b u) : PS X (.If c a b pos) (tIfS tc t u) := by
  intro pins s σ H D I h
  refine wpAny_If (thn (hc pins s σ H _ I h) fun d s1 ⟨H1, I1, q1⟩ => ?_)
  cases d with
  | true => exact ha pins s1 σ H1 D I1 q1
  | false => exact hb pins s1 σ H1 D I1 q1
/-- code that the proof never comes to -/
def tNever : TS := fun _ _ _ => False
theorem ps_never : PS X st tNever := fun _ _ _ _ _ _ h => h.elim
theorem pss_never {sts : List Stmt} : PSs X sts tNever := fun _ _ _ _ _ _ h => h.elim
end

/-! ### targets -/
abbrev TG := V → St → Hp → (St → Hp → Prop) → Prop
abbrev TGs := List V → St → Hp → (St → Hp → Prop) → Prop
def PG (X : Cx) (target : Expr) (t : TG) : Prop :=
  ∀ (pins : List (Addr × Obj)) (s : Shared) (σ : St) (H : Hp) (v : V) (u : Value) (Q : St → Hp → Prop), Inv X pins σ H s → RelV v u → t v σ H Q →
    wpAny (model X.prog X.w) X.A (assign target X.env u) (fun _ s' => ∃ σ' H', Inv X pins σ' H' s' ∧ Q σ' H') X.xe s
/-- several targets, one after another -/
def PGs (X : Cx) (ts : List Expr) (t : TGs) : Prop :=
  ∀ (pins : List (Addr × Obj)) (s : Shared) (σ : St) (H : Hp) (vs : List V) (us : List Value) (Q : St → Hp → Prop), Inv X pins σ H s → Vals vs us → t vs σ H Q →
    wpAny (model X.prog X.w) X.A (assignInOrder ((assignEach ts X.env).map (·.2)) us) (fun _ s' => ∃ σ' H', Inv X pins σ' H' s' ∧ Q σ' H') X.xe s
/-- o[i] = v, by values -/
abbrev TSet := V → V → V → Hp → (Hp → Prop) → Prop
def PSet (X : Cx) (t : TSet) : Prop :=
  ∀ (pins : List (Addr × Obj)) (s : Shared) (σ : St) (H : Hp) (o i v : V) (ov iv u : Value) (Q : Hp → Prop), Inv X pins σ H s → RelV o ov → RelV i iv → RelV v u → t o i v H Q →
    wpAny (model X.prog X.w) X.A (setItem ov iv u) (fun _ s' => ∃ H', Inv X pins σ H' s' ∧ Q H') X.xe s
/-- a op= b, by values -/
abbrev TIp := V → V → Hp → VK → Prop
def PIp (X : Cx) (op : Operator) (t : TIp) : Prop :=
  ∀ (pins : List (Addr × Obj)) (s : Shared) (σ : St) (H : Hp) (x y : V) (v u : Value) (Q : VK), Inv X pins σ H s → RelV x v → RelV y u → t x y H Q →
    wpAny (model X.prog X.w) X.A (inplaceOp op v u) (EP X pins σ Q) X.xe s
section
variable {X : Cx} {pos : Pos}
def gName (i : Nat) : TG := fun v σ H Q => Q (σ.set i (some v)) H
theorem pg_name {i : Nat} {x : Str} (hN : X.N.Nodup) (hi : X.N[i]? = some x) (hx : Loc X.env.scope x) (hf : X.fn x = true ∨ X.env.scope.names.lookup x = some .local := by first | exact .inl rfl | exact .inr rfl | assumption) : PG X (.Name x pos) (gName i) := by
  intro pins s σ H v u Q I r h
  exact wpAny_assign_Name (store_ok I hN hi hx r (fun s' I' => ⟨_, H, I', h⟩) hf)
def gNil : TGs := fun vs σ H Q => vs = [] ∧ Q σ H
def gCons (t : TG) (u : TGs) : TGs := fun vs σ H Q => ∃ v r, vs = v :: r ∧ t v σ H fun σ' H' => u r σ' H' Q
theorem pgs_nil : PGs X [] gNil := by
  intro pins s σ H vs us Q I r h
  obtain ⟨e, h⟩ := h
  subst e
  cases r
  exact assignInOrder_nil ⟨σ, H, I, h⟩
theorem pgs_cons {e : Expr} {es : List Expr} {t : TG} {u : TGs} (h1 : PG X e t) (h2 : PGs X es u)
    (hs : (assignEach (e :: es) X.env).map (·.2) = assign e X.env :: (assignEach es X.env).map (·.2) := by rfl) : PGs X (e :: es) (gCons t u) := by
  intro pins s σ H vs us Q I r h
  obtain ⟨v, vr, e1, h⟩ := h
  subst e1
  cases r with
  | cons r rr =>
    rw [hs]
    refine assignInOrder_cons (thn (h1 pins s σ H _ _ _ I r h) fun _ s1 ⟨σ1, H1, I1, q1⟩ => ?_)
    exact h2 pins s1 σ1 H1 _ _ Q I1 rr q1
/-- (a, b, ..) = a tuple of that length -/
def gTup (K : PySem.W.Frag) (n : Nat) (t : TGs) : TG := fun v σ H Q => ∃ a xs, v = .ref a ∧ SqT K H a xs ∧ xs.length = n ∧ t xs σ H Q
theorem pg_tup {es : List Expr} {k : Nat} {t : TGs} {n : Nat} (hc : X.calm = true) (h : PGs X es t)
    (hn : (assignEach es X.env).length = n := by rfl) (hst : (assignEach es X.env).findIdx? (·.1) = none := by rfl) : PG X (.Tuple es k pos) (gTup X.K n t) := by
  intro pins s σ H v u Q I r hw
  obtain ⟨a, xs, e1, hq, hl, hw⟩ := hw
  subst e1
  cases r
  obtain ⟨its, rv, ht, hz⟩ := I.tuple hq
  refine assign_Tuple_tuple (I.ok.hd hc) ht (by simp [hn, ← hl, rv.length]) hst fun h' hx => ?_
  have I1 : Inv X pins σ H { s with heap := h' } := I.kept (t' := s.toks) fun b o e => hx b o (Nat.ne_of_lt (Heap.lt_size e)) e
  exact h pins _ σ H xs _ Q I1 (by simpa using rv) hw
/-- o[i] = .. -/
def gSub (to ti : TE) (t : TSet) : TG := fun v σ H Q => to σ H fun o H1 => ti σ H1 fun i H2 => t o i v H2 fun H3 => Q σ H3
theorem pg_sub {o i : Expr} {to ti : TE} {t : TSet} (ho : PE X o to) (hi : PE X i ti) (hs : PSet X t)
    (ha : ∀ v, assign (.Subscript o i pos) X.env v = (do
      let ov ← holding [v] (eval o X.env)
      let iv ← holding [v, ov] (eval i X.env)
      standAt pos
      holding [v, ov, iv] (setItem ov iv v)
      release [v, ov, iv] []) := by intro _; rfl) : PG X (.Subscript o i pos) (gSub to ti t) := by
  intro pins s σ H v u Q I r h
  rw [ha]
  refine wpAny_bind (wpAny_holding (thn (ho pins s σ H _ I h) fun ov s1 ⟨x, H1, I1, r1, q1⟩ => ?_))
  refine wpAny_bind (wpAny_holding (thn (hi pins s1 σ H1 _ I1 q1) fun iv s2 ⟨y, H2, I2, r2, q2⟩ => ?_))
  refine wpAny_bind (wpAny_standAt (wpAny_bind (wpAny_holding (thn (hs pins s2 σ H2 x y v ov iv u _ I2 r1 r2 r q2) fun _ s3 ⟨H3, I3, q3⟩ => ?_))))
  exact wpAny_release ⟨σ, H3, I3, q3⟩
/-- target = value -/
def tAsg (te : TE) (g : TG) : TS := fun D σ H => te σ H fun x H1 => g x σ H1 D.nx
theorem ps_asg {tg e : Expr} {te : TE} {g : TG} (he : PE X e te) (hg : PG X tg g) (hs : swapsWithSole [tg] e pos.line X.env = pure false := by rfl) (hw : swappedStores [tg] e X.env = pure none := by rfl)
    (h1 : (assignEach [tg] X.env).map (·.2) = [assign tg X.env] := by rfl) : PS X (.Assign [tg] e pos) (tAsg te g) := by
  intro pins s σ H D I h
  refine wpAny_Assign_stores (thn (he pins s σ H _ I h) fun v s1 ⟨x, H1, I1, r1, q1⟩ => ?_) hs hw
  rw [h1]
  exact thn (hg pins s1 σ H1 x v _ I1 r1 q1) fun _ s2 q => q
/-- name = value -/
theorem ps_set {i : Nat} {x : Str} {e : Expr} {te : TE} {pos' : Pos} (hN : X.N.Nodup) (hi : X.N[i]? = some x) (hx : Loc X.env.scope x) (he : PE X e te) (hs : swapsWith e (some (.Name x pos')) pos.line X.env = pure false := by rfl) (hf : X.fn x = true ∨ X.env.scope.names.lookup x = some .local := by first | exact .inl rfl | exact .inr rfl | assumption) :
    PS X (.Assign [.Name x pos'] e pos) (tAsg te (gName i)) := by
  intro pins s σ H D I h
  refine wpAny_Assign_Name (thn (he pins s σ H _ I h) fun v s1 ⟨y, H1, I1, r1, q1⟩ => ?_) hs
  exact store_ok I1 hN hi hx r1 (fun s2 I2 => ⟨_, H1, I2, q1⟩) hf
/-- a, b = x, y with plain local names: stored from the right; the pair itself is not tracked (the opening rows as in PyProof/Rows/TupAssign.lean:23) -/
def tPar (i j : Nat) (ta : TA) : TS := fun D σ H => ta σ H fun vs H1 => ∃ v w, vs = [v, w] ∧ D.nx ((σ.set i (some v)).set j (some w)) H1
theorem ps_par {i j : Nat} {x y : Str} {a b : Expr} {ta : TA} {px py pt : Pos} {kt k2 pt2} (hc : X.calm = true) (hN : X.N.Nodup) (hi : X.N[i]? = some x) (hj : X.N[j]? = some y) (hij : i ≠ j)
    (hx : X.env.scope.names.lookup x = some .local) (hy : X.env.scope.names.lookup y = some .local) (ha : PA X [a, b] ta)
    (hw : swappedStores [.Tuple [.Name x px, .Name y py] kt pt] (.Tuple [a, b] k2 pt2) X.env = pure (some [x, y]))
    (hs : swapsWithSole [.Tuple [.Name x px, .Name y py] kt pt] (.Tuple [a, b] k2 pt2) pos.line X.env = pure false := by rfl) :
    PS X (.Assign [.Tuple [.Name x px, .Name y py] kt pt] (.Tuple [a, b] k2 pt2) pos) (tPar i j ta) := by
  intro pins s σ H D I h
  rw [exec_Assign_arm]
  refine wpAny_bind (wpAny_standAt ?_)
  rw [hs]
  refine wpAny_bind (wpAny_pure ?_)
  rw [if_neg (by decide)]
  refine wpAny_bind (Tuple_ (thn (ha _ pins s σ H _ I h) fun us s1 ⟨vs, H1, I1, r1, q1⟩ => ?_))
  obtain ⟨v, w, e1, q1⟩ := q1
  subst e1
  obtain ⟨u1, u2, rfl, rv, rw'⟩ : ∃ u1 u2, us = [u1, u2] ∧ RelV v u1 ∧ RelV w u2 := by
    cases r1 with
    | cons p q =>
      cases q with
      | cons p' q' =>
        cases q'
        exact ⟨_, _, rfl, p, p'⟩
  refine wpAny_newObj_type ?_ (by show 2 ≤ sizeLine; decide)
  have I2 : Inv X pins σ H1 { s1 with heap := s1.heap.push { cls := .type "tuple", data := .seq [u1, u2].toArray } } := I1.kept (t' := s1.toks) fun b o e => Heap.get?_push_of_some _ e
  rw [hw]
  refine wpAny_bind (wpAny_pure ?_)
  show wpAny (model X.prog X.w) X.A (do rule "assign.swapped-stores"; let items ← unpackItems (.ref s1.heap.objs.size) 2 none; assignInOrder [fun v => bindName X.env y v, fun v => bindName X.env x v] items.reverse; pure Flow.next) _ _ _
  refine wpAny_bind (wpAny_rule (wpAny_bind (unpackItems_tuple (items := #[u1, u2]) (I.ok.hd hc) (IsTup.new s1.heap _) fun h' hx' => ?_)))
  have I3 := I2.kept (h' := h') (t' := s1.toks) fun b o e => hx' b o (Nat.ne_of_lt (Heap.lt_size e)) e
  show wpAny _ _ (assignInOrder [fun v => bindName X.env y v, fun v => bindName X.env x v] [u2, u1] >>= fun _ => pure Flow.next) _ _ _
  refine wpAny_bind (assignInOrder_cons (wpAny_bindName (store_ok I3 hN hj (.inl hy) rw' (fun s2 I4 => ?_) (.inr hy))))
  refine assignInOrder_cons (wpAny_bindName (store_ok I4 hN hi (.inl hx) rv (fun s3 I5 => assignInOrder_nil (wpAny_pure ?_)) (.inr hx)))
  rw [List.set_comm _ _ (Ne.symm hij)] at I5
  exact ⟨_, H1, I5, q1⟩
/-- name op= e -/
def tAug (i : Nat) (te : TE) (ti : TIp) : TS := fun D σ H => ∃ x, σ[i]? = some (some x) ∧ te σ H fun y H1 => ti x y H1 fun z H2 => D.nx (σ.set i (some z)) H2
theorem ps_aug {i : Nat} {x : Str} {e : Expr} {te : TE} {op : Operator} {ti : TIp} {pos' : Pos} (hN : X.N.Nodup) (hi : X.N[i]? = some x) (hx : Loc X.env.scope x) (he : PE X e te) (ho : PIp X op ti) (hf : X.fn x = true ∨ X.env.scope.names.lookup x = some .local := by first | exact .inl rfl | exact .inr rfl | assumption) :
    PS X (.AugAssign (.Name x pos') op e pos) (tAug i te ti) := by
  intro pins s σ H D I h
  obtain ⟨v, e1, h⟩ := h
  obtain ⟨m, hn, hl⟩ := I.loc
  have vis : Vis X.env.scope x := by rcases hx with k | k; exact .inl k; exact .inr (.inl k)
  obtain ⟨u, r, l⟩ := hl i x v hi e1 vis
  refine wpAny_AugAssign_Name ?_
  have go : wpAny (model X.prog X.w) X.A (eval e X.env) (fun w s₂ => wpAny (model X.prog X.w) X.A (inplaceOp op u w) (fun r s₃ => wpAny (model X.prog X.w) X.A (storeName X.env x r) (fun _ => SP X pins D .next) X.xe s₃) X.xe s₂) X.xe s := by
    refine thn (he pins s σ H _ I h) fun w s1 ⟨y, H1, I1, r1, q1⟩ => ?_
    refine thn (ho pins s1 σ H1 v y u w _ I1 r r1 q1) fun z s2 ⟨zv, H2, I2, r2, q2⟩ => ?_
    exact store_ok I2 hN hi hx r2 (fun s3 I3 => ⟨_, H2, I3, q2⟩) hf
  rcases l with ⟨hk, hm⟩ | ⟨hk, c, hc, hcell⟩
  · exact wpAny_loadName_local I.ok.kind hk hn hm go
  · rcases hk with hk | hk
    · exact wpAny_loadName_cell I.ok.kind hk hc hcell go
    · rcases hx with k | k
      · have : X.env.scope.names.lookup x = some .free := hk
        rw [k] at this; cases this
      · have : X.env.scope.names.lookup x = some .free := hk
        rw [k] at this; cases this
/-- o[i] op= e -/
def tAugS (to ti te : TE) (tget : V → V → Hp → VK → Prop) (tip : TIp) (tset : TSet) : TS := fun D σ H => to σ H fun o H1 => ti σ H1 fun i H2 => tget o i H2 fun x H3 => te σ H3 fun y H4 => tip x y H4 fun z H5 => tset o i z H5 fun H6 => D.nx σ H6
/-- o[i], by values -/
def PGet (X : Cx) (t : V → V → Hp → VK → Prop) : Prop :=
  ∀ (pins : List (Addr × Obj)) (s : Shared) (σ : St) (H : Hp) (o i : V) (ov iv : Value) (Q : VK), Inv X pins σ H s → RelV o ov → RelV i iv → t o i H Q →
    wpAny (model X.prog X.w) X.A (getItem ov iv) (EP X pins σ Q) X.xe s
theorem ps_augS {o i e : Expr} {to ti te : TE} {tget : V → V → Hp → VK → Prop} {tip : TIp} {tset : TSet} {op : Operator} {tpos : Pos} (ho : PE X o to) (hi : PE X i ti) (hg : PGet X tget) (he : PE X e te) (hp : PIp X op tip) (hs : PSet X tset)
    (ha : ∀ ov iv new, augStore i ov iv new = (do holding [new, ov, iv] (setItem ov iv new); release [new, ov, iv] []; pure .next) := by intros; rfl) : PS X (.AugAssign (.Subscript o i tpos) op e pos) (tAugS to ti te tget tip tset) := by
  intro pins s σ H D I h
  refine wpAny_AugAssign_SubscriptAny (thn (ho pins s σ H _ I h) fun ov s1 ⟨x1, H1, I1, r1, q1⟩ => ?_) ha
  refine thn (hi pins s1 σ H1 _ I1 q1) fun iv s2 ⟨x2, H2, I2, r2, q2⟩ => ?_
  refine thn (hg pins s2 σ H2 x1 x2 ov iv _ I2 r1 r2 q2) fun old s3 ⟨x3, H3, I3, r3, q3⟩ => ?_
  refine thn (he pins s3 σ H3 _ I3 q3) fun v s4 ⟨x4, H4, I4, r4, q4⟩ => ?_
  refine thn (hp pins s4 σ H4 x3 x4 old v _ I4 r3 r4 q4) fun new s5 ⟨x5, H5, I5, r5, q5⟩ => ?_
  exact thn (hs pins s5 σ H5 x1 x2 x5 ov iv new _ I5 r1 r2 r5 q5) fun _ s6 ⟨H6, I6, q6⟩ => ⟨σ, H6, I6, q6⟩
/-- ints -/
def ipI (f : Int → Int → Int) : TIp := fun x y H Q => ∃ i j, x = .int i ∧ y = .int j ∧ Q (.int (f i j)) H
theorem ip_add : PIp X .Add (ipI fun i j => i + j) := by
  intro pins s σ H x y v u Q I r1 r2 h
  obtain ⟨i, j, e1, e2, q⟩ := h
  subst e1; subst e2
  obtain ⟨t, rfl⟩ := r1
  obtain ⟨t', rfl⟩ := r2
  exact iadd_int ⟨.int _, H, I.tok _, ⟨_, rfl⟩, q⟩
theorem ip_sub : PIp X .Sub (ipI fun i j => i - j) := by
  intro pins s σ H x y v u Q I r1 r2 h
  obtain ⟨i, j, e1, e2, q⟩ := h
  subst e1; subst e2
  obtain ⟨t, rfl⟩ := r1
  obtain ⟨t', rfl⟩ := r2
  exact isub_int ⟨.int _, H, I.tok _, ⟨_, rfl⟩, q⟩
end

/-! ### while -/
section
variable {X : Cx} {pos : Pos}
/-- the invariant W with its measure -/
def tWhile (c : TT) (tb : TS) : TS := fun D σ H => ∃ W : Nat → St → Hp → Prop, (∃ m, W m σ H) ∧ ∀ m σ H, W m σ H →
  c σ H fun b H1 => if b = true then ∃ N : St → Hp → Prop, (∀ σ' H', N σ' H' → ∃ m', m' < m ∧ W m' σ' H') ∧ tb { D with nx := N, ct := N, bk := D.nx } σ H1 else D.nx σ H1
theorem ps_while {c : Expr} {body : List Stmt} {tc : TT} {tb : TS} (hp : PassesOwn (model X.prog X.w) X.A X.env X.xe) (hc : PT X c tc) (hb : PSs X body tb) : PS X (.While c body [] pos) (tWhile tc tb) := by
  intro pins s σ H D I h
  obtain ⟨W, ⟨m0, w0⟩, turn⟩ := h
  refine wpAny_While (codeAny_whileLoop (fun n s' => ∃ σ' H', Inv X pins σ' H' s' ∧ W n σ' H') ?_ m0 ⟨σ, H, I, w0⟩)
  rintro n s1 ⟨σ1, H1, I1, w1⟩
  refine wpAny_passesOwn hp (thn (hc pins s1 σ1 H1 _ I1 (turn n σ1 H1 w1)) fun b s2 ⟨H2, I2, q2⟩ => ?_)
  cases b with
  | true =>
    obtain ⟨N, hN, q2⟩ := q2
    rw [if_pos rfl]
    refine wpAny_passesOwn hp (thn (hb pins s2 σ1 H2 _ I2 q2) fun f s3 q3 => ?_)
    cases f with
    | next =>
      obtain ⟨σ3, H3, I3, n3⟩ := q3
      obtain ⟨m', hm, w3⟩ := hN σ3 H3 n3
      exact ⟨m', hm, σ3, H3, I3, w3⟩
    | cont =>
      obtain ⟨σ3, H3, I3, n3⟩ := q3
      obtain ⟨m', hm, w3⟩ := hN σ3 H3 n3
      exact ⟨m', hm, σ3, H3, I3, w3⟩
    | brk => exact q3
    | ret v => exact q3
  | false =>
    rw [if_neg Bool.false_ne_true]
    exact wpAny_execs_nil ⟨σ1, H2, I2, q2⟩
end

/-! ### what a loop or a comprehension walks -/
/-- at turn i: it yields x (the heap may grow), or it stops -/
structure It where
  go : Nat → Hp → Prop
  yld : Nat → Hp → V → Hp → Prop
  stop : Nat → Hp → Prop
/-- the iterator's own objects may turn: they are not the frame's, not pinned, younger than the entry (or a comprehension's own) -/
def FpOk (X : Cx) (pins : List (Addr × Obj)) (H : Hp) (b : Addr) : Prop :=
  H b = none ∧ b ≠ X.env.locals ∧ b ∉ X.fs ∧ (b ∈ X.ex ∨ X.s₀.heap.objs.size ≤ b) ∧ (∀ x c, X.env.cells.lookup x = some c → c ≠ b) ∧ ∀ p ∈ X.pn ++ pins, p.1 ≠ b
theorem Inv.fpOk {X : Cx} {pins : List (Addr × Obj)} {σ : St} {H H' : Hp} {s : Shared} {b : Addr} (I : Inv X pins σ H s) (hb : s.heap.objs.size ≤ b) (hn : H' b = none) : FpOk X pins H' b := by
  refine ⟨hn, Nat.ne_of_gt (Nat.lt_of_lt_of_le I.lt hb), I.nofs hb, .inr (Nat.le_trans I.sz hb), fun x c e z => ?_, fun p hp z => ?_⟩
  · obtain ⟨v, q⟩ := I.cell x c e
    exact absurd (Nat.lt_of_lt_of_le q.lt (by rw [z]; exact hb)) (Nat.lt_irrefl _)
  · exact absurd (Nat.lt_of_lt_of_le (Heap.lt_size (I.pin p hp).1) (by rw [z]; exact hb)) (Nat.lt_irrefl _)
structure Turn (P : Program) (w : World) (K : PySem.W.Frag) (tg : Expr) (J : It) (fp : List Addr) (it : Addr) (tn : Nat → Heap → Prop) : Prop where
  mem : it ∈ fp
  obj : ∀ i h, tn i h → ∀ b ∈ fp, ∃ o, h.get? b = some o ∧ ∀ v, o.data ≠ .cell v
  keep : ∀ i h h', tn i h → (∀ b ∈ fp, ∀ o, h.get? b = some o → h'.get? b = some o) → tn i h'
  item : ∀ (X : Cx), X.prog = P → X.w = w → X.K = K → X.calm = true → ∀ (i : Nat) (pins : List (Addr × Obj)) (s : Shared) (σ : St) (H : Hp) (E : Value → Shared → Prop), Inv X pins σ H s → (∀ b ∈ fp, FpOk X pins H b) → tn i s.heap → J.go i H →
    wpAny (model P w) X.A (pyNext (.ref it)) (fun r s1 => ∃ u, r = some u ∧
      wpAny (model P w) X.A (letOwnedTupleGo tg (.ref it) u) (fun _ s2 => ∃ x H', Inv X pins σ H' s2 ∧ RelV x u ∧ J.yld i H x H' ∧ tn (i + 1) s2.heap ∧ ∀ b ∈ fp, H' b = none) E s1) E s
  done : ∀ (X : Cx), X.prog = P → X.w = w → X.K = K → X.calm = true → ∀ (i : Nat) (pins : List (Addr × Obj)) (s : Shared) (σ : St) (H : Hp) (E : Value → Shared → Prop), Inv X pins σ H s → (∀ b ∈ fp, FpOk X pins H b) → tn i s.heap → J.stop i H →
    wpAny (model P w) X.A (pyNext (.ref it)) (fun r s1 => r = none ∧ Inv X pins σ H s1) E s
  self : ∀ (A : Around) (i : Nat) (s : Shared) (Q : Value → Shared → Prop) (E : Value → Shared → Prop), tn i s.heap → Q (.ref it) s → wpAny (model P w) A (pyIter (.ref it)) Q E s
abbrev TI := St → Hp → (It → Hp → Prop) → Prop
/-- an iterator has come -/
def PIE (X : Cx) (pins : List (Addr × Obj)) (σ : St) (tg : Expr) (R : It → Hp → Prop) (itv : Value) (s2 : Shared) : Prop :=
  ∃ (it : Addr) (fp : List Addr) (tn : Nat → Heap → Prop) (J : It) (H' : Hp), itv = .ref it ∧ Inv X pins σ H' s2 ∧ Turn X.prog X.w X.K tg J fp it tn ∧ tn 0 s2.heap ∧ (∀ b ∈ fp, FpOk X pins H' b) ∧ R J H'
def PI (X : Cx) (tg iter : Expr) (wi : TI) : Prop :=
  ∀ (pins : List (Addr × Obj)) (s : Shared) (σ : St) (H : Hp) (R : It → Hp → Prop), Inv X pins σ H s → wi σ H R →
    wpAny (model X.prog X.w) X.A (eval iter X.env) (fun v s1 => wpAny (model X.prog X.w) X.A (pyIter v) (PIE X pins σ tg R) X.xe s1) X.xe s

/-- the step ahead of the store is nothing for an iterator that keeps no tuple -/
theorem go_of {M : Model} {A : Around} {E : Value → Shared → Prop} {s : Shared} {tg : Expr} {it : Addr} {u : Value} {o : Obj} {n : String} {vs : Array Value} {Q : Unit → Shared → Prop} (ho : s.heap.get? it = some o) (hc : o.cls = .type n) (hd : o.data = .fields vs)
    (hn : ["enumerate", "zip", "dict_itemiterator", "dict_reverseitemiterator", "odict_iterator", "itertools.zip_longest", "itertools.pairwise"].contains n = false) (hQ : Q () s) : wpAny M A (letOwnedTupleGo tg (.ref it) u) Q E s := by
  unfold letOwnedTupleGo
  cases tg <;> first
    | exact wpAny_pure hQ
    | (cases u <;> first
        | exact wpAny_pure hQ
        | (refine wpAny_bind (wpAny_load ho ?_)
           rw [hc, hd]
           show wpAny M A (if (["enumerate", "zip", "dict_itemiterator", "dict_reverseitemiterator", "odict_iterator", "itertools.zip_longest", "itertools.pairwise"].contains n && vs[0]? == some (rawInt _)) = true then _ else _) Q E s
           rw [if_neg (by intro h; rw [hn, Bool.false_and] at h; cases h)]
           exact wpAny_pure hQ))

/-- the list at a, as it stands at each turn (a loop may append to it) -/
def Itl (K : PySem.W.Frag) (a : Addr) : It :=
  ⟨fun i H => ∃ xs x, SqL K H a xs ∧ xs[i]? = some x, fun i H x H' => H' = H ∧ ∀ xs, SqL K H a xs → xs[i]? = some x, fun i H => ∃ xs, SqL K H a xs ∧ xs.length ≤ i⟩
def Itt (K : PySem.W.Frag) (a : Addr) : It :=
  ⟨fun i H => ∃ xs x, SqT K H a xs ∧ xs[i]? = some x, fun i H x H' => H' = H ∧ ∀ xs, SqT K H a xs → xs[i]? = some x, fun i H => ∃ xs, SqT K H a xs ∧ xs.length ≤ i⟩
/-- lo, lo + 1, .. (n of them) -/
def Itr (lo : Int) (n : Nat) : It := ⟨fun i _ => i < n, fun i H x H' => H' = H ∧ x = .int (lo + i), fun i _ => n ≤ i⟩
theorem turn_list {P : Program} {w : World} {K : PySem.W.Frag} {tg : Expr} (a it : Addr) : Turn P w K tg (Itl K a) [it] it (fun i h => h.IsListIter it a i) where
  mem := by simp
  obj := fun i h st b hb => by
    have e : b = it := by simpa using hb
    subst e
    obtain ⟨o, e, c, d⟩ := st
    exact ⟨o, e, fun v z => by rw [d] at z; cases z⟩
  keep := fun i h h' st k => st.at fun o e => k it (by simp) o e
  item := by
    intro X hP hw hK hc i pins s σ H E I hf st hg
    subst hP hw hK
    obtain ⟨xs, x, hq, hx⟩ := hg
    obtain ⟨its, rv, p, hz⟩ := I.list hq
    obtain ⟨u, hu, ru⟩ := rv.get hx
    obtain ⟨f0, f1, f2, f3, f4, f5⟩ := hf it (by simp)
    refine wpAny_pyNext_list_item st p.isList (x := u) (by simpa using hu) fun h' st' sb => ?_
    have I1 : Inv X pins σ H { s with heap := h' } := I.turned (t' := s.toks) (fun b o hb e => (sb.2 b hb).trans e) f0 f1 f3 f4 f5
    obtain ⟨o, e, c, d⟩ := id st'
    exact ⟨u, rfl, go_of (s := { s with heap := h' }) e c d (by decide) ⟨x, H, I1, ru, ⟨rfl, fun ys hy => by rw [I.list_inj hy hq]; exact hx⟩, st', fun b hb => (hf b hb).1⟩⟩
  done := by
    intro X hP hw hK hc i pins s σ H E I hf st hg
    subst hP hw hK
    obtain ⟨xs, hq, hx⟩ := hg
    obtain ⟨its, rv, p, hz⟩ := I.list hq
    obtain ⟨f0, f1, f2, f3, f4, f5⟩ := hf it (by simp)
    have hl := rv.length
    exact wpAny_pyNext_list_end (I.ok.hd hc) st p.isList (by simp; omega) fun h' eb => ⟨rfl, I.turned (t' := s.toks) (fun b o hb e => eb b o hb e) f0 f1 f3 f4 f5⟩
  self := fun _ _ _ _ _ st h => wpAny_pyIter_listiter st h
theorem turn_tuple {P : Program} {w : World} {K : PySem.W.Frag} {tg : Expr} (a it : Addr) : Turn P w K tg (Itt K a) [it] it (fun i h => h.IsTupleIter it a i) where
  mem := by simp
  obj := fun i h st b hb => by
    have e : b = it := by simpa using hb
    subst e
    obtain ⟨o, e, c, d⟩ := st
    exact ⟨o, e, fun v z => by rw [d] at z; cases z⟩
  keep := fun i h h' st k => st.at fun o e => k it (by simp) o e
  item := by
    intro X hP hw hK hc i pins s σ H E I hf st hg
    subst hP hw hK
    obtain ⟨xs, x, hq, hx⟩ := hg
    obtain ⟨its, rv, p, hz⟩ := I.tuple hq
    obtain ⟨u, hu, ru⟩ := rv.get hx
    obtain ⟨f0, f1, f2, f3, f4, f5⟩ := hf it (by simp)
    refine wpAny_pyNext_tuple_item st (show s.heap.IsTuple a its.toArray from p) (x := u) (by simpa using hu) fun h' st' sb => ?_
    have I1 : Inv X pins σ H { s with heap := h' } := I.turned (t' := s.toks) (fun b o hb e => (sb.2 b hb).trans e) f0 f1 f3 f4 f5
    obtain ⟨o, e, c, d⟩ := id st'
    exact ⟨u, rfl, go_of (s := { s with heap := h' }) e c d (by decide) ⟨x, H, I1, ru, ⟨rfl, fun ys hy => by rw [I.tuple_inj hy hq]; exact hx⟩, st', fun b hb => (hf b hb).1⟩⟩
  done := by
    intro X hP hw hK hc i pins s σ H E I hf st hg
    subst hP hw hK
    obtain ⟨xs, hq, hx⟩ := hg
    obtain ⟨its, rv, p, hz⟩ := I.tuple hq
    obtain ⟨f0, f1, f2, f3, f4, f5⟩ := hf it (by simp)
    have hl := rv.length
    exact wpAny_pyNext_tuple_end (I.ok.hd hc) st (show s.heap.IsTuple a its.toArray from p) (by simp; omega) fun h' eb => ⟨rfl, I.turned (t' := s.toks) (fun b o hb e => eb b o hb e) f0 f1 f3 f4 f5⟩
  self := fun _ _ _ _ _ st h => wpAny_pyIter_tupleiter st h
theorem turn_range {P : Program} {w : World} {K : PySem.W.Frag} {tg : Expr} (it : Addr) (lo : Int) (n : Nat) : Turn P w K tg (Itr lo n) [it] it (fun i h => IsRangeIter h it (lo + (i : Nat) * 1) ((n : Int) - (i : Nat)) 1) where
  mem := by simp
  obj := fun i h st b hb => by
    have e : b = it := by simpa using hb
    subst e
    exact ⟨_, st, fun v z => by
      have z' : Data.fields _ = Data.cell v := z
      cases z'⟩
  keep := fun i h h' st k => k it (by simp) _ st
  item := by
    intro X hP hw hK hc i pins s σ H E I hf st hg
    subst hP hw hK
    obtain ⟨f0, f1, f2, f3, f4, f5⟩ := hf it (by simp)
    have W := Walks.range (prog := X.prog) (w := X.w) (I.ok.hd hc) it lo 1 n
    refine W.item i s _ _ hg st fun v h' tk hv st' kk => ?_
    obtain ⟨t, rfl⟩ := hv
    have I1 : Inv X pins σ H { s with heap := h', toks := tk } := I.turned (fun b o hb e => kk b o (by simpa using hb) e) f0 f1 f3 f4 f5
    refine ⟨_, rfl, go_of (s := { s with heap := h', toks := tk }) (n := "range_iterator") st' rfl rfl (by decide) ⟨.int (lo + i), H, I1, ⟨t, ?_⟩, ⟨rfl, rfl⟩, st', fun b hb => (hf b hb).1⟩⟩
    rw [Int.mul_one]
  done := by
    intro X hP hw hK hc i pins s σ H E I hf st hg
    subst hP hw hK
    obtain ⟨f0, f1, f2, f3, f4, f5⟩ := hf it (by simp)
    exact wpAny_pyNext_range_end (I.ok.hd hc) st (by have : n ≤ i := hg; omega) fun h' eb => ⟨rfl, I.turned (t' := s.toks) (fun b o hb e => eb b o hb e) f0 f1 f3 f4 f5⟩
  self := fun _ _ _ _ _ st h => wpAny_pyIter_rangeiter st h
end L2

namespace L2
open PySem PySem.Spec PyProof.Rows
section
variable {X : Cx} {tg : Expr}
def iList (K : PySem.W.Frag) (tl : TE) : TI := fun σ H R => tl σ H fun x H1 => ∃ a, x = .ref a ∧ (∃ xs, SqL K H1 a xs) ∧ R (Itl K a) H1
def iTup (K : PySem.W.Frag) (tl : TE) : TI := fun σ H R => tl σ H fun x H1 => ∃ a, x = .ref a ∧ (∃ xs, SqT K H1 a xs) ∧ R (Itt K a) H1
theorem pi_list {l : Expr} {tl : TE} (hl : PE X l tl) : PI X tg l (iList X.K tl) := by
  intro pins s σ H R I h
  refine thn (hl pins s σ H _ I h) fun v s1 ⟨x, H1, I1, r1, q1⟩ => ?_
  obtain ⟨a, e, ⟨xs, hq⟩, q⟩ := q1
  subst e
  cases r1
  obtain ⟨its, rv, p, hz⟩ := I1.list hq
  refine wpAny_pyIter_list p.isList ?_
  refine ⟨s1.heap.objs.size, [s1.heap.objs.size], _, _, H1, rfl, I1.kept (t' := s1.toks) fun b o e => Heap.get?_push_of_some _ e, turn_list a _, ⟨_, Heap.get?_push_size _ rfl, rfl, rfl⟩, fun b hb => ?_, q⟩
  have e : b = s1.heap.objs.size := by simpa using hb
  subst e
  exact I1.fpOk (Nat.le_refl _) (I1.hok.fresh (Nat.le_refl _))
theorem pi_tup {l : Expr} {tl : TE} (hl : PE X l tl) : PI X tg l (iTup X.K tl) := by
  intro pins s σ H R I h
  refine thn (hl pins s σ H _ I h) fun v s1 ⟨x, H1, I1, r1, q1⟩ => ?_
  obtain ⟨a, e, ⟨xs, hq⟩, q⟩ := q1
  subst e
  cases r1
  obtain ⟨its, rv, p, hz⟩ := I1.tuple hq
  refine wpAny_pyIter_tuple (show s1.heap.IsTuple a its.toArray from p) ?_
  refine ⟨s1.heap.objs.size, [s1.heap.objs.size], _, _, H1, rfl, I1.kept (t' := s1.toks) fun b o e => Heap.get?_push_of_some _ e, turn_tuple a _, ⟨_, Heap.get?_push_size _ rfl, rfl, rfl⟩, fun b hb => ?_, q⟩
  have e : b = s1.heap.objs.size := by simpa using hb
  subst e
  exact I1.fpOk (Nat.le_refl _) (I1.hok.fresh (Nat.le_refl _))
/-- a range object just made, walked -/
theorem range_it {pins : List (Addr × Obj)} {σ : St} {H : Hp} {s : Shared} {R : It → Hp → Prop} {E : Value → Shared → Prop} {lo hi : Int} {t u v : Tok} {tk : Nat} (I : Inv X pins σ H s) (h1 : -(2 ^ 62) ≤ lo) (h2 : lo < 2 ^ 62) (h3 : -(2 ^ 62) ≤ hi) (h4 : hi < 2 ^ 62)
    (q : R (Itr lo (hi - lo).toNat) H) : wpAny (model X.prog X.w) X.A (pyIter (.ref s.heap.objs.size)) (PIE X pins σ tg R) E { s with heap := s.heap.push { cls := .type "range", data := .fields #[.int lo t, .int hi u, .int 1 v] }, toks := tk } := by
  refine wpAny_pyIter_range (IsRange.new ..) (small_one h1 h2 h3 h4) ?_
  have I1 : Inv X pins σ H { s with heap := s.heap.push { cls := .type "range", data := .fields #[.int lo t, .int hi u, .int 1 v] }, toks := tk } := I.kept fun b o e => Heap.get?_push_of_some _ e
  refine ⟨(s.heap.push { cls := .type "range", data := .fields #[.int lo t, .int hi u, .int 1 v] }).objs.size, [(s.heap.push { cls := .type "range", data := .fields #[.int lo t, .int hi u, .int 1 v] }).objs.size], _, _, H, rfl,
    I1.kept (t' := tk) fun b o e => Heap.get?_push_of_some _ e, turn_range _ lo (hi - lo).toNat, ?_, fun b hb => ?_, q⟩
  · have e1 : lo + ((0 : Nat) : Int) * 1 = lo := by simp
    have e2 : (((hi - lo).toNat : Nat) : Int) - ((0 : Nat) : Int) = Builtin.Range.rangeSize lo hi 1 := by rw [rangeSize_one]; split <;> omega
    show IsRangeIter _ _ (lo + ((0 : Nat) : Int) * 1) ((((hi - lo).toNat : Nat) : Int) - ((0 : Nat) : Int)) 1
    rw [e1, e2]
    exact Heap.get?_push_size _ rfl
  · have e : b = (s.heap.push { cls := .type "range", data := .fields #[.int lo t, .int hi u, .int 1 v] }).objs.size := by simpa using hb
    subst e
    exact I1.fpOk (Nat.le_refl _) (I1.hok.fresh (Nat.le_refl _))
def iRng1 (ta : TA) : TI := fun σ H R => ta σ H fun vs H1 => ∃ j : Int, vs = [.int j] ∧ -(2 ^ 62) ≤ j ∧ j < 2 ^ 62 ∧ R (Itr 0 j.toNat) H1
def iRng2 (ta : TA) : TI := fun σ H R => ta σ H fun vs H1 => ∃ i j : Int, vs = [.int i, .int j] ∧ (-(2 ^ 62) ≤ i ∧ i < 2 ^ 62 ∧ -(2 ^ 62) ≤ j ∧ j < 2 ^ 62) ∧ R (Itr i (j - i).toNat) H1
theorem pi_range1 {a : Expr} {ta : TA} {p pos : Pos} (hg : Gl X "range") (hm : X.mg "range" = none) (ha : PA X [a] ta) (hs : starEach [a] X.env = [(false, eval a X.env)] := by rfl) : PI X tg (.Call (.Name "range" p) [a] [] pos) (iRng1 ta) := by
  intro pins s σ H R I h
  refine Call_ (ld_blt I hg hm boot_range (PyProof.Rows.callWith_type1 (thn (ha pos pins s σ H _ I h) fun us s1 ⟨vs, H1, I1, r1, q1⟩ => ?_) hs rfl))
  obtain ⟨j, e, q1, q2, q⟩ := q1
  subst e
  cases r1 with
  | cons r rr =>
    cases rr
    obtain ⟨t, rfl⟩ := r
    exact call_range_1 (range_it I1 (by omega) (by omega) q1 q2 (by simpa using q))
theorem pi_range2 {a b : Expr} {ta : TA} {p pos : Pos} (hg : Gl X "range") (hm : X.mg "range" = none) (ha : PA X [a, b] ta) (hs : starEach [a, b] X.env = [(false, eval a X.env), (false, eval b X.env)] := by rfl) (hs2 : starEach [b] X.env = [(false, eval b X.env)] := by rfl) :
    PI X tg (.Call (.Name "range" p) [a, b] [] pos) (iRng2 ta) := by
  intro pins s σ H R I h
  refine Call_ (ld_blt I hg hm boot_range (PyProof.Rows.callWith_type1 (thn (ha pos pins s σ H _ I h) fun us s1 ⟨vs, H1, I1, r1, q1⟩ => ?_) (by rw [hs, hs2]) (by rw [hs2]; rfl)))
  obtain ⟨i, j, e, ⟨q1, q2, q3, q4⟩, q⟩ := q1
  subst e
  cases r1 with
  | cons r rr =>
    cases rr with
    | cons r' rr =>
      cases rr
      obtain ⟨t, rfl⟩ := r
      obtain ⟨t', rfl⟩ := r'
      exact call_range_2 (range_it I1 q1 q2 q3 q4 q)

/-! ### for -/
/-- W: the invariant by the turn and a measure; N: what the body is to reach -/
def tFor (wi : TI) (g : TG) (tb : TS) : TS := fun D σ H => wi σ H fun J H1 => ∃ W : Nat → Nat → St → Hp → Prop, (∃ m, W 0 m σ H1) ∧ ∀ i m σ H, W i m σ H →
  (J.stop i H ∧ D.nx σ H) ∨ (J.go i H ∧ ∃ N : St → Hp → Prop, (∀ σ' H', N σ' H' → ∃ m', m' < m ∧ W (i + 1) m' σ' H') ∧ ∀ x H', J.yld i H x H' → g x σ H' fun σ2 H2 => tb { D with nx := N, ct := N, bk := D.nx } σ2 H2)
/-- the records at fp as they stand -/
def pinsAt (fp : List Addr) (h : Heap) : List (Addr × Obj) := fp.filterMap fun b => (h.get? b).map fun o => (b, o)
theorem mem_pinsAt {fp : List Addr} {h : Heap} {b : Addr} {o : Obj} (hb : b ∈ fp) (e : h.get? b = some o) : (b, o) ∈ pinsAt fp h := List.mem_filterMap.mpr ⟨b, hb, by rw [e]; rfl⟩
theorem of_pinsAt {fp : List Addr} {h : Heap} {p : Addr × Obj} (hp : p ∈ pinsAt fp h) : p.1 ∈ fp ∧ h.get? p.1 = some p.2 := by
  obtain ⟨b, hb, e⟩ := List.mem_filterMap.mp hp
  cases q : h.get? b with
  | none => rw [q] at e; cases e
  | some o =>
    rw [q] at e
    have e' : (b, o) = p := Option.some.inj e
    subst e'
    exact ⟨hb, q⟩
theorem Inv.pinned {pins : List (Addr × Obj)} {σ : St} {H : Hp} {s : Shared} {fp : List Addr} (I : Inv X pins σ H s) (hf : ∀ b ∈ fp, FpOk X pins H b) (ho : ∀ b ∈ fp, ∃ o, s.heap.get? b = some o ∧ ∀ v, o.data ≠ .cell v) : Inv X (pins ++ pinsAt fp s.heap) σ H s :=
  I.pins_of fun p hp => (List.mem_append.mp hp).elim (fun z => I.pin p (List.mem_append_right _ z)) fun z => by
    obtain ⟨hb, e⟩ := of_pinsAt z
    obtain ⟨f0, f1, f2, _⟩ := hf p.1 hb
    obtain ⟨o, e', d⟩ := ho p.1 hb
    rw [e] at e'; cases e'
    exact ⟨e, f0, f1, f2, d⟩
theorem Inv.unpinned {pins pl : List (Addr × Obj)} {σ : St} {H : Hp} {s : Shared} (I : Inv X (pins ++ pl) σ H s) : Inv X pins σ H s := I.pins_of fun p hp => I.pin p (List.mem_append_right _ (List.mem_append_left _ hp))
theorem ps_for {iter : Expr} {body : List Stmt} {wi : TI} {g : TG} {tb : TS} {pos : Pos} (hp : PassesOwn (model X.prog X.w) X.A X.env X.xe) (hc : X.calm = true) (hi : PI X tg iter wi) (hg : PG X tg g) (hb : PSs X body tb)
    (hs : ∀ x, foldedSetIterable iter X.env x = pure x := by intro _; rfl) : PS X (.For tg iter body [] pos) (tFor wi g tb) := by
  intro pins s σ H D I h
  refine wpAny_For (thn (hi pins s σ H _ I h) fun v s1 h1 => thn h1 fun itv s2 h2 => ?_) hs
  obtain ⟨it, fp, tn, J, H2, e, I2, T, st2, f2, W, ⟨m0, w0⟩, turn⟩ := h2
  subst e
  -- what stays true of the iterator's objects through the loop
  have stat : ∀ {H' : Hp}, (∀ b ∈ fp, H' b = none) → ∀ b ∈ fp, FpOk X pins H' b := fun hn b hb => ⟨hn b hb, (f2 b hb).2⟩
  refine codeAny_forLoop_any (fun n s' => ∃ i σ' H', Inv X pins σ' H' s' ∧ tn i s'.heap ∧ (∀ b ∈ fp, H' b = none) ∧ W i n σ' H') ?_ m0 ⟨0, σ, H2, I2, st2, fun b hb => (f2 b hb).1, w0⟩
  rintro n s3 ⟨i, σ3, H3, I3, st3, fr3, w3⟩
  rcases turn i n σ3 H3 w3 with ⟨stop, qn⟩ | ⟨go, N, hN, step⟩
  · refine wpAny_passesOwn hp (thn (T.done X rfl rfl rfl hc i pins s3 σ3 H3 X.xe I3 (stat fr3) st3 stop) fun r s4 ⟨hr, I4⟩ => ?_)
    subst hr
    exact wpAny_execs_nil ⟨σ3, H3, I4, qn⟩
  · refine wpAny_passesOwn hp (thn (T.item X rfl rfl rfl hc i pins s3 σ3 H3 X.xe I3 (stat fr3) st3 go) fun r s4 ⟨u, hr, h4⟩ => ?_)
    subst hr
    refine wpAny_passesOwn hp (thn h4 fun _ s5 ⟨x, H5, I5, r5, y5, st5, fr5⟩ => ?_)
    have I5' := I5.pinned (stat fr5) (T.obj _ _ st5)
    refine wpAny_passesOwn hp (thn (hg _ s5 σ3 H5 x u _ I5' r5 (step x H5 y5)) fun _ s6 ⟨σ6, H6, I6, q6⟩ => ?_)
    refine wpAny_passesOwn hp (thn (hb _ s6 σ6 H6 _ I6 q6) fun f s7 q7 => ?_)
    have again : ∀ {σ7 : St} {H7 : Hp}, Inv X (pins ++ pinsAt fp s5.heap) σ7 H7 s7 → N σ7 H7 → ∃ m, m < n ∧ ∃ i σ' H', Inv X pins σ' H' s7 ∧ tn i s7.heap ∧ (∀ b ∈ fp, H' b = none) ∧ W i m σ' H' := fun {σ7 H7} I7 n7 => by
      obtain ⟨m', hm, w7⟩ := hN σ7 H7 n7
      refine ⟨m', hm, i + 1, σ7, H7, I7.unpinned, T.keep _ _ _ st5 fun b hb o e => (I7.pin (b, o) (List.mem_append_right _ (List.mem_append_right _ (mem_pinsAt hb e)))).1, fun b hb => ?_, w7⟩
      obtain ⟨o, e, d⟩ := T.obj _ _ st5 b hb
      exact (I7.pin (b, o) (List.mem_append_right _ (List.mem_append_right _ (mem_pinsAt hb e)))).2.1
    cases f with
    | next => obtain ⟨σ7, H7, I7, n7⟩ := q7; exact again I7 n7
    | cont => obtain ⟨σ7, H7, I7, n7⟩ := q7; exact again I7 n7
    | brk => obtain ⟨σ7, H7, I7, q7⟩ := q7; exact ⟨σ7, H7, I7.unpinned, q7⟩
    | ret v => obtain ⟨x7, σ7, H7, I7, r7, q7⟩ := q7; exact ⟨x7, σ7, H7, I7.unpinned, r7, q7⟩
end

/-! ### the forms one uses -/
/-- over a list that the body leaves as it is -/
theorem for_list {K : PySem.W.Frag} {a : Addr} {xs : List V} {g : TG} {tb : TS} {D : Ends} {σ : St} {H : Hp} (Pv : Nat → St → Hp → Prop) (h0 : Pv 0 σ H) (hl : ∀ i σ H, i ≤ xs.length → Pv i σ H → SqL K H a xs)
    (hs : ∀ i x σ H, xs[i]? = some x → Pv i σ H → g x σ H fun σ2 H2 => tb { D with nx := Pv (i + 1), ct := Pv (i + 1), bk := D.nx } σ2 H2) (hd : ∀ σ H, Pv xs.length σ H → D.nx σ H) :
    ∃ W : Nat → Nat → St → Hp → Prop, (∃ m, W 0 m σ H) ∧ ∀ i m σ H, W i m σ H →
      ((Itl K a).stop i H ∧ D.nx σ H) ∨ ((Itl K a).go i H ∧ ∃ N : St → Hp → Prop, (∀ σ' H', N σ' H' → ∃ m', m' < m ∧ W (i + 1) m' σ' H') ∧ ∀ x H', (Itl K a).yld i H x H' → g x σ H' fun σ2 H2 => tb { D with nx := N, ct := N, bk := D.nx } σ2 H2) := by
  refine ⟨fun i m σ H => m = xs.length - i ∧ i ≤ xs.length ∧ Pv i σ H, ⟨xs.length, by simp, Nat.zero_le _, h0⟩, ?_⟩
  rintro i m σ H ⟨rfl, hi, p⟩
  have q := hl i σ H hi p
  by_cases hlt : i < xs.length
  · refine .inr ⟨⟨xs, xs[i], q, by simp [hlt]⟩, Pv (i + 1), fun σ' H' p' => ⟨xs.length - (i + 1), by omega, rfl, hlt, p'⟩, fun x H' y => ?_⟩
    obtain ⟨e, y⟩ := y
    subst e
    exact hs i x σ _ (y xs q) p
  · have e : i = xs.length := by omega
    subst e
    exact .inl ⟨⟨xs, q, Nat.le_refl _⟩, hd σ H p⟩
theorem for_tup {K : PySem.W.Frag} {a : Addr} {xs : List V} {g : TG} {tb : TS} {D : Ends} {σ : St} {H : Hp} (Pv : Nat → St → Hp → Prop) (h0 : Pv 0 σ H) (hl : ∀ i σ H, i ≤ xs.length → Pv i σ H → SqT K H a xs)
    (hs : ∀ i x σ H, xs[i]? = some x → Pv i σ H → g x σ H fun σ2 H2 => tb { D with nx := Pv (i + 1), ct := Pv (i + 1), bk := D.nx } σ2 H2) (hd : ∀ σ H, Pv xs.length σ H → D.nx σ H) :
    ∃ W : Nat → Nat → St → Hp → Prop, (∃ m, W 0 m σ H) ∧ ∀ i m σ H, W i m σ H →
      ((Itt K a).stop i H ∧ D.nx σ H) ∨ ((Itt K a).go i H ∧ ∃ N : St → Hp → Prop, (∀ σ' H', N σ' H' → ∃ m', m' < m ∧ W (i + 1) m' σ' H') ∧ ∀ x H', (Itt K a).yld i H x H' → g x σ H' fun σ2 H2 => tb { D with nx := N, ct := N, bk := D.nx } σ2 H2) := by
  refine ⟨fun i m σ H => m = xs.length - i ∧ i ≤ xs.length ∧ Pv i σ H, ⟨xs.length, by simp, Nat.zero_le _, h0⟩, ?_⟩
  rintro i m σ H ⟨rfl, hi, p⟩
  have q := hl i σ H hi p
  by_cases hlt : i < xs.length
  · refine .inr ⟨⟨xs, xs[i], q, by simp [hlt]⟩, Pv (i + 1), fun σ' H' p' => ⟨xs.length - (i + 1), by omega, rfl, hlt, p'⟩, fun x H' y => ?_⟩
    obtain ⟨e, y⟩ := y
    subst e
    exact hs i x σ _ (y xs q) p
  · have e : i = xs.length := by omega
    subst e
    exact .inl ⟨⟨xs, q, Nat.le_refl _⟩, hd σ H p⟩
theorem for_range {lo : Int} {n : Nat} {g : TG} {tb : TS} {D : Ends} {σ : St} {H : Hp} (Pv : Nat → St → Hp → Prop) (h0 : Pv 0 σ H)
    (hs : ∀ i σ H, i < n → Pv i σ H → g (.int (lo + i)) σ H fun σ2 H2 => tb { D with nx := Pv (i + 1), ct := Pv (i + 1), bk := D.nx } σ2 H2) (hd : ∀ σ H, Pv n σ H → D.nx σ H) :
    ∃ W : Nat → Nat → St → Hp → Prop, (∃ m, W 0 m σ H) ∧ ∀ i m σ H, W i m σ H →
      ((Itr lo n).stop i H ∧ D.nx σ H) ∨ ((Itr lo n).go i H ∧ ∃ N : St → Hp → Prop, (∀ σ' H', N σ' H' → ∃ m', m' < m ∧ W (i + 1) m' σ' H') ∧ ∀ x H', (Itr lo n).yld i H x H' → g x σ H' fun σ2 H2 => tb { D with nx := N, ct := N, bk := D.nx } σ2 H2) := by
  refine ⟨fun i m σ H => m = n - i ∧ i ≤ n ∧ Pv i σ H, ⟨n, by simp, Nat.zero_le _, h0⟩, ?_⟩
  rintro i m σ H ⟨rfl, hi, p⟩
  by_cases hlt : i < n
  · refine .inr ⟨hlt, Pv (i + 1), fun σ' H' p' => ⟨n - (i + 1), by omega, rfl, hlt, p'⟩, fun x H' y => ?_⟩
    obtain ⟨e, y⟩ := y
    subst e y
    exact hs i σ _ hlt p
  · have e : i = n := by omega
    subst e
    exact .inl ⟨Nat.le_refl _, hd σ H p⟩
/-- while, by a word and a measure of the state -/
theorem while_by {c : TT} {tb : TS} {D : Ends} {σ : St} {H : Hp} (Pv : St → Hp → Prop) (μ : St → Hp → Nat) (h0 : Pv σ H)
    (hs : ∀ σ H, Pv σ H → c σ H fun b H1 => if b = true then tb { D with nx := fun σ' H' => Pv σ' H' ∧ μ σ' H' < μ σ H, ct := fun σ' H' => Pv σ' H' ∧ μ σ' H' < μ σ H, bk := D.nx } σ H1 else D.nx σ H1)
    (mono : ∀ σ H Q Q', (∀ b H1, Q b H1 → Q' b H1) → c σ H Q → c σ H Q') : tWhile c tb D σ H := by
  refine ⟨fun m σ H => m = μ σ H ∧ Pv σ H, ⟨_, rfl, h0⟩, ?_⟩
  rintro m σ H ⟨rfl, p⟩
  refine mono σ H _ _ (fun b H1 q => ?_) (hs σ H p)
  cases b with
  | true => exact ⟨_, fun σ' H' ⟨p', l⟩ => ⟨_, l, rfl, p'⟩, q⟩
  | false => exact q
end L2

namespace L2
open PySem PySem.Spec PyProof.Rows

abbrev R2 := V → V → Hp → VK → Prop
/-- a two-place operation on values: f is binaryOp op, inplaceOp op or compareOp op -/
def OpR (X : Cx) (f : Value → Value → Sem Value) (r : R2) : Prop :=
  ∀ (pins : List (Addr × Obj)) (s : Shared) (σ : St) (H : Hp) (x y : V) (v u : Value) (Q : VK), Inv X pins σ H s → RelV x v → RelV y u → r x y H Q →
    wpAny (model X.prog X.w) X.A (f v u) (EP X pins σ Q) X.xe s
/-- a one-place operation -/
def UnR (X : Cx) (f : Value → Sem Value) (r : V → Hp → VK → Prop) : Prop :=
  ∀ (pins : List (Addr × Obj)) (s : Shared) (σ : St) (H : Hp) (x : V) (v : Value) (Q : VK), Inv X pins σ H s → RelV x v → r x H Q →
    wpAny (model X.prog X.w) X.A (f v) (EP X pins σ Q) X.xe s
/-- a call of a value that is known (a builtin, a type) with values -/
def CallR (X : Cx) (f : Value) (r : List V → Hp → VK → Prop) : Prop :=
  ∀ (pins : List (Addr × Obj)) (s : Shared) (σ : St) (H : Hp) (xs : List V) (us : List Value) (Q : VK), Inv X pins σ H s → Vals xs us → r xs H Q →
    wpAny (model X.prog X.w) X.A (call f us) (EP X pins σ Q) X.xe s
/-- a value's truth -/
def TruR (X : Cx) (r : V → Hp → (Bool → Hp → Prop) → Prop) : Prop :=
  ∀ (pins : List (Addr × Obj)) (s : Shared) (σ : St) (H : Hp) (x : V) (v : Value) (Q : Bool → Hp → Prop), Inv X pins σ H s → RelV x v → r x H Q →
    wpAny (model X.prog X.w) X.A (truthy v) (TP X pins σ Q) X.xe s

def tOp (r : R2) (ta tb : TE) : TE := fun σ H Q => ta σ H fun x H1 => tb σ H1 fun y H2 => r x y H2 Q
def tUn (r : V → Hp → VK → Prop) (ta : TE) : TE := fun σ H Q => ta σ H fun x H1 => r x H1 Q
/-- ints in, under C, and a value out -/
def rI (C : Int → Int → Prop) (g : Int → Int → V) : R2 := fun x y H Q => ∃ i j, x = .int i ∧ y = .int j ∧ C i j ∧ Q (g i j) H
def rI0 (g : Int → Int → V) : R2 := fun x y H Q => ∃ i j, x = .int i ∧ y = .int j ∧ Q (g i j) H
def rU (g : Int → V) : V → Hp → VK → Prop := fun x H Q => ∃ i, x = .int i ∧ Q (g i) H

section
variable {X : Cx} {a b c : Expr} {ta tb tc : TE} {pos : Pos}

theorem binT (ha : PE X a ta) (hb : PE X b tb) {pins : List (Addr × Obj)} {s : Shared} {σ : St} {H : Hp} {R : V → V → Hp → Prop} (I : Inv X pins σ H s)
    (h : ta σ H fun x H1 => tb σ H1 fun y H2 => R x y H2) {Q : Value → Shared → Prop} {f : Value → Value → Sem Value}
    (hf : ∀ v u s2 x y H2, Inv X pins σ H2 s2 → RelV x v → RelV y u → R x y H2 → wpAny (model X.prog X.w) X.A (f v u) Q X.xe s2) :
    wpAny (model X.prog X.w) X.A (eval a X.env) (fun v s₁ => wpAny (model X.prog X.w) X.A (eval b X.env) (fun u s₂ => wpAny (model X.prog X.w) X.A (f v u) Q X.xe s₂) X.xe s₁) X.xe s := by
  refine thn (ha pins s σ H _ I h) fun v s1 ⟨x, H1, I1, r1, q1⟩ => ?_
  refine thn (hb pins s1 σ H1 _ I1 q1) fun u s2 ⟨y, H2, I2, r2, q2⟩ => ?_
  exact hf v u s2 x y H2 I2 r1 r2 q2

theorem pe_op {op : Operator} {r : R2} (ho : OpR X (binaryOp op) r) (ha : PE X a ta) (hb : PE X b tb) : PE X (.BinOp a op b pos) (tOp r ta tb) := by
  intro pins s σ H Q I h
  exact wpAny_BinOp (binT ha hb I h fun v u s2 x y H2 I2 rx ry q => ho pins s2 σ H2 x y v u Q I2 rx ry q)
theorem pe_un {op : UnaryOp} {r : V → Hp → VK → Prop} (ho : UnR X (unaryOp op) r) (ha : PE X a ta) : PE X (.UnaryOp op a pos) (tUn r ta) := by
  intro pins s σ H Q I h
  exact UnaryOp_ (thn (ha pins s σ H _ I h) fun v s1 ⟨x, H1, I1, r1, q1⟩ => ho pins s1 σ H1 x v Q I1 r1 q1)
/-- a op= e at a name: the name's slot i -/
theorem augR {op : Operator} {r : R2} (ho : OpR X (inplaceOp op) r) {pins : List (Addr × Obj)} {s : Shared} {σ : St} {H : Hp} {x y : V} {v u : Value} {Q : VK} (I : Inv X pins σ H s)
    (rx : RelV x v) (ry : RelV y u) (q : r x y H Q) : wpAny (model X.prog X.w) X.A (inplaceOp op v u) (EP X pins σ Q) X.xe s := ho pins s σ H x y v u Q I rx ry q

/-! ### ints -/
theorem opI {f : Value → Value → Sem Value} {C : Int → Int → Prop} {g : Int → Int → Int}
    (rule : ∀ (i j : Int) (t u : Tok) (s : Shared) (Q : Value → Shared → Prop) (E : Value → Shared → Prop), C i j → Q (.int (g i j) s.toks) { s with toks := s.toks + 1 } → wpAny (model X.prog X.w) X.A (f (.int i t) (.int j u)) Q E s) :
    OpR X f (rI C fun i j => .int (g i j)) := by
  intro pins s σ H x y v u Q I rx ry h
  obtain ⟨i, j, rfl, rfl, hc, q⟩ := h
  obtain ⟨t, rfl⟩ := rx
  obtain ⟨t', rfl⟩ := ry
  exact rule i j t t' s _ _ hc ⟨.int (g i j), H, I.tok _, ⟨_, rfl⟩, q⟩
theorem opI0 {f : Value → Value → Sem Value} {g : Int → Int → Int}
    (rule : ∀ (i j : Int) (t u : Tok) (s : Shared) (Q : Value → Shared → Prop) (E : Value → Shared → Prop), Q (.int (g i j) s.toks) { s with toks := s.toks + 1 } → wpAny (model X.prog X.w) X.A (f (.int i t) (.int j u)) Q E s) :
    OpR X f (rI0 fun i j => .int (g i j)) := by
  intro pins s σ H x y v u Q I rx ry h
  obtain ⟨i, j, rfl, rfl, q⟩ := h
  obtain ⟨t, rfl⟩ := rx
  obtain ⟨t', rfl⟩ := ry
  exact rule i j t t' s _ _ ⟨.int (g i j), H, I.tok _, ⟨_, rfl⟩, q⟩
theorem opB0 {f : Value → Value → Sem Value} {g : Int → Int → Bool}
    (rule : ∀ (i j : Int) (t u : Tok) (s : Shared) (Q : Value → Shared → Prop) (E : Value → Shared → Prop), Q (.bool (g i j)) s → wpAny (model X.prog X.w) X.A (f (.int i t) (.int j u)) Q E s) :
    OpR X f (rI0 fun i j => .bl (g i j)) := by
  intro pins s σ H x y v u Q I rx ry h
  obtain ⟨i, j, rfl, rfl, q⟩ := h
  obtain ⟨t, rfl⟩ := rx
  obtain ⟨t', rfl⟩ := ry
  exact rule i j t t' s _ _ ⟨.bl (g i j), H, I, rfl, q⟩

def CDiv (i j : Int) : Prop := 0 < j ∧ j < 1073741824
def CDivN (i j : Int) : Prop := j ≠ 0 ∧ j.natAbs < 1073741824
def CPow (i j : Int) : Prop := 0 ≤ j ∧ j ≤ 1000000 ∧ i.natAbs < 2 ^ 64
def CMul (i j : Int) : Prop := (-(2 ^ 64) < i ∧ i < 2 ^ 64) ∨ (-(2 ^ 64) < j ∧ j < 2 ^ 64)
theorem CMul.ok {i j : Int} (h : CMul i j) : IntMulOk i j := by
  rcases h with ⟨h1, h2⟩ | ⟨h1, h2⟩
  · exact .of_left (intBits_le_64 h1 h2)
  · exact .of_right (intBits_le_64 h1 h2)
theorem two_pow_nn (k : Nat) : (0 : Int) ≤ 2 ^ k := by
  rw [two_pow_cast]
  exact Int.natCast_nonneg _

theorem op_add : OpR X (binaryOp .Add) (rI0 fun i j => .int (i + j)) := opI0 fun _ _ _ _ _ _ _ q => add_int q
theorem op_sub : OpR X (binaryOp .Sub) (rI0 fun i j => .int (i - j)) := opI0 fun _ _ _ _ _ _ _ q => sub_int q
theorem op_mul : OpR X (binaryOp .Mult) (rI CMul fun i j => .int (i * j)) := opI fun _ _ _ _ _ _ _ hc q => mul_int q hc.ok
/-- // by a positive divisor -/
theorem op_fdiv : OpR X (binaryOp .FloorDiv) (rI CDiv fun i j => .int (i / j)) := opI fun i j _ _ _ _ _ hc q => by
  have h1 : (0 : Int) < j := hc.1
  have h2 : j < 1073741824 := hc.2
  exact floordiv_int (by omega) (by rw [Int.fdiv_eq_ediv_of_nonneg i (by omega)]; exact q) (.inl (PyProof.noPylong_small (by omega)))
theorem op_fdivN : OpR X (binaryOp .FloorDiv) (rI CDivN fun i j => .int (i.fdiv j)) := opI fun _ _ _ _ _ _ _ hc q => floordiv_int hc.1 q (.inl (PyProof.noPylong_small hc.2))
/-- % by a positive divisor of any size -/
theorem op_mod : OpR X (binaryOp .Mod) (rI (fun _ j => 0 < j) fun i j => .int (i % j)) := opI fun i j _ _ _ _ _ hc q => by
  have h1 : (0 : Int) < j := hc
  exact mod_int' (by omega) (by rw [Int.fmod_eq_emod_of_nonneg i (by omega)]; exact q)
theorem op_modN : OpR X (binaryOp .Mod) (rI (fun _ j => j ≠ 0) fun i j => .int (i.fmod j)) := opI fun _ _ _ _ _ _ _ hc q => mod_int' hc q
theorem op_pow : OpR X (binaryOp .Pow) (rI CPow fun i j => .int (i ^ j.toNat)) := opI fun _ _ _ _ _ _ _ hc q => pow_int_small hc.1 hc.2.1 hc.2.2 q
theorem op_shl : OpR X (binaryOp .LShift) (rI CPow fun i j => .int (i * 2 ^ j.toNat)) := opI fun _ _ _ _ _ _ _ hc q => lshift_int_small hc.1 hc.2.1 hc.2.2 q
theorem op_shr : OpR X (binaryOp .RShift) (rI (fun _ j => 0 ≤ j) fun i j => .int (i / 2 ^ j.toNat)) := opI fun i j _ _ _ _ _ hc q =>
  rshift_int hc (by rw [Int.fdiv_eq_ediv_of_nonneg i (two_pow_nn _)]; exact q)
theorem op_and : OpR X (binaryOp .BitAnd) (rI0 fun i j => .int (Builtin.bitAnd i j)) := opI0 fun _ _ _ _ _ _ _ q => and_int q
theorem op_or : OpR X (binaryOp .BitOr) (rI0 fun i j => .int (Builtin.bitOr i j)) := opI0 fun _ _ _ _ _ _ _ q => or_int q
theorem op_xor : OpR X (binaryOp .BitXor) (rI0 fun i j => .int (Builtin.bitXor i j)) := opI0 fun _ _ _ _ _ _ _ q => xor_int q

theorem iop_add : OpR X (inplaceOp .Add) (rI0 fun i j => .int (i + j)) := opI0 fun _ _ _ _ _ _ _ q => iadd_int q
theorem iop_sub : OpR X (inplaceOp .Sub) (rI0 fun i j => .int (i - j)) := opI0 fun _ _ _ _ _ _ _ q => isub_int q
theorem iop_mul : OpR X (inplaceOp .Mult) (rI CMul fun i j => .int (i * j)) := opI fun _ _ _ _ _ _ _ hc q => imul_int q hc.ok
theorem iop_fdiv : OpR X (inplaceOp .FloorDiv) (rI CDiv fun i j => .int (i / j)) := opI fun i j _ _ _ _ _ hc q => by
  have h1 : (0 : Int) < j := hc.1
  have h2 : j < 1073741824 := hc.2
  exact ifloordiv_int (by omega) (by rw [Int.fdiv_eq_ediv_of_nonneg i (by omega)]; exact q) (.inl (PyProof.noPylong_small (by omega)))
theorem iop_mod : OpR X (inplaceOp .Mod) (rI (fun _ j => 0 < j) fun i j => .int (i % j)) := opI fun i j _ _ _ _ _ hc q => by
  have h1 : (0 : Int) < j := hc
  exact imod_int (by omega) (by rw [Int.fmod_eq_emod_of_nonneg i (by omega)]; exact q)
theorem iop_shl : OpR X (inplaceOp .LShift) (rI CPow fun i j => .int (i * 2 ^ j.toNat)) := opI fun _ _ _ _ _ _ _ hc q => ilshift_int_small hc.1 hc.2.1 hc.2.2 q
theorem iop_shr : OpR X (inplaceOp .RShift) (rI (fun _ j => 0 ≤ j) fun i j => .int (i / 2 ^ j.toNat)) := opI fun i j _ _ _ _ _ hc q =>
  irshift_int hc (by rw [Int.fdiv_eq_ediv_of_nonneg i (two_pow_nn _)]; exact q)
theorem iop_and : OpR X (inplaceOp .BitAnd) (rI0 fun i j => .int (Builtin.bitAnd i j)) := opI0 fun _ _ _ _ _ _ _ q => iand_int q
theorem iop_or : OpR X (inplaceOp .BitOr) (rI0 fun i j => .int (Builtin.bitOr i j)) := opI0 fun _ _ _ _ _ _ _ q => ior_int q
theorem iop_xor : OpR X (inplaceOp .BitXor) (rI0 fun i j => .int (Builtin.bitXor i j)) := opI0 fun _ _ _ _ _ _ _ q => ixor_int q

theorem unI {f : Value → Sem Value} {g : Int → Int}
    (rule : ∀ (i : Int) (t : Tok) (s : Shared) (Q : Value → Shared → Prop) (E : Value → Shared → Prop), Q (.int (g i) s.toks) { s with toks := s.toks + 1 } → wpAny (model X.prog X.w) X.A (f (.int i t)) Q E s) :
    UnR X f (rU fun i => .int (g i)) := by
  intro pins s σ H x v Q I rx h
  obtain ⟨i, rfl, q⟩ := h
  obtain ⟨t, rfl⟩ := rx
  exact rule i t s _ _ ⟨.int (g i), H, I.tok _, ⟨_, rfl⟩, q⟩
theorem un_neg : UnR X (unaryOp .USub) (rU fun i => .int (-i)) := unI fun _ _ _ _ _ q => neg_int q
theorem un_inv : UnR X (unaryOp .Invert) (rU fun i => .int (Builtin.bitNot i)) := unI fun _ _ _ _ _ q => invert_int q

/-! ### bools among ints: n += (a < b) -/
theorem op_add_ib : OpR X (binaryOp .Add) (fun x y H Q => ∃ i k, x = .int i ∧ y = .bl k ∧ Q (.int (i + b2i k)) H) := by
  intro pins s σ H x y v u Q I rx ry h
  obtain ⟨i, k, rfl, rfl, q⟩ := h
  obtain ⟨t, rfl⟩ := rx
  cases ry
  exact add_int_bool ⟨.int (i + b2i k), H, I.tok _, ⟨_, rfl⟩, q⟩
end

/-! ### comparisons -/
/-- the scalars that == tells apart as data does -/
def scal : V → V → Bool
  | .non, .non => true | .non, .int _ => true | .int _, .non => true | .non, .bl _ => true | .bl _, .non => true | .non, .str _ => true | .str _, .non => true
  | .int _, .int _ => true | .bl _, .bl _ => true | .str _, .str _ => true | .byt _, .byt _ => true
  | .int _, .str _ => true | .str _, .int _ => true | .bl _, .str _ => true | .str _, .bl _ => true
  | _, _ => false
def rEq : R2 := fun x y H Q => scal x y = true ∧ Q (.bl (decide (x = y))) H
def rNe : R2 := fun x y H Q => scal x y = true ∧ Q (.bl (!decide (x = y))) H

theorem dec_int {i j : Int} : decide (V.int i = V.int j) = (i == j) := by
  rw [Bool.eq_iff_iff]
  simp
theorem dec_bl {i j : Bool} : decide (V.bl i = V.bl j) = (i == j) := by
  rw [Bool.eq_iff_iff]
  simp
theorem dec_str {i j : Str} : decide (V.str i = V.str j) = (i == j) := by
  rw [Bool.eq_iff_iff]
  simp
theorem dec_byt {i j : Array UInt8} : decide (V.byt i = V.byt j) = (i.toList == j.toList) := by
  rw [Bool.eq_iff_iff]
  cases i
  cases j
  simp

section
variable {X : Cx} {a b c : Expr} {ta tb tc : TE} {pos : Pos}
theorem fin_bl {pins : List (Addr × Obj)} {σ : St} {H : Hp} {s : Shared} {Q : VK} {k k' : Bool} (I : Inv X pins σ H s) (q : Q (.bl k) H) (e : k = k') : EP X pins σ Q (.bool k') s := by
  subst e
  exact ⟨.bl k, H, I, rfl, q⟩
theorem op_eq : OpR X (compareOp .Eq) rEq := by
  intro pins s σ H x y v u Q I rx ry h
  obtain ⟨hs, q⟩ := h
  cases x with
  | non =>
    cases rx
    cases y with
    | non => cases ry; exact PySem.EqNone.eq_none_none (fin_bl I q (by simp))
    | bl j => cases ry; exact PySem.EqNone.eq_none_bool (fin_bl I q (by simp))
    | int j => obtain ⟨t', rfl⟩ := ry; exact PySem.EqNone.eq_none_int (fin_bl I q (by simp))
    | str j => obtain ⟨t', rfl⟩ := ry; exact PySem.EqNone.eq_none_str (fin_bl I q (by simp))
    | _ => exact absurd (show false = true from hs) Bool.false_ne_true
  | bl i =>
    cases rx
    cases y with
    | non => cases ry; exact PySem.EqNone.eq_bool_none (fin_bl I q (by simp))
    | bl j => cases ry; exact eq_bool (fin_bl I q dec_bl)
    | str j => obtain ⟨t', rfl⟩ := ry; exact PySem.EqMixed.eq_bool_str (fin_bl I q (by simp))
    | _ => exact absurd (show false = true from hs) Bool.false_ne_true
  | int i =>
    obtain ⟨t, rfl⟩ := rx
    cases y with
    | non => cases ry; exact PySem.EqNone.eq_int_none (fin_bl I q (by simp))
    | int j => obtain ⟨t', rfl⟩ := ry; exact eq_int (fin_bl I q dec_int)
    | str j => obtain ⟨t', rfl⟩ := ry; exact PySem.EqMixed.eq_int_str (fin_bl I q (by simp))
    | _ => exact absurd (show false = true from hs) Bool.false_ne_true
  | str i =>
    obtain ⟨t, rfl⟩ := rx
    cases y with
    | non => cases ry; exact PySem.EqNone.eq_str_none (fin_bl I q (by simp))
    | bl j => cases ry; exact PySem.EqMixed.eq_str_bool (fin_bl I q (by simp))
    | int j => obtain ⟨t', rfl⟩ := ry; exact PySem.EqMixed.eq_str_int (fin_bl I q (by simp))
    | str j => obtain ⟨t', rfl⟩ := ry; exact eq_str (fin_bl I q dec_str)
    | _ => exact absurd (show false = true from hs) Bool.false_ne_true
  | byt i =>
    obtain ⟨t, rfl⟩ := rx
    cases y with
    | byt j => obtain ⟨t', rfl⟩ := ry; exact PySem.W.eq_bytes (fin_bl I q dec_byt)
    | _ => exact absurd (show false = true from hs) Bool.false_ne_true
  | _ => cases y <;> exact absurd (show false = true from hs) Bool.false_ne_true
theorem op_ne : OpR X (compareOp .NotEq) rNe := by
  intro pins s σ H x y v u Q I rx ry h
  obtain ⟨hs, q⟩ := h
  cases x with
  | non =>
    cases rx
    cases y with
    | non => cases ry; exact PySem.EqNone.ne_none_none (fin_bl I q (by simp))
    | bl j => cases ry; exact PySem.EqNone.ne_none_bool (fin_bl I q (by simp))
    | int j => obtain ⟨t', rfl⟩ := ry; exact PySem.EqNone.ne_none_int (fin_bl I q (by simp))
    | str j => obtain ⟨t', rfl⟩ := ry; exact PySem.EqNone.ne_none_str (fin_bl I q (by simp))
    | _ => exact absurd (show false = true from hs) Bool.false_ne_true
  | bl i =>
    cases rx
    cases y with
    | non => cases ry; exact PySem.EqNone.ne_bool_none (fin_bl I q (by simp))
    | bl j => cases ry; exact ne_bool (fin_bl I q (congrArg not dec_bl))
    | str j => obtain ⟨t', rfl⟩ := ry; exact PySem.EqMixed.ne_bool_str (fin_bl I q (by simp))
    | _ => exact absurd (show false = true from hs) Bool.false_ne_true
  | int i =>
    obtain ⟨t, rfl⟩ := rx
    cases y with
    | non => cases ry; exact PySem.EqNone.ne_int_none (fin_bl I q (by simp))
    | int j => obtain ⟨t', rfl⟩ := ry; exact ne_int (fin_bl I q (congrArg not dec_int))
    | str j => obtain ⟨t', rfl⟩ := ry; exact PySem.EqMixed.ne_int_str (fin_bl I q (by simp))
    | _ => exact absurd (show false = true from hs) Bool.false_ne_true
  | str i =>
    obtain ⟨t, rfl⟩ := rx
    cases y with
    | non => cases ry; exact PySem.EqNone.ne_str_none (fin_bl I q (by simp))
    | bl j => cases ry; exact PySem.EqMixed.ne_str_bool (fin_bl I q (by simp))
    | int j => obtain ⟨t', rfl⟩ := ry; exact PySem.EqMixed.ne_str_int (fin_bl I q (by simp))
    | str j => obtain ⟨t', rfl⟩ := ry; exact ne_str (fin_bl I q (congrArg not dec_str))
    | _ => exact absurd (show false = true from hs) Bool.false_ne_true
  | byt i =>
    obtain ⟨t, rfl⟩ := rx
    cases y with
    | byt j => obtain ⟨t', rfl⟩ := ry; exact PySem.W.ne_bytes (fin_bl I q (congrArg not dec_byt))
    | _ => exact absurd (show false = true from hs) Bool.false_ne_true
  | _ => cases y <;> exact absurd (show false = true from hs) Bool.false_ne_true

theorem op_lt : OpR X (compareOp .Lt) (rI0 fun i j => .bl (decide (i < j))) := opB0 fun _ _ _ _ _ _ _ q => lt_int q
theorem op_le : OpR X (compareOp .LtE) (rI0 fun i j => .bl (decide (i ≤ j))) := opB0 fun _ _ _ _ _ _ _ q => le_int q
theorem op_gt : OpR X (compareOp .Gt) (rI0 fun i j => .bl (decide (j < i))) := opB0 fun _ _ _ _ _ _ _ q => gt_int q
theorem op_ge : OpR X (compareOp .GtE) (rI0 fun i j => .bl (decide (j ≤ i))) := opB0 fun _ _ _ _ _ _ _ q => ge_int q
theorem op_lt_str : OpR X (compareOp .Lt) (fun x y H Q => ∃ i j, x = .str i ∧ y = .str j ∧ Q (.bl (decide (i.cps.toList < j.cps.toList))) H) := by
  intro pins s σ H x y v u Q I rx ry h
  obtain ⟨i, j, rfl, rfl, q⟩ := h
  obtain ⟨t, rfl⟩ := rx
  obtain ⟨t', rfl⟩ := ry
  exact lt_str (fin_bl I q rfl)
/-- the one string within the other -/
theorem op_in_str : OpR X (compareOp .In) (fun x y H Q => ∃ i j, x = .str i ∧ y = .str j ∧ Q (.bl (!(Builtin.Str.occurrences j i 0 j.length 1).isEmpty)) H) := by
  intro pins s σ H x y v u Q I rx ry h
  obtain ⟨i, j, rfl, rfl, q⟩ := h
  obtain ⟨t, rfl⟩ := rx
  obtain ⟨t', rfl⟩ := ry
  exact in_str (fin_bl I q rfl)

/-- is None, is not None: the right side a value none -/
theorem op_isN : OpR X (compareOp .Is) (fun x y H Q => y = .non ∧ Q (.bl (decide (x = .non))) H) := by
  intro pins s σ H x y v u Q I rx ry h
  obtain ⟨rfl, q⟩ := h
  cases ry
  refine is_none_gen (fin_bl I q ?_)
  cases x <;> first
    | (cases rx; rfl)
    | (obtain ⟨t, rfl⟩ := rx; rfl)
theorem op_notN : OpR X (compareOp .IsNot) (fun x y H Q => y = .non ∧ Q (.bl (!decide (x = .non))) H) := by
  intro pins s σ H x y v u Q I rx ry h
  obtain ⟨rfl, q⟩ := h
  cases ry
  refine isnot_none_gen (fin_bl I q ?_)
  cases x <;> first
    | (cases rx; rfl)
    | (obtain ⟨t, rfl⟩ := rx; rfl)

theorem op_notin_str : OpR X (compareOp .NotIn) (fun x y H Q => ∃ i j, x = .str i ∧ y = .str j ∧ Q (.bl (!(!(Builtin.Str.occurrences j i 0 j.length 1).isEmpty))) H) := by
  intro pins s σ H x y v u Q I rx ry h
  obtain ⟨i, j, rfl, rfl, q⟩ := h
  obtain ⟨t, rfl⟩ := rx
  obtain ⟨t', rfl⟩ := ry
  exact notIn_str (fin_bl I q rfl)
/-- is, is not of two objects that are tracked lists or instances -/
def isObj : HO → Bool
  | .lst _ => true
  | .ins _ _ _ => true
  | _ => false
theorem obj_there {pins : List (Addr × Obj)} {s : Shared} {σ : St} {H : Hp} {a : Addr} {o : HO} (I : Inv X pins σ H s) (h : H a = some o) (p : isObj o = true) : ∃ ob, s.heap.get? a = some ob ∧ ob.cls ≠ .type "tuple" := by
  cases o with
  | lst xs =>
    obtain ⟨_, its, n, _, e⟩ : xs.length ≤ sizeLine ∧ ∃ (its : List Value) (n : Nat), Vals xs its ∧ s.heap.get? a = some { cls := .type "list", data := .seq its.toArray n } := I.hok a _ h
    exact ⟨_, e, (by show Value.type "list" ≠ .type "tuple"; decide +kernel)⟩
  | ins C dx fs =>
    have x := I.hok a _ h
    obtain ⟨_, _, _, e, _⟩ := x
    exact ⟨_, e, (by show Value.ref C ≠ .type "tuple"; exact fun z => by cases z)⟩
  | _ => exact absurd (show false = true from p) Bool.false_ne_true
theorem op_is_ref : OpR X (compareOp .Is) (fun x y H Q => ∃ a b oa ob, x = .ref a ∧ y = .ref b ∧ H a = some oa ∧ isObj oa = true ∧ H b = some ob ∧ isObj ob = true ∧ Q (.bl (decide (a = b))) H) := by
  intro pins s σ H x y v u Q I rx ry h
  obtain ⟨a, b, oa, ob, rfl, rfl, ha, pa, hb, pb, q⟩ := h
  cases rx
  cases ry
  obtain ⟨o1, e1, n1⟩ := obj_there I ha pa
  obtain ⟨o2, e2, _⟩ := obj_there I hb pb
  by_cases z : a = b
  · subst z
    exact wpAny_is_ref_self (fin_bl I q (by simp))
  · exact wpAny_is_ref_other z e1 e2 n1 (fin_bl I q (by simp [z]))
theorem op_isnot_ref : OpR X (compareOp .IsNot) (fun x y H Q => ∃ a b oa ob, x = .ref a ∧ y = .ref b ∧ H a = some oa ∧ isObj oa = true ∧ H b = some ob ∧ isObj ob = true ∧ Q (.bl (!decide (a = b))) H) := by
  intro pins s σ H x y v u Q I rx ry h
  obtain ⟨a, b, oa, ob, rfl, rfl, ha, pa, hb, pb, q⟩ := h
  cases rx
  cases ry
  obtain ⟨o1, e1, n1⟩ := obj_there I ha pa
  obtain ⟨o2, e2, _⟩ := obj_there I hb pb
  by_cases z : a = b
  · subst z
    exact wpAny_isNot_ref_self (fin_bl I q (by simp))
  · exact wpAny_isNot_ref_other z e1 e2 n1 (fin_bl I q (by simp [z]))

/-- two rules for one operation: by cases -/
theorem OpR.or {f : Value → Value → Sem Value} {r r' : R2} (h : OpR X f r) (h' : OpR X f r') : OpR X f (fun x y H Q => r x y H Q ∨ r' x y H Q) := by
  intro pins s σ H x y v u Q I rx ry q
  rcases q with q | q
  · exact h pins s σ H x y v u Q I rx ry q
  · exact h' pins s σ H x y v u Q I rx ry q

theorem nomark (b : Expr) {op : CmpOp} (h : op ≠ .In := by decide) (h2 : op ≠ .NotIn := by decide) : behindInMarks op b = false := by
  have e1 : (op == CmpOp.In) = false := by cases op <;> first | rfl | exact absurd rfl h
  have e2 : (op == CmpOp.NotIn) = false := by cases op <;> first | rfl | exact absurd rfl h2
  cases b <;> simp [behindInMarks, e1, e2]
/-- a comparison as a value; hm: nomark b, or (for in, not in) by with_unfolding_all rfl -/
theorem pe_cmpR {op : CmpOp} {r : R2} (ho : OpR X (compareOp op) r) (ha : PE X a ta) (hb : PE X b tb) (hm : behindInMarks op b = false) : PE X (.Compare a [op] [b] pos) (tOp r ta tb) := by
  intro pins s σ H Q I h
  exact wpAny_Compare1 (binT ha hb I h fun v u s2 x y H2 I2 rx ry q => ho pins s2 σ H2 x y v u Q I2 rx ry q) hm
/-- a reading of a value as a test -/
def tTest (t : TE) : TT := fun σ H Q => t σ H fun x H' => ∃ k, x = .bl k ∧ Q k H'
theorem pt_cmpR {op : CmpOp} {r : R2} (ho : OpR X (compareOp op) r) (ha : PE X a ta) (hb : PE X b tb) (hm : behindInMarks op b = false) : PT X (.Compare a [op] [b] pos) (tTest (tOp r ta tb)) := by
  intro pins s σ H Q I h
  refine wpAny_isTrue_Compare1 (thn (ha pins s σ H _ I h) fun v s1 ⟨x, H1, I1, r1, q1⟩ => thn (hb pins s1 σ H1 _ I1 q1) fun u s2 ⟨y, H2, I2, r2, q2⟩ =>
    thn (ho pins s2 σ H2 x y v u _ I2 r1 r2 q2) fun c s3 ⟨z, H3, I3, r3, k, e, q3⟩ => ?_) hm
  subst e
  cases r3
  exact wpAny_truthy_bool ⟨H3, I3, q3⟩
/-- a op1 b op2 c -/
def tChain (r r' : R2) (ta tb tc : TE) : TE := fun σ H Q => ta σ H fun x H1 => tb σ H1 fun y H2 => r x y H2 fun z H3 => ∃ k, z = .bl k ∧
  (if k = true then tc σ H3 fun w' H4 => r' y w' H4 Q else Q (.bl false) H3)
theorem pe_chain {op op' : CmpOp} {r r' : R2} (ho : OpR X (compareOp op) r) (ho' : OpR X (compareOp op') r') (ha : PE X a ta) (hb : PE X b tb) (hc : PE X c tc)
    (hm : lastMarks [op, op'] [b, c] = false := by with_unfolding_all rfl) : PE X (.Compare a [op, op'] [b, c] pos) (tChain r r' ta tb tc) := by
  intro pins s σ H Q I h
  refine Compare_chain (thn (ha pins s σ H _ I h) fun v s1 ⟨x, H1, I1, r1, q1⟩ => chain_link (thn (hb pins s1 σ H1 _ I1 q1) fun u s2 ⟨y, H2, I2, r2, q2⟩ =>
    thn (ho pins s2 σ H2 x y v u _ I2 r1 r2 q2) fun d s3 ⟨z, H3, I3, r3, k, e, q3⟩ => ?_)) hm
  subst e
  cases r3
  refine wpAny_truthy_bool ?_
  cases k with
  | false => exact ite_ff ⟨.bl false, H3, I3, rfl, q3⟩
  | true => exact ite_tt (chain_last (thn (hc pins s3 σ H3 _ I3 q3) fun w' s4 ⟨z', H4, I4, r4, q4⟩ => ho' pins s4 σ H4 y z' u w' Q I4 r2 r4 q4))
theorem pt_chain {op op' : CmpOp} {r r' : R2} (ho : OpR X (compareOp op) r) (ho' : OpR X (compareOp op') r') (ha : PE X a ta) (hb : PE X b tb) (hc : PE X c tc)
    (hm : lastMarks [op, op'] [b, c] = false := by with_unfolding_all rfl) : PT X (.Compare a [op, op'] [b, c] pos) (tTest (tChain r r' ta tb tc)) := by
  intro pins s σ H Q I h
  refine isTrue_chain (thn (ha pins s σ H _ I h) fun v s1 ⟨x, H1, I1, r1, q1⟩ => test_link (thn (hb pins s1 σ H1 _ I1 q1) fun u s2 ⟨y, H2, I2, r2, q2⟩ =>
    thn (ho pins s2 σ H2 x y v u _ I2 r1 r2 q2) fun d s3 ⟨z, H3, I3, r3, k, e, q3⟩ => ?_)) hm
  subst e
  cases r3
  refine wpAny_truthy_bool ?_
  cases k with
  | false =>
    obtain ⟨k', e', q'⟩ := q3
    cases e'
    exact ite_ff ⟨H3, I3, q'⟩
  | true =>
    refine ite_tt (test_last (thn (hc pins s3 σ H3 _ I3 q3) fun w' s4 ⟨z', H4, I4, r4, q4⟩ => thn (ho' pins s4 σ H4 y z' u w' _ I4 r2 r4 q4) fun d' s5 ⟨z2, H5, I5, r5, k2, e2, q5⟩ => ?_))
    subst e2
    cases r5
    exact wpAny_truthy_bool ⟨H5, I5, q5⟩

/-! ### truth -/
/-- a value's truth by the abstract heap -/
def TruV (K : PySem.W.Frag) (x : V) (H : Hp) (k : Bool) : Prop :=
  match x with
  | .non => k = false
  | .bl b => k = b
  | .int i => k = (i != 0)
  | .str y => y.length ≤ sizeLine ∧ k = ((y.length : Int) != 0)
  | .byt y => y.size ≤ sizeLine ∧ k = ((y.size : Int) != 0)
  | .ref p => (∃ xs, SqL K H p xs ∧ k = !xs.isEmpty) ∨ (∃ xs, SqT K H p xs ∧ k = !xs.isEmpty) ∨ ∃ kvs, H p = some (.dK kvs) ∧ k = !kvs.isEmpty
  | _ => False
theorem isEmpty_kv {κ : Type} {kvs : List (κ × V)} {vs : List (κ × Value)} (r : KV kvs vs) : (!vs.isEmpty) = !kvs.isEmpty := by
  cases r <;> rfl
theorem isEmpty_of {xs : List V} {its : List Value} (r : Vals xs its) : (!its.toArray.isEmpty) = !xs.isEmpty := by
  cases r <;> simp
theorem line63 : (sizeLine : Nat) < 2 ^ 63 := by rw [sizeLine_eq]; decide
theorem tru_ok : TruR X (fun x H Q => ∃ k, TruV X.K x H k ∧ Q k H) := by
  intro pins s σ H x v Q I rx h
  obtain ⟨k, e, q⟩ := h
  have hl := line63
  have hs : sizeLine = 16777216 := sizeLine_eq
  cases x with
  | non =>
    cases rx
    have e' : k = false := e
    subst e'
    exact truthy_none ⟨H, I, q⟩
  | bl b =>
    cases rx
    have e' : k = b := e
    subst e'
    exact wpAny_truthy_bool ⟨H, I, q⟩
  | int i =>
    obtain ⟨t, rfl⟩ := rx
    have e' : k = (i != 0) := e
    subst e'
    exact PySem.P.truthy_int ⟨H, I, q⟩
  | str y =>
    obtain ⟨t, rfl⟩ := rx
    obtain ⟨hy, e'⟩ : y.length ≤ sizeLine ∧ k = ((y.length : Int) != 0) := e
    subst e'
    exact PySem.P.truthy_str (by omega) ⟨H, I.tok _, q⟩
  | byt y =>
    obtain ⟨t, rfl⟩ := rx
    obtain ⟨hy, e'⟩ : y.size ≤ sizeLine ∧ k = ((y.size : Int) != 0) := e
    subst e'
    exact PySem.W.truthy_bytes (by omega) ⟨H, I.tok _, q⟩
  | ref p =>
    cases rx
    have e' : (∃ xs, SqL X.K H p xs ∧ k = !xs.isEmpty) ∨ (∃ xs, SqT X.K H p xs ∧ k = !xs.isEmpty) ∨ ∃ kvs, H p = some (.dK kvs) ∧ k = !kvs.isEmpty := e
    rcases e' with ⟨xs, hx, e'⟩ | ⟨xs, hx, e'⟩ | ⟨kvs, hx, e'⟩
    · subst e'
      obtain ⟨its, r, pl, hz⟩ := I.list hx
      have hlen := r.length
      exact wpAny_truthy_list pl.isList (by simp only [List.size_toArray]; omega) ⟨H, I.tok _, by rw [isEmpty_of r]; exact q⟩
    · subst e'
      obtain ⟨its, r, pl, hz⟩ := I.tuple hx
      have hlen := r.length
      exact truthy_tuple pl (by simp only [List.size_toArray]; omega) ⟨H, I.tok _, by rw [isEmpty_of r]; exact q⟩
    · subst e'
      obtain ⟨hz, hS, vs, r, m⟩ : kvs.length ≤ sizeLine ∧ (p == sysModules) = false ∧ ∃ vs, KV kvs vs ∧ s.heap.DictOf (mixKind X.prog X.w) p vs := I.hok p _ hx
      have hlen : kvs.length = vs.length := Paired.length r
      exact wpAny_truthy_dict hS m (by omega) ⟨H, I.tok _, by rw [isEmpty_kv r]; exact q⟩
  | _ => exact (show False from e).elim
/-- any expression whose test is its value's truth (a name, a call, a subscript, a field ..: he by fun _ => rfl) -/
theorem pt_truth (ha : PE X a ta) (he : ∀ whole, isTrue a X.env whole = (do let v ← whole; standAt a.pos; holding [v] (truthy v))) :
    PT X a (fun σ H Q => ta σ H fun x H' => ∃ k, TruV X.K x H' k ∧ Q k H') := by
  intro pins s σ H Q I h
  exact isTrue_plain (thn (ha pins s σ H _ I h) fun v s1 ⟨x, H1, I1, r1, q1⟩ => tru_ok pins s1 σ H1 x v Q I1 r1 q1) (he _)

/-! ### strs and bytes -/
theorem pe_byt {x : List UInt8} {k : Nat} : PE X (.Constant (.bytes x) k pos) (fun _ H Q => Q (.byt x.toArray) H) := fun _ _ _ H _ I h => PySem.W.Constant_bytes ⟨.byt x.toArray, H, I.tok _, ⟨_, rfl⟩, h⟩
theorem op_add_str : OpR X (binaryOp .Add) (fun x y H Q => ∃ i j, x = .str i ∧ y = .str j ∧ i.length + j.length ≤ sizeLine ∧ Q (.str (i ++ j)) H) := by
  intro pins s σ H x y v u Q I rx ry h
  obtain ⟨i, j, rfl, rfl, hz, q⟩ := h
  obtain ⟨t, rfl⟩ := rx
  obtain ⟨t', rfl⟩ := ry
  exact add_str (fun t' tk => ⟨.str (i ++ j), H, I.tok _, ⟨_, rfl⟩, q⟩) hz
theorem iop_add_str : OpR X (inplaceOp .Add) (fun x y H Q => ∃ i j, x = .str i ∧ y = .str j ∧ i.length + j.length ≤ sizeLine ∧ Q (.str (i ++ j)) H) := by
  intro pins s σ H x y v u Q I rx ry h
  obtain ⟨i, j, rfl, rfl, hz, q⟩ := h
  obtain ⟨t, rfl⟩ := rx
  obtain ⟨t', rfl⟩ := ry
  exact iadd_str (fun t' tk => ⟨.str (i ++ j), H, I.tok _, ⟨_, rfl⟩, q⟩) hz
theorem op_add_byt : OpR X (binaryOp .Add) (fun x y H Q => ∃ i j, x = .byt i ∧ y = .byt j ∧ i.size + j.size ≤ 16777216 ∧ Q (.byt (i ++ j)) H) := by
  intro pins s σ H x y v u Q I rx ry h
  obtain ⟨i, j, rfl, rfl, hz, q⟩ := h
  obtain ⟨t, rfl⟩ := rx
  obtain ⟨t', rfl⟩ := ry
  exact PySem.W.KBy.add_bytes hz (fun t' tk => ⟨.byt (i ++ j), H, I.tok _, ⟨_, rfl⟩, q⟩)

def PlainIxT (b : Expr) : Prop := ∀ o i, subscripted b false o i = operate [o, i] (getItem o i)
/-- s[i], 0 ≤ i < len -/
theorem pe_item_str (ha : PE X a ta) (hb : PE X b tb) (hs : PlainIxT b) :
    PE X (.Subscript a b pos) (tOp (fun x y H Q => ∃ z i c, x = .str z ∧ y = .int i ∧ 0 ≤ i ∧ i < 2 ^ 63 ∧ i < z.length ∧ z.cps[i.toNat]? = some c ∧ Q (.str ⟨#[c]⟩) H) ta tb) := by
  intro pins s σ H Q I h
  refine Subscript_ (binT ha hb I h fun v u s2 x y H2 I2 rx ry q => ?_)
  obtain ⟨z, i, c, rfl, rfl, h0, h63, h1, hc, q⟩ := q
  obtain ⟨t, rfl⟩ := rx
  obtain ⟨t', rfl⟩ := ry
  have e : seqIndex? i z.length = some i.toNat := PySem.StrLaws.seqIndex_nonneg h0 h1
  exact tail_any (typeIs_str s2 z t) slot_str_getitem.lookup (getItem_str (c := c) (by
    have e1 : decide (i < -(2 ^ 63 : Int)) = false := decide_eq_false (by omega)
    have e2 : decide (i ≥ 2 ^ 63) = false := decide_eq_false (by omega)
    rw [e1, e2] <;> rfl) (by rw [e]; exact hc) ⟨.str ⟨#[c]⟩, H2, I2.tok _, ⟨_, rfl⟩, q⟩) (hs _ _)
/-- b[i], 0 ≤ i < len -/
theorem pe_item_byt (ha : PE X a ta) (hb : PE X b tb) (hs : PlainIxT b) :
    PE X (.Subscript a b pos) (tOp (fun x y H Q => ∃ (z : List UInt8) (i : Int), x = .byt z.toArray ∧ y = .int i ∧ z.length ≤ sizeLine ∧ 0 ≤ i ∧ i < z.length ∧ Q (.int ((z.getD i.toNat 0).toNat : Nat)) H) ta tb) := by
  intro pins s σ H Q I h
  refine Subscript_ (binT ha hb I h fun v u s2 x y H2 I2 rx ry q => ?_)
  obtain ⟨z, i, rfl, rfl, hz, h0, h1, q⟩ := q
  obtain ⟨t, rfl⟩ := rx
  obtain ⟨t', rfl⟩ := ry
  have hl : sizeLine = 16777216 := sizeLine_eq
  exact tail_any (PySem.W.typeIs_bytes s2 z.toArray t) PySem.W.FB.slot_bytes_getitem.lookup (PySem.W.getItem_bytes (by omega) h0 h1 ⟨.int ((z.getD i.toNat 0).toNat : Nat), H2, I2.tok _, ⟨_, rfl⟩, q⟩) (hs _ _)

/-! ### scalar builtins, by CallR -/
theorem vals1 {x : V} {us : List Value} (r : Vals [x] us) : ∃ u, us = [u] ∧ RelV x u := by
  cases r with
  | cons r1 r2 => cases r2; exact ⟨_, rfl, r1⟩
theorem vals2 {x y : V} {us : List Value} (r : Vals [x, y] us) : ∃ u w', us = [u, w'] ∧ RelV x u ∧ RelV y w' := by
  cases r with
  | cons r1 r2 =>
    cases r2 with
    | cons r3 r4 => cases r4; exact ⟨_, _, rfl, r1, r3⟩
theorem call_abs : CallR X (.builtin "abs") (fun xs H Q => ∃ i, xs = [.int i] ∧ Q (.int (if i < 0 then -i else i)) H) := by
  intro pins s σ H xs us Q I r h
  obtain ⟨i, rfl, q⟩ := h
  obtain ⟨u, rfl, t, rfl⟩ := vals1 r
  exact call_abs_int fun u tk => ⟨.int (if i < 0 then -i else i), H, I.tok _, ⟨_, rfl⟩, q⟩
theorem call_max2 (hc : X.calm = true) : CallR X (.builtin "max") (fun xs H Q => ∃ i j, xs = [.int i, .int j] ∧ Q (.int (if j > i then j else i)) H) := by
  intro pins s σ H xs us Q I r h
  obtain ⟨i, j, rfl, q⟩ := h
  obtain ⟨u, w', rfl, ⟨t, rfl⟩, ⟨t', rfl⟩⟩ := vals2 r
  refine max_two_ints (I.ok.hd hc) fun h' tk k => ⟨_, H, I.kept k, ?_, q⟩
  by_cases hj : j > i
  · rw [if_pos hj, if_pos hj]; exact ⟨_, rfl⟩
  · rw [if_neg hj, if_neg hj]; exact ⟨_, rfl⟩
theorem call_min2 (hc : X.calm = true) : CallR X (.builtin "min") (fun xs H Q => ∃ i j, xs = [.int i, .int j] ∧ Q (.int (if j < i then j else i)) H) := by
  intro pins s σ H xs us Q I r h
  obtain ⟨i, j, rfl, q⟩ := h
  obtain ⟨u, w', rfl, ⟨t, rfl⟩, ⟨t', rfl⟩⟩ := vals2 r
  refine min_two_ints (I.ok.hd hc) fun h' tk k => ⟨_, H, I.kept k, ?_, q⟩
  by_cases hj : j < i
  · rw [if_pos hj, if_pos hj]; exact ⟨_, rfl⟩
  · rw [if_neg hj, if_neg hj]; exact ⟨_, rfl⟩
theorem call_int1 : CallR X (.type "int") (fun xs H Q => (∃ i, xs = [.int i] ∧ Q (.int i) H) ∨ ∃ k, xs = [.bl k] ∧ Q (.int (if k then 1 else 0)) H) := by
  intro pins s σ H xs us Q I r h
  rcases h with ⟨i, rfl, q⟩ | ⟨k, rfl, q⟩
  · obtain ⟨u, rfl, t, rfl⟩ := vals1 r
    exact call_int_int ⟨.int i, H, I, ⟨_, rfl⟩, q⟩
  · obtain ⟨u, rfl, r1⟩ := vals1 r
    cases r1
    exact call_int_bool ⟨.int (if k then 1 else 0), H, I.tok _, ⟨_, rfl⟩, q⟩
theorem call_bool1 : CallR X (.type "bool") (fun xs H Q => (∃ i, xs = [.int i] ∧ Q (.bl (i != 0)) H) ∨ ∃ k, xs = [.bl k] ∧ Q (.bl k) H) := by
  intro pins s σ H xs us Q I r h
  rcases h with ⟨i, rfl, q⟩ | ⟨k, rfl, q⟩
  · obtain ⟨u, rfl, t, rfl⟩ := vals1 r
    exact call_bool_int ⟨.bl (i != 0), H, I, rfl, q⟩
  · obtain ⟨u, rfl, r1⟩ := vals1 r
    cases r1
    exact call_bool_bool ⟨.bl k, H, I, rfl, q⟩
theorem call_str_int : CallR X (.type "str") (fun xs H Q => ∃ i, xs = [.int i] ∧ i.natAbs.log2 < 1920 ∧ Q (.str (toString i)) H) := by
  intro pins s σ H xs us Q I r h
  obtain ⟨i, rfl, hz, q⟩ := h
  obtain ⟨u, rfl, t, rfl⟩ := vals1 r
  exact PySem.P.str_of_int hz ⟨.str _, H, I.tok _, ⟨_, rfl⟩, q⟩
theorem call_ord : CallR X (.builtin "ord") (fun xs H Q => ∃ x, xs = [.str x] ∧ x.length = 1 ∧ Q (.int (x.cps.getD 0 0 : Nat)) H) := by
  intro pins s σ H xs us Q I r h
  obtain ⟨x, rfl, hz, q⟩ := h
  obtain ⟨u, rfl, t, rfl⟩ := vals1 r
  exact ord_of_one hz ⟨.int _, H, I.tok _, ⟨_, rfl⟩, q⟩
theorem call_chr : CallR X (.builtin "chr") (fun xs H Q => ∃ i, xs = [.int i] ∧ 0 ≤ i ∧ i ≤ 1114111 ∧ Q (.str ⟨#[i.toNat]⟩) H) := by
  intro pins s σ H xs us Q I r h
  obtain ⟨i, rfl, h0, h1, q⟩ := h
  obtain ⟨u, rfl, t, rfl⟩ := vals1 r
  exact chr_of_range h0 h1 ⟨.str _, H, I.tok _, ⟨_, rfl⟩, q⟩
/-- len of a str, a bytes, a list, a tuple -/
def LenV (K : PySem.W.Frag) (x : V) (H : Hp) (n : Nat) : Prop :=
  match x with
  | .str y => y.length ≤ sizeLine ∧ n = y.length
  | .byt y => y.size ≤ sizeLine ∧ n = y.size
  | .ref p => (∃ xs, SqL K H p xs ∧ n = xs.length) ∨ ∃ xs, SqT K H p xs ∧ n = xs.length
  | _ => False
theorem call_len : CallR X (.builtin "len") (fun xs H Q => ∃ x n, xs = [x] ∧ LenV X.K x H n ∧ Q (.int n) H) := by
  intro pins s σ H xs us Q I r h
  obtain ⟨x, n, rfl, e, q⟩ := h
  obtain ⟨u, rfl, rx⟩ := vals1 r
  have hl := line63
  have hs : sizeLine = 16777216 := sizeLine_eq
  cases x with
  | str y =>
    obtain ⟨t, rfl⟩ := rx
    obtain ⟨hy, e'⟩ : y.length ≤ sizeLine ∧ n = y.length := e
    subst e'
    exact len_str (by omega) ⟨.int _, H, I.tok _, ⟨_, rfl⟩, q⟩
  | byt y =>
    obtain ⟨t, rfl⟩ := rx
    obtain ⟨hy, e'⟩ : y.size ≤ sizeLine ∧ n = y.size := e
    subst e'
    exact PySem.W.len_bytes (by omega) ⟨.int _, H, I.tok _, ⟨_, rfl⟩, q⟩
  | ref p =>
    cases rx
    have e' : (∃ xs, SqL X.K H p xs ∧ n = xs.length) ∨ ∃ xs, SqT X.K H p xs ∧ n = xs.length := e
    rcases e' with ⟨xs, hx, e'⟩ | ⟨xs, hx, e'⟩
    · subst e'
      obtain ⟨its, r', pl, hz⟩ := I.list hx
      have hlen := r'.length
      exact Calls.call_len_list pl.isList (by simp only [List.size_toArray]; omega) ⟨.int xs.length, H, I.tok _, ⟨_, by simp only [List.size_toArray]; rw [hlen]⟩, q⟩
    · subst e'
      obtain ⟨its, r', pl, hz⟩ := I.tuple hx
      have hlen := r'.length
      exact len_tuple pl (by simp only [List.size_toArray]; omega) ⟨.int xs.length, H, I.tok _, ⟨_, by simp only [List.size_toArray]; rw [hlen]⟩, q⟩
  | _ => exact (show False from e).elim
/-- divmod: a new tuple -/
theorem call_divmod : CallR X (.builtin "divmod") (fun xs H Q => ∃ i j, xs = [.int i, .int j] ∧ CDiv i j ∧ ∀ p, H p = none → Q (.ref p) (upd H p (.tup [.int (i / j), .int (i % j)]))) := by
  intro pins s σ H xs us Q I r h
  obtain ⟨i, j, rfl, ⟨h1, h2⟩, q⟩ := h
  obtain ⟨u, w', rfl, ⟨t, rfl⟩, ⟨t', rfl⟩⟩ := vals2 r
  refine divmod_int (by omega) ?_ (.inl (PyProof.noPylong_small (by omega)))
  rw [Int.fdiv_eq_ediv_of_nonneg i (by omega), Int.fmod_eq_emod_of_nonneg i (by omega)]
  have hn : H s.heap.objs.size = none := I.hok.fresh (Nat.le_refl _)
  refine ⟨.ref s.heap.objs.size, _, ?_, rfl, q _ hn⟩
  refine I.laid (fun b o e => Heap.get?_push_of_some _ e) (Nat.le_refl _) ⟨by simp only [List.length_cons, List.length_nil]; rw [sizeLine_eq]; decide, [.int (i / j) s.toks, .int (i % j) (s.toks + 1)], .cons ⟨_, rfl⟩ (.cons ⟨_, rfl⟩ .nil), ?_⟩
  exact ⟨_, Heap.get?_push_size s.heap rfl, rfl, 0, rfl⟩
end
end L2

namespace L2
open PySem PySem.Spec PyProof.Rows

/-! ### an instance, its attributes a map -/
structure ObjM (h : Heap) (x dx C : Addr) (mA : Str → Option Value) : Prop where
  obj : h.get? x = some (PySem.W.instObj C dx)
  ns : h.Ns1 dx mA
  ne : dx ≠ x

theorem lookIn_ns {h : Heap} {dx : Addr} {mA : Str → Option Value} (n : h.Ns1 dx mA) : ∃ od, h.get? dx = some od ∧ ∀ name, PySem.W.lookIn name od = some (mA name) := by
  obtain ⟨o, es, ep, ho, hd, hk, _, hm⟩ := n
  refine ⟨o, ho, fun name => ?_⟩
  have e := hm name
  unfold nsFind findBy at e
  rw [← Array.find?_toList] at e
  unfold PySem.W.lookIn
  rw [hd]
  dsimp only
  split
  · rename_i y q
    rw [q] at e
    exact congrArg some e
  · rename_i q
    rw [q] at e
    have a : es.toList.any (·.refKey) = false := by
      rw [List.any_eq_false]
      intro y hy
      obtain ⟨z, t, hkey⟩ := hk y (Array.mem_toList_iff.mp hy)
      simp [DictEntry.refKey, hkey]
    have a' : ¬ es.toList.any (·.refKey) = true := by rw [a]; exact Bool.false_ne_true
    rw [if_neg a']
    exact congrArg some e

theorem ObjM.look {h : Heap} {x dx C : Addr} {mA : Str → Option Value} (I : ObjM h x dx C mA) : ∃ od, PySem.W.InstAt h x (PySem.W.instObj C dx) C (some od) ∧ ∀ name, PySem.W.lookIn name od = some (mA name) :=
  let ⟨od, ho, hl⟩ := lookIn_ns I.ns
  ⟨od, ⟨I.obj, rfl, rfl, ho⟩, hl⟩

section
variable {prog : Program} {w : World} {A : Around} {E : Value → Shared → Prop} {s : Shared} {K : PySem.W.Frag} {x dx C f : Addr} {mA : Str → Option Value} {name : Str} {v : Value}

theorem get_map {expr : Bool} {Q : Value → Shared → Prop} (X : K.In s.heap) (I : ObjM s.heap x dx C mA) (hg : PySem.W.plainGet K C name = true) (hh : PySem.W.hasDictIn K C = true)
    (ha : PySem.W.findIn K (.ref C) name = some none) (hv : mA name = some v) (hv' : PySem.W.handedIn v = true) (h : Q v { s with toks := s.toks + 1 }) :
    wpAny (model prog w) A (getAttr (.ref x) name expr) Q E s := by
  obtain ⟨od, J, hl⟩ := I.look
  exact PySem.W.get_value X J (PySem.W.plainGet_of hg).1 (PySem.W.findObj_own hh ha rfl (by rw [hl, hv])) hv' h

theorem get_const {expr : Bool} {a : Value} {Q : Value → Shared → Prop} (X : K.In s.heap) (I : ObjM s.heap x dx C mA) (hg : PySem.W.plainGet K C name = true) (hh : PySem.W.hasDictIn K C = true)
    (ha : PySem.W.findIn K (.ref C) name = some (some a)) (hn : PySem.W.specialIn K a "__get__" = some none) (hc : PySem.W.copiedNames.contains name = false) (hv : mA name = none) (hv' : PySem.W.handedIn a = true)
    (h : Q a { s with toks := s.toks + 1 }) : wpAny (model prog w) A (getAttr (.ref x) name expr) Q E s := by
  obtain ⟨od, J, hl⟩ := I.look
  exact PySem.W.get_value X J (PySem.W.plainGet_of hg).1 (PySem.W.findObj_cls hh ha hn hv' hc (by rw [hl, hv])) hv' h

theorem get_meth {pl : Sem Bool} {Q : Value × List Value → Shared → Prop} (X : K.In s.heap) (I : ObjM s.heap x dx C mA) (hg : PySem.W.plainGet K C name = true)
    (hf : PySem.W.findIn K (.ref C) name = some (some (.ref f))) (ht : PySem.W.isFn K (.ref f) = true) (hv : mA name = none) (h : Q (.ref f, [.ref x]) s) :
    wpAny (model prog w) A (getMethod (.ref x) name pl) Q E s := by
  obtain ⟨od, J, hl⟩ := I.look
  exact PySem.W.method_fn X J (PySem.W.plainGet_of hg).1 (PySem.W.plainGet_of hg).2 hf (beq_iff_eq.mp ht) (by show (PySem.W.lookIn name od).map (·.isSome) = some false; rw [hl, hv]; rfl) h

theorem set_map {ns : List Str} {Q : Unit → Shared → Prop} (X : K.In s.heap) (I : ObjM s.heap x dx C mA)
    (hs : PySem.W.findIn K (.ref C) "__setattr__" = some (some (.builtin "object.__setattr__"))) (hp : PySem.W.plainOver K C = true) (ht : PySem.W.takerIn K C name = some none) (hh : PySem.W.hasDictIn K C = true)
    (hw : PySem.Within mA ns) (hsz : ns.length ≤ sizeLine)
    (h : ∀ h', ObjM h' x dx C (fun y => if y = name then some v else mA y) → Heap.SameBut dx s.heap h' → Q () { s with heap := h', toks := s.toks + 2 }) :
    wpAny (model prog w) A (setAttr (.ref x) name v) Q E s := by
  obtain ⟨od, J, hl⟩ := I.look
  refine PySem.W.set_plain X J hs (PySem.W.osa_open (s := { s with toks := s.toks + 1 }) (r := none) X J hp ht fun b => ?_)
  obtain ⟨cd, hc, hd'⟩ := PySem.W.any_some hh
  have hx : s.heap.get? x = some ⟨.ref C, some dx, .plain, #[]⟩ := I.obj
  refine wpAny_bind (wpAny_pure (wpAny_bind (wpAny_bind (wpAny_loadPart hx (wpAny_bind (PySem.W.Looks.here (s := { s with toks := s.toks + 1 }) (PySem.W.looks_clsIn X hc) ?_))))))
  rw [hd']
  refine wpAny_pure (a := some dx) (wpAny_bind (wpAny_pure (wpAny_bind ?_)))
  refine wpAny_nsSet1 (s := { s with toks := s.toks + 1 }) I.ns fun h' hn2 hs2 => ?_
  obtain ⟨oD, esD, epD, hoD, hdD, hcD⟩ := hn2.count (PySem.Within.cons name v hw)
  refine wpAny_bind (wpAny_lookBehind hoD (by rw [hdD]; exact pastItsLine_dict (Nat.le_trans hcD (by rw [List.length_cons]; omega))) ?_)
  exact wpAny_pure (h _ ⟨(hs2.2 _ (Ne.symm I.ne)).trans I.obj, hn2, I.ne⟩ hs2)

/-- C(..): the dict at the heap's end, the instance behind it; then its __init__ -/
theorem make_map {R : Result → Shared → Prop} {vs : List Value} {kw : List (Str × Value)} (X : K.In s.heap) (hm : PySem.W.makesIn K C = true)
    (hi : PySem.W.findIn K (.ref C) "__init__" = some (some (.ref f))) (hf : PySem.W.typeIn K (.ref f) = some (.type "function"))
    (h : codeAny (model prog w) (A.under (.builtin "type.__call__" ⟨.ref C :: vs, kw⟩)) (.call (.ref f) ⟨.ref (s.heap.objs.size + 1) :: vs, kw⟩) (PySem.W.InitBack (s.heap.objs.size + 1) R)
      { s with heap := (s.heap.push PySem.W.emptyDict).push (PySem.W.instObj C s.heap.objs.size) }) :
    codeAny (model prog w) A (.call (.ref C) ⟨vs, kw⟩) R s := by
  obtain ⟨hh, g, d, t, os⟩ := s
  exact PySem.W.make_core (PySem.W.makes_of X hm) (PySem.W.looks_findIn X hi) (fun self => PySem.W.bind_fn X self hf) (.inl rfl) h
/-- C() where there is no __init__ but object's -/
theorem make_map0 {R : Result → Shared → Prop} (X : K.In s.heap) (hm : PySem.W.makesIn K C = true)
    (hi : PySem.W.findIn K (.ref C) "__init__" = some (some (.builtin "object.__init__")))
    (hb : ∀ self, PySem.W.Looks (model prog w) s.heap (bindSpecial (.builtin "object.__init__") self) (.builtin "object.__init__", [self]))
    (h : codeAny (model prog w) (A.under (.builtin "type.__call__" ⟨[.ref C], []⟩)) (.call (.builtin "object.__init__") ⟨[.ref (s.heap.objs.size + 1)], []⟩) (PySem.W.InitBack (s.heap.objs.size + 1) R)
      { s with heap := (s.heap.push PySem.W.emptyDict).push (PySem.W.instObj C s.heap.objs.size) }) :
    codeAny (model prog w) A (.call (.ref C) ⟨[], []⟩) R s := by
  obtain ⟨hh, g, d, t, os⟩ := s
  exact PySem.W.make_core (PySem.W.makes_of X hm) (PySem.W.looks_findIn X hi) hb (.inr ⟨rfl, rfl⟩) h
end

/-! ### the attributes as a list of pairs -/
def putF (f : Str) (v : V) : List (Str × V) → List (Str × V)
  | [] => [(f, v)]
  | (g, x) :: r => if g = f then (g, v) :: r else (g, x) :: putF f v r
theorem lookup_putF (f g : Str) (v : V) : ∀ fs : List (Str × V), (putF f v fs).lookup g = if g = f then some v else fs.lookup g
  | [] => by
    show List.lookup g [(f, v)] = _
    by_cases h : g = f
    · have hb : (g == f) = true := beq_iff_eq.mpr h
      simp only [List.lookup, hb, if_pos h]
    · have hb : (g == f) = false := beq_eq_false_iff_ne.mpr h
      simp only [List.lookup, hb, if_neg h]
  | (k, x) :: r => by
    have ih := lookup_putF f g v r
    rw [show putF f v ((k, x) :: r) = (if k = f then (k, v) :: r else (k, x) :: putF f v r) from rfl]
    by_cases hk : k = f
    · rw [if_pos hk]
      by_cases h : g = k
      · have hb : (g == k) = true := beq_iff_eq.mpr h
        simp only [List.lookup, hb, if_pos (h.trans hk)]
      · have hb : (g == k) = false := beq_eq_false_iff_ne.mpr h
        simp only [List.lookup, hb, if_neg (fun e : g = f => h (e.trans hk.symm))]
    · rw [if_neg hk]
      by_cases h : g = k
      · have hb : (g == k) = true := beq_iff_eq.mpr h
        simp only [List.lookup, hb, if_neg (fun e : g = f => hk (h.symm.trans e))]
      · have hb : (g == k) = false := beq_eq_false_iff_ne.mpr h
        simp only [List.lookup, hb]
        exact ih
theorem keys_putF (f : Str) (v : V) : ∀ fs : List (Str × V), f ∈ (putF f v fs).map (·.1) ∧ ∀ g, g ∈ fs.map (·.1) → g ∈ (putF f v fs).map (·.1)
  | [] => ⟨by simp [putF], fun g h => by simp at h⟩
  | (k, x) :: r => by
    obtain ⟨i1, i2⟩ := keys_putF f v r
    rw [show putF f v ((k, x) :: r) = (if k = f then (k, v) :: r else (k, x) :: putF f v r) from rfl]
    by_cases hk : k = f
    · rw [if_pos hk]
      subst hk
      exact ⟨by simp, fun g h => by simpa using h⟩
    · rw [if_neg hk]
      refine ⟨?_, fun g h => ?_⟩
      · rw [List.map_cons]
        exact List.mem_cons_of_mem _ i1
      · rw [List.map_cons] at h ⊢
        rcases List.mem_cons.mp h with e | e
        · exact List.mem_cons.mpr (.inl e)
        · exact List.mem_cons_of_mem _ (i2 g e)
theorem length_putF (f : Str) (v : V) : ∀ fs : List (Str × V), (putF f v fs).length ≤ fs.length + 1
  | [] => by simp [putF]
  | (k, x) :: r => by
    have ih := length_putF f v r
    rw [show putF f v ((k, x) :: r) = (if k = f then (k, v) :: r else (k, x) :: putF f v r) from rfl]
    by_cases hk : k = f
    · rw [if_pos hk, List.length_cons, List.length_cons]; omega
    · rw [if_neg hk, List.length_cons, List.length_cons]; omega

theorem RelO.some_of {v : V} {o : Option Value} (r : RelO (some v) o) : ∃ u, o = some u ∧ RelV v u := by
  cases o with
  | none => exact (show False from r).elim
  | some u => exact ⟨u, rfl, r⟩
theorem RelO.none_of {o : Option Value} (r : RelO none o) : o = none := by
  cases o with
  | none => rfl
  | some u => exact (show False from r).elim
theorem handed_of {v : V} {u : Value} (r : RelV v u) : PySem.W.handedIn u = true := by
  cases v with
  | non => cases (show u = Value.none from r); rfl
  | bl b => cases (show u = Value.bool b from r); rfl
  | int i => obtain ⟨t, e⟩ := (show ∃ t, u = Value.int i t from r); cases e; rfl
  | str x => obtain ⟨t, e⟩ := (show ∃ t, u = Value.str x t from r); cases e; rfl
  | byt b => obtain ⟨t, e⟩ := (show ∃ t, u = Value.bytes b t from r); cases e; rfl
  | flt b => obtain ⟨t, e⟩ := (show ∃ t, u = Value.float b t from r); cases e; rfl
  | ref a => cases (show u = Value.ref a from r); rfl
  | ty n => cases (show u = Value.type n from r); rfl

section
variable {P : Program} {w : World} {H H' : Hp} {h h' : Heap} {a C dx : Addr} {fs fs' : List (Str × V)}
theorem ins_get (hok : HOk P w H h) (e : H a = some (.ins C dx fs)) : ∃ mA, ObjM h a dx C mA ∧ (∀ f, RelO (fs.lookup f) (mA f)) ∧ PySem.Within mA (fs.map (·.1)) ∧ fs.length ≤ 1000 ∧ H dx = some (.own a) := by
  obtain ⟨d, z, ne, ob, mA, n, r, q⟩ := (show ObjOk P w H h a (.ins C dx fs) from hok a _ e)
  exact ⟨mA, ⟨ob, n, ne⟩, r, q, z, d⟩
end

/-! ### what of the text a class must have -/
structure Cls (K : PySem.W.Frag) (C : Addr) : Prop where
  pg : PySem.W.plainGet K C Str.empty = true
  hd : PySem.W.hasDictIn K C = true
  po : PySem.W.plainOver K C = true
  sa : PySem.W.findIn K (.ref C) "__setattr__" = some (some (.builtin "object.__setattr__"))
theorem Cls.get {K : PySem.W.Frag} {C : Addr} (c : Cls K C) (f : Str) : PySem.W.plainGet K C f = true := c.pg
/-- no class of it has the name -/
def NoAttr (K : PySem.W.Frag) (C : Addr) (f : Str) : Prop := PySem.W.findIn K (.ref C) f = some none
theorem NoAttr.taker {K : PySem.W.Frag} {C : Addr} {f : Str} (n : NoAttr K C f) : PySem.W.takerIn K C f = some none := by
  unfold PySem.W.takerIn
  rw [show PySem.W.findIn K (.ref C) f = some none from n]
  rfl
/-- a constant of the class -/
structure Con (K : PySem.W.Frag) (C : Addr) (f : Str) (v : V) (u : Value) : Prop where
  at_ : PySem.W.findIn K (.ref C) f = some (some u)
  rel : RelV v u
  get : PySem.W.specialIn K u "__get__" = some none
  cp : PySem.W.copiedNames.contains f = false
/-- a method: a plain def of the class or of one above it -/
structure Meth (K : PySem.W.Frag) (C : Addr) (m : Str) (f : Addr) : Prop where
  at_ : PySem.W.findIn K (.ref C) m = some (some (.ref f))
  fn : PySem.W.isFn K (.ref f) = true
  kp : PySem.W.keepIn K (.ref f) = true

section
variable {X : Cx} {pins : List (Addr × Obj)} {σ : St} {H : Hp} {s : Shared} {a C dx : Addr} {fs : List (Str × V)} {f : Str} {v : V} {A : Around} {E : Value → Shared → Prop}

theorem getattr_ok {b : Bool} {Q : Value → Shared → Prop} (I : Inv X pins σ H s) (e : H a = some (.ins C dx fs)) (c : Cls X.K C) (n : NoAttr X.K C f) (l : fs.lookup f = some v)
    (h : ∀ u s', Inv X pins σ H s' → RelV v u → Q u s') : wpAny (model X.prog X.w) A (getAttr (.ref a) f b) Q E s := by
  obtain ⟨mA, O, r, _, _, _⟩ := ins_get I.hok e
  obtain ⟨u, hu, ru⟩ := RelO.some_of (v := v) (o := mA f) (by rw [← l]; exact r f)
  exact get_map I.kIn O (c.get f) c.hd n hu (handed_of ru) (h u _ (I.tok _) ru)

theorem getcon_ok {b : Bool} {u : Value} {Q : Value → Shared → Prop} (I : Inv X pins σ H s) (e : H a = some (.ins C dx fs)) (c : Cls X.K C) (k : Con X.K C f v u) (l : fs.lookup f = none)
    (h : ∀ s', Inv X pins σ H s' → Q u s') : wpAny (model X.prog X.w) A (getAttr (.ref a) f b) Q E s := by
  obtain ⟨mA, O, r, _, _, _⟩ := ins_get I.hok e
  have hn : mA f = none := RelO.none_of (by rw [← l]; exact r f)
  exact get_const I.kIn O (c.get f) c.hd k.at_ k.get k.cp hn (handed_of k.rel) (h _ (I.tok _))

theorem getmeth_ok {m : Str} {g : Addr} {pl : Sem Bool} {Q : Value × List Value → Shared → Prop} (I : Inv X pins σ H s) (e : H a = some (.ins C dx fs)) (c : Cls X.K C) (k : Meth X.K C m g) (l : fs.lookup m = none)
    (h : Q (.ref g, [.ref a]) s) : wpAny (model X.prog X.w) A (getMethod (.ref a) m pl) Q E s := by
  obtain ⟨mA, O, r, _, _, _⟩ := ins_get I.hok e
  have hn : mA m = none := RelO.none_of (by rw [← l]; exact r m)
  exact get_meth I.kIn O (c.get m) k.at_ k.fn hn h

theorem setattr_ok {y : V} {u : Value} {Q : Unit → Shared → Prop} (I : Inv X pins σ H s) (e : H a = some (.ins C dx fs)) (c : Cls X.K C) (n : NoAttr X.K C f) (hl : fs.length < 1000) (ry : RelV y u)
    (h : ∀ s', Inv X pins σ (upd H a (.ins C dx (putF f y fs))) s' → Q () s') : wpAny (model X.prog X.w) A (setAttr (.ref a) f u) Q E s := by
  obtain ⟨mA, O, r, wi, _, ho⟩ := ins_get I.hok e
  have hz : (fs.map (·.1)).length ≤ sizeLine := by rw [List.length_map, sizeLine_eq]; omega
  refine set_map I.kIn O c.sa c.po n.taker c.hd wi hz fun h' O' sb => h _ ?_
  have hd : ∃ o, h'.get? dx = some o := let ⟨o, _, _, e', _⟩ := O'.ns; ⟨o, e'⟩
  refine I.write (x := a) (e := dx) (by rw [e]; exact True.intro) (.inr ho) (fun b q hb z => (sb.2 b hb).trans z) hd ?_
  refine ⟨by rw [upd_ne O.ne]; exact ho, ?_, O.ne, O'.obj, _, O'.ns, fun g => ?_, fun g hg => ?_⟩
  · have := length_putF f y fs; omega
  · show RelO ((putF f y fs).lookup g) (if g = f then some u else mA g)
    rw [lookup_putF]
    by_cases q : g = f
    · rw [if_pos q, if_pos q]; exact ry
    · rw [if_neg q, if_neg q]; exact r g
  · by_cases q : g = f
    · rw [q]; exact (keys_putF f y fs).1
    · refine (keys_putF f y fs).2 g (wi g fun z => hg ?_)
      show (if g = f then some u else mA g) = none
      rw [if_neg q]; exact z

/-- a new instance, tracked, without attributes -/
theorem Inv.made (I : Inv X pins σ H s) : Inv X pins σ (upd (upd H s.heap.objs.size (.own (s.heap.objs.size + 1))) (s.heap.objs.size + 1) (.ins C s.heap.objs.size []))
    { s with heap := (s.heap.push PySem.W.emptyDict).push (PySem.W.instObj C s.heap.objs.size) } := by
  have e1 : (s.heap.push PySem.W.emptyDict).get? s.heap.objs.size = some PySem.W.emptyDict := Heap.get?_push_size s.heap rfl
  have e2 : ((s.heap.push PySem.W.emptyDict).push (PySem.W.instObj C s.heap.objs.size)).get? (s.heap.objs.size + 1) = some (PySem.W.instObj C s.heap.objs.size) := by
    have := Heap.get?_push_size (s.heap.push PySem.W.emptyDict) (o := PySem.W.instObj C s.heap.objs.size) rfl
    rwa [Heap.size_push] at this
  have e3 : (s.heap.push PySem.W.emptyDict).Ns s.heap.objs.size (fun _ => none) := ⟨PySem.W.emptyDict, #[], _, e1, rfl, (fun e he => absurd he (by simp)), fun _ => rfl⟩
  have I1 := I.laid (a := s.heap.objs.size) (o := .own (s.heap.objs.size + 1)) (h' := s.heap.push PySem.W.emptyDict) (t' := s.toks) (fun b u q => Heap.get?_push_of_some _ q) (Nat.le_refl _) ⟨_, e1⟩
  refine I1.laid (a := s.heap.objs.size + 1) (o := .ins C s.heap.objs.size []) (t' := s.toks) (fun b u q => Heap.get?_push_of_some _ q) (Nat.le_of_eq (Heap.size_push _ _)) ?_
  have ne : s.heap.objs.size ≠ s.heap.objs.size + 1 := Nat.ne_of_lt (Nat.lt_succ_self _)
  refine ⟨by rw [upd_ne ne, upd_same], Nat.zero_le _, ne, e2, fun _ => none, (Heap.Ns1.of_empty e3).at fun o q => Heap.get?_push_of_some _ q, fun _ => True.intro, fun y hy => absurd rfl hy⟩

/-- e.f where nothing but the object is asked: through attributeBase (super) and the last hold -/
theorem attr_of {prog : Program} {w : World} {env : Env} {e : Expr} {f : Str} {pos : Pos} {s : Shared} {Q : Value → Shared → Prop} (hb : attributeBase e f env (eval e env) = eval e env)
    (h : wpAny (model prog w) A (eval e env) (fun o s₁ => wpAny (model prog w) A (getAttr o f true) Q E s₁) E s) : wpAny (model prog w) A (eval (.Attribute e f pos) env) Q E s :=
  Attribute_any_ h (by rw [arm_eval_Attribute, hb])
end

/-! ### readings and rules -/
/-- e.f, an attribute of the instance -/
def tFld (K : PySem.W.Frag) (ta : TE) (f : Str) : TE := fun σ H Q => ta σ H fun x H1 => ∃ a C dx fs v, x = .ref a ∧ H1 a = some (.ins C dx fs) ∧ Cls K C ∧ NoAttr K C f ∧ fs.lookup f = some v ∧ Q v H1
/-- e.f, a constant of the class -/
def tCon (K : PySem.W.Frag) (ta : TE) (f : Str) : TE := fun σ H Q => ta σ H fun x H1 => ∃ a C dx fs v u, x = .ref a ∧ H1 a = some (.ins C dx fs) ∧ Cls K C ∧ Con K C f v u ∧ fs.lookup f = none ∧ Q v H1
/-- e.f = value -/
def sFld (K : PySem.W.Frag) (ta tv : TE) (f : Str) : TS := fun D σ H => tv σ H fun y H1 => ta σ H1 fun x H2 => ∃ a C dx fs, x = .ref a ∧ H2 a = some (.ins C dx fs) ∧ Cls K C ∧ NoAttr K C f ∧ fs.length < 1000 ∧
  D.nx σ (upd H2 a (.ins C dx (putF f y fs)))
/-- an augmented operator on two values -/
def InOp (X : Cx) (op : Operator) (rd : V → V → Hp → VK → Prop) : Prop :=
  ∀ (pins : List (Addr × Obj)) (s : Shared) (σ : St) (H : Hp) (x y : V) (u v : Value) (Q : VK), Inv X pins σ H s → RelV x u → RelV y v → rd x y H Q → wpAny (model X.prog X.w) X.A (inplaceOp op u v) (EP X pins σ Q) X.xe s
/-- e.f op= value -/
def sFldAug (K : PySem.W.Frag) (ta tv : TE) (rd : V → V → Hp → VK → Prop) (f : Str) : TS := fun D σ H => ta σ H fun x H1 => ∃ a C dx fs v, x = .ref a ∧ H1 a = some (.ins C dx fs) ∧ Cls K C ∧ NoAttr K C f ∧ fs.lookup f = some v ∧
  tv σ H1 fun y H2 => rd v y H2 fun z H3 => ∃ dx' fs', H3 a = some (.ins C dx' fs') ∧ fs'.length < 1000 ∧ D.nx σ (upd H3 a (.ins C dx' (putF f z fs')))

section
variable {X : Cx} {o e value : Expr} {f : Str} {pos pos' tpos : Pos} {ta tv : TE}
theorem pe_fld (he : PE X e ta) (hb : attributeBase e f X.env (eval e X.env) = eval e X.env) : PE X (.Attribute e f pos) (tFld X.K ta f) := by
  intro pins s σ H Q I h
  refine attr_of hb (thn (he pins s σ H _ I h) fun u s1 ⟨x, H1, I1, rx, a, C, dx, fs, v, ex, ea, c, n, l, q⟩ => ?_)
  subst ex
  obtain rfl : u = Value.ref a := rx
  exact getattr_ok I1 ea c n l fun u' s2 I2 ru => ⟨v, H1, I2, ru, q⟩
theorem pe_con (he : PE X e ta) (hb : attributeBase e f X.env (eval e X.env) = eval e X.env) : PE X (.Attribute e f pos) (tCon X.K ta f) := by
  intro pins s σ H Q I h
  refine attr_of hb (thn (he pins s σ H _ I h) fun u s1 ⟨x, H1, I1, rx, a, C, dx, fs, v, u0, ex, ea, c, k, l, q⟩ => ?_)
  subst ex
  obtain rfl : u = Value.ref a := rx
  exact getcon_ok I1 ea c k l fun s2 I2 => ⟨v, H1, I2, k.rel, q⟩
theorem ps_fld (ha : PE X o ta) (hv : PE X value tv) (hs : swapsWith value (some (.Attribute o f pos')) pos.line X.env = pure false) : PS X (.Assign [.Attribute o f pos'] value pos) (sFld X.K ta tv f) := by
  intro pins s σ H D I h
  refine plainObj_wpAny_Assign_Attribute (thn (hv pins s σ H _ I h) fun u s1 ⟨y, H1, I1, ry, q⟩ => thn (ha pins s1 σ H1 _ I1 q) fun ov s2 ⟨x, H2, I2, rx, a, C, dx, fs, ex, ea, c, n, l, q2⟩ => ?_) hs
  subst ex
  obtain rfl : ov = Value.ref a := rx
  exact setattr_ok I2 ea c n l ry fun s3 I3 => ⟨σ, _, I3, q2⟩
theorem ps_fldaug {op : Operator} {rd : V → V → Hp → VK → Prop} (ha : PE X o ta) (hv : PE X value tv) (hop : InOp X op rd) : PS X (.AugAssign (.Attribute o f tpos) op value pos) (sFldAug X.K ta tv rd f) := by
  intro pins s σ H D I h
  refine wpAny_AugAssign_AttributeAny (thn (ha pins s σ H _ I h) fun ov s1 ⟨x, H1, I1, rx, a, C, dx, fs, v, ex, ea, c, n, l, q⟩ => ?_)
  subst ex
  obtain rfl : ov = Value.ref a := rx
  refine getattr_ok I1 ea c n l fun u s2 I2 ru => thn (hv pins s2 σ H1 _ I2 q) fun w3 s3 ⟨y, H2, I3, ry, q3⟩ => thn (hop pins s3 σ H2 v y u w3 _ I3 ru ry q3) fun w4 s4 ⟨z, H3, I4, rz, dx', fs', ea', l', q4⟩ => ?_
  exact setattr_ok I4 ea' c n l' rz fun s5 I5 => ⟨σ, _, I5, q4⟩
def rAdd : V → V → Hp → VK → Prop := fun x y H Q => ∃ i j, x = .int i ∧ y = .int j ∧ Q (.int (i + j)) H
def rSub : V → V → Hp → VK → Prop := fun x y H Q => ∃ i j, x = .int i ∧ y = .int j ∧ Q (.int (i - j)) H
theorem in_add : InOp X .Add rAdd := by
  rintro pins s σ H x y u v Q I rx ry ⟨i, j, rfl, rfl, q⟩
  obtain ⟨t, rfl⟩ := (show ∃ t, u = Value.int i t from rx)
  obtain ⟨t', rfl⟩ := (show ∃ t', v = Value.int j t' from ry)
  exact PyProof.Rows.iadd_int ⟨.int (i + j), H, I.tok _, ⟨_, rfl⟩, q⟩
theorem in_sub : InOp X .Sub rSub := by
  rintro pins s σ H x y u v Q I rx ry ⟨i, j, rfl, rfl, q⟩
  obtain ⟨t, rfl⟩ := (show ∃ t, u = Value.int i t from rx)
  obtain ⟨t', rfl⟩ := (show ∃ t', v = Value.int j t' from ry)
  exact PyProof.Rows.isub_int ⟨.int (i - j), H, I.tok _, ⟨_, rfl⟩, q⟩

/-- what is between an instance and its method: the tree of a method call -/
theorem methcall_of {pl : Sem Bool} {m : Str} {apos : Pos} {args : List Expr} {pins : List (Addr × Obj)} {s : Shared} {σ : St} {H : Hp} {Q : Value → Shared → Prop} {te : TE} (he : PE X e te) (I : Inv X pins σ H s)
    (h : te σ H fun x H1 => ∃ a C dx fs g, x = .ref a ∧ H1 a = some (.ins C dx fs) ∧ Cls X.K C ∧ Meth X.K C m g ∧ fs.lookup m = none ∧
      ∀ s1, Inv X pins σ H1 s1 → wpAny (model X.prog X.w) X.A (callWith pos (.ref g) [.ref a] (backTo pos (starEach args X.env)) (backToKw pos (keywordEach [] X.env))) Q X.xe s1)
    (ht : eval (.Call (.Attribute e m apos) args [] pos) X.env = (do
      let ov ← eval e X.env
      standAt apos.atName
      let (f, first) ← holding [ov] (getMethod ov m pl)
      callWith pos f first (backTo pos (starEach args X.env)) (backToKw pos (keywordEach [] X.env)))) :
    wpAny (model X.prog X.w) X.A (eval (.Call (.Attribute e m apos) args [] pos) X.env) Q X.xe s := by
  refine PySem.W.methodCall_KW (pl := pl) (thn (he pins s σ H _ I h) fun u s1 ⟨x, H1, I1, rx, a, C, dx, fs, g, ex, ea, c, k, l, q⟩ => ?_) ht
  subst ex
  obtain rfl : u = Value.ref a := rx
  exact getmeth_ok I1 ea c k l (q s1 I1)
end

/-! ### isinstance -/
section
variable {X : Cx} {pins : List (Addr × Obj)} {σ : St} {H : Hp} {s : Shared} {A : Around} {E : Value → Shared → Prop} {Q : Value → Shared → Prop} {c : Value} {b : Bool}
/-- the type of a value, as the fragment's deciders take it; for an instance its class -/
inductive TyOf (K : PySem.W.Frag) (H : Hp) : V → Value → Prop where
  | non : TyOf K H .non (.type "NoneType")
  | bl (x : Bool) : TyOf K H (.bl x) (.type "bool")
  | int (i : Int) : TyOf K H (.int i) (.type "int")
  | str (x : Str) : TyOf K H (.str x) (.type "str")
  | flt (x : UInt64) : TyOf K H (.flt x) (.type "float")
  | lst {a : Addr} {xs : List V} (e : H a = some (.lst xs)) : TyOf K H (.ref a) (.type "list")
  | frz {a : Addr} {o : Obj} {xs : List V} (e : H a = some (.frz o (.lst xs))) : TyOf K H (.ref a) (.type "list")
  | tup {a : Addr} {xs : List V} (e : H a = some (.tup xs)) : TyOf K H (.ref a) (.type "tuple")
  | dK {a : Addr} {kvs : List (Key × V)} (e : H a = some (.dK kvs)) : TyOf K H (.ref a) (.type "dict")
  | dT {a : Addr} {kvs : List (List Key × V)} (e : H a = some (.dT kvs)) : TyOf K H (.ref a) (.type "dict")
  | ins {a C dx : Addr} {fs : List (Str × V)} (e : H a = some (.ins C dx fs)) (cl : Cls K C) (ha : PySem.W.findIn K (.ref C) "__class__" = some (some (.builtin "object.__class__")))
      (hn : PySem.W.specialIn K (.builtin "object.__class__") "__get__" = some (some (.builtin "getset_descriptor.__get__"))) (htk : PySem.W.takesIn K (.builtin "object.__class__") = some true)
      (hm : PySem.W.mroIn K C (.type "object") = some true) : TyOf K H (.ref a) (.ref C)
/-- isinstance(x, c) for one class c, a built-in or an own one: kitOne's answer -/
theorem isinst_ok {x : V} {u t : Value} (I : Inv X pins σ H s) (rx : RelV x u) (ty : TyOf X.K H x t) (e : PySem.W.kitOne X.K t c = some b) (h : ∀ tk, Q (.bool b) { s with toks := tk }) :
    wpAny (model X.prog X.w) A (call (.builtin "isinstance") [u, c]) Q E s := by
  cases ty with
  | non => cases (show u = Value.none from rx); exact PySem.W.kia_one PySem.W.kitx_none I.kIn True.intro e (fun z => nomatch z) h
  | bl y => cases (show u = Value.bool y from rx); exact PySem.W.kia_one PySem.W.kitx_bool I.kIn True.intro e (fun z => nomatch z) h
  | int i => obtain ⟨t, q⟩ := (show ∃ t, u = Value.int i t from rx); cases q; exact PySem.W.kia_one PySem.W.kitx_int I.kIn True.intro e (fun z => nomatch z) h
  | str y => obtain ⟨t, q⟩ := (show ∃ t, u = Value.str y t from rx); cases q; exact PySem.W.kia_one PySem.W.kitx_str I.kIn True.intro e (fun z => nomatch z) h
  | flt y => obtain ⟨t, q⟩ := (show ∃ t, u = Value.float y t from rx); cases q; exact PySem.W.kia_one PySem.W.kitx_float I.kIn True.intro e (fun z => nomatch z) h
  | @lst a xs ea =>
    cases (show u = Value.ref a from rx)
    obtain ⟨_, _, n, _, h1⟩ := (show ObjOk X.prog X.w H s.heap a (.lst xs) from I.hok a _ ea)
    exact PySem.W.kia_one PySem.W.kitx_list I.kIn ⟨_, h1, rfl⟩ e (fun z => nomatch z) h
  | @frz a ob xs ea =>
    cases (show u = Value.ref a from rx)
    obtain ⟨_, _, _, n, _, h1⟩ := (show ObjOk X.prog X.w H s.heap a (.frz ob (.lst xs)) from I.hok a _ ea)
    exact PySem.W.kia_one PySem.W.kitx_list I.kIn ⟨_, h1, rfl⟩ e (fun z => nomatch z) h
  | @tup a xs ea =>
    cases (show u = Value.ref a from rx)
    obtain ⟨_, _, _, p⟩ := (show ObjOk X.prog X.w H s.heap a (.tup xs) from I.hok a _ ea)
    obtain ⟨o, h1, h2, _⟩ := p
    exact PySem.W.kia_one PySem.W.kitx_tuple I.kIn ⟨o, h1, h2⟩ e (fun z => nomatch z) h
  | @dK a kvs ea =>
    cases (show u = Value.ref a from rx)
    obtain ⟨_, _, vs, _, p⟩ := (show ObjOk X.prog X.w H s.heap a (.dK kvs) from I.hok a _ ea)
    obtain ⟨o, es, ep, h1, h2, _⟩ := p
    exact PySem.W.kia_one PySem.W.kitx_dict I.kIn ⟨o, h1, h2.1⟩ e (fun z => nomatch z) h
  | @dT a kvs ea =>
    cases (show u = Value.ref a from rx)
    obtain ⟨_, _, xs, _, o, es, ep, h1, h2, _⟩ := (show ObjOk X.prog X.w H s.heap a (.dT kvs) from I.hok a _ ea)
    exact PySem.W.kia_one PySem.W.kitx_dict I.kIn ⟨o, h1, h2.1⟩ e (fun z => nomatch z) h
  | @ins a C dx fs ea cl ha hn htk hm =>
    cases (show u = Value.ref a from rx)
    obtain ⟨mA, O, _⟩ := ins_get I.hok ea
    obtain ⟨od, J, _⟩ := O.look
    exact PySem.W.kia_one (PySem.W.kitx_own (cl.get _) cl.hd ha hn htk hm) I.kIn J e (fun z => nomatch z) h
end
end L2

namespace L2
open PySem PySem.Spec PyProof.Rows

/-! ### room -/
structure Room (k : Nat) (A : Around) : Prop where
  hd : A.handled = none
  dp : A.depth + 3 * k + 5 < recursionLimit
  un : A.units + 16 * k + 200 < cLine
theorem Room.mono {j k : Nat} {A : Around} (r : Room k A) (h : j ≤ k) : Room j A := ⟨r.hd, by have := r.dp; omega, by have := r.un; omega⟩
theorem Room.deeper {k : Nat} {A : Around} (r : Room (k + 1) A) (env : Env) : Room k (A.deeper env) :=
  ⟨r.hd, by have := r.dp; show A.depth + 1 + 3 * k + 5 < _; omega, by have := r.un; show A.units + 3 + 16 * k + 200 < _; omega⟩
theorem Room.in1 {k : Nat} {A : Around} (r : Room (k + 1) A) : Room k A.in1 :=
  ⟨r.hd, by have := r.dp; show A.depth + 3 * k + 5 < _; omega, by have := r.un; show A.units + 1 + 16 * k + 200 < _; omega⟩
theorem make_depth {A : Around} {C : Addr} {us : List Value} {kw : List (Str × Value)} : (A.under (.builtin "type.__call__" ⟨.ref C :: us, kw⟩)).depth = A.depth + 1 := by
  first | rfl | simp [Around.under, Code.weight, Code.isCreation, Code.isGuard, Code.isCaller, Code.frames, Code.isFrame, guardIds]
theorem make_units {A : Around} {C : Addr} {us : List Value} {kw : List (Str × Value)} : (A.under (.builtin "type.__call__" ⟨.ref C :: us, kw⟩)).units = A.units + 1 := by
  first | rfl | simp [Around.under, Code.cUnits, Code.frames, Code.isFrame]
theorem Room.make {k : Nat} {A : Around} (r : Room (k + 1) A) (C : Addr) (us : List Value) (kw : List (Str × Value)) : Room k (A.under (.builtin "type.__call__" ⟨.ref C :: us, kw⟩)) :=
  ⟨r.hd, by have := r.dp; rw [make_depth]; omega, by have := r.un; rw [make_units]; omega⟩
theorem Room.depth {k : Nat} {A : Around} (r : Room k A) : A.depth < recursionLimit := by have := r.dp; omega
theorem Room.units {k : Nat} {A : Around} (r : Room k A) : A.units + 64 < cLine := by have := r.un; omega
theorem Room.units0 {k : Nat} {A : Around} (r : Room k A) : A.units < cLine := by have := r.un; omega

/-! ### argument lists and displays -/
def tNil : TA := fun _ H Q => Q [] H
def tCons (ta : TE) (tr : TA) : TA := fun σ H Q => ta σ H fun x H1 => tr σ H1 fun xs H2 => Q (x :: xs) H2
section
variable {X : Cx} {e : Expr} {es : List Expr} {te : TE} {t : TA} {pos : Pos}
theorem pa_nil : PA X [] tNil := fun _ _ _ _ H Q I h => Calls.spliced_nil ⟨[], H, I, .nil, h⟩
theorem pa_cons (ha : PE X e te) (hr : PA X es t) (hs : starEach (e :: es) X.env = (false, eval e X.env) :: starEach es X.env := by rfl) : PA X (e :: es) (tCons te t) := by
  intro pos pins s σ H Q I h
  rw [hs]
  show wpAny _ _ (spliced ((false, eval e X.env) :: backTo pos (starEach es X.env))) _ _ s
  refine Calls.spliced_cons (thn (ha pins s σ H _ I h) fun u s1 ⟨x, H1, I1, r1, q1⟩ => ?_)
  exact thn (hr pos pins s1 σ H1 _ I1 q1) fun us s2 ⟨xs, H2, I2, r2, q2⟩ => ⟨x :: xs, H2, I2, .cons r1 r2, q2⟩

/-- a tuple, a list of written items -/
def tTup (t : TA) : TE := fun σ H Q => t σ H fun xs H1 => xs.length ≤ sizeLine ∧ ∀ p, H1 p = none → Q (.ref p) (upd H1 p (.tup xs))
def tLst (t : TA) : TE := fun σ H Q => t σ H fun xs H1 => xs.length ≤ sizeLine ∧ ∀ p, H1 p = none → Q (.ref p) (upd H1 p (.lst xs))
theorem pe_tup {x1} (h : PA X es t) : PE X (.Tuple es x1 pos) (tTup t) := by
  intro pins s σ H Q I hq
  refine wpAny_Tuple_spliced (thn (h pos pins s σ H _ I hq) fun us s1 ⟨xs, H1, I1, r, z, q⟩ => ⟨by rw [← r.length]; exact z, ?_⟩)
  have hf : H1 s1.heap.objs.size = none := I1.hok.fresh (Nat.le_refl _)
  refine ⟨.ref s1.heap.objs.size, upd H1 s1.heap.objs.size (.tup xs), I1.laid (t' := s1.toks) (fun b u e => Heap.get?_push_of_some _ e) (Nat.le_refl _) ?_, rfl, q _ hf⟩
  exact ⟨z, us, r, ⟨_, Heap.get?_push_size _ rfl, rfl, _, rfl⟩⟩
theorem pe_lst (h : PA X es t) : PE X (.List es pos) (tLst t) := by
  intro pins s σ H Q I hq
  refine wpAny_List_spliced (thn (h pos pins s σ H _ I hq) fun us s1 ⟨xs, H1, I1, r, z, q⟩ => ⟨by rw [← r.length]; exact z, ?_⟩)
  have hf : H1 s1.heap.objs.size = none := I1.hok.fresh (Nat.le_refl _)
  refine ⟨.ref s1.heap.objs.size, upd H1 s1.heap.objs.size (.lst xs), I1.laid (t' := s1.toks) (fun b u e => Heap.get?_push_of_some _ e) (Nat.le_refl _) ?_, rfl, q _ hf⟩
  exact ⟨z, us, 0, r, Heap.get?_push_size _ rfl⟩
end

/-! ### what a def promises -/
/-- a def's promise: the bound arguments in the parameters' order, the heap, the wanted end, the wanted exception -/
abbrev Sp := List V → Hp → VK → XK → Prop
/-- how an exception lies behind a call (file 08 gives it): the callers' frames, abstract heap and state ahead of the call, the wish, the exception, the state -/
abbrev CXT := List Env → Hp → Shared → XK → Value → Shared → Prop

/-- the state at a call -/
structure Env0 (P : Program) (w : World) (K : PySem.W.Frag) (mg : Str → Option Value) (base : Heap) (A : Around) (outer : List Env) (s : Shared) (H : Hp) : Prop where
  frames : A.frames = some outer
  mod : Mod K mg base
  bs : ∀ b o, base.get? b = some o → s.heap.get? b = some o ∧ H b = none
  bsz : base.objs.size ≤ s.heap.objs.size
  funs : s.heap.FunFrames base outer
  frf : ∀ b ∈ frs outer, H b = none
  hok : HOk P w H s.heap
  bare : AllBare s.gens
/-- a call's end -/
def CE (outer : List Env) (P : Program) (w : World) (H : Hp) (s : Shared) (Q : VK) (u : Value) (s' : Shared) : Prop :=
  ∃ v H', s'.os = s.os ∧ AllBare s'.gens ∧ Un (frs outer) [] H H' s.heap s'.heap ∧ HOk P w H' s'.heap ∧ RelV v u ∧ Q v H'
def CR (CX : CXT) (outer : List Env) (P : Program) (w : World) (H : Hp) (s : Shared) (Q : VK) (E : XK) (r : Result) (s' : Shared) : Prop :=
  match r with
  | .ok (.ret u) => CE outer P w H s Q u s'
  | .ok _ => False
  | .error e => CX outer H s E e s'
structure FnOk (P : Program) (w : World) (K : PySem.W.Frag) (mg : Str → Option Value) (base : Heap) (CX : CXT) (k : Nat) (f : Addr) (fd : FuncData) (ps : List Str) (sp : Sp) : Prop where
  len : ∀ vs H Q E, sp vs H Q E → vs.length = ps.length
  run : ∀ (A : Around) (outer : List Env) (s : Shared) (H : Hp) (args : Args) (us : List Value) (vs : List V) (Q : VK) (E : XK), Room k A → Env0 P w K mg base A outer s H → BindsTo s fd args (ps.zip us) → Vals vs us → sp vs H Q E →
    codeAny (model P w) A (.call (.ref f) args) (CR CX outer P w H s Q E) s
theorem FnOk.mono {P : Program} {w : World} {K : PySem.W.Frag} {mg : Str → Option Value} {base : Heap} {CX : CXT} {j k : Nat} {f : Addr} {fd : FuncData} {ps : List Str} {sp : Sp} (F : FnOk P w K mg base CX j f fd ps sp) (h : j ≤ k) :
    FnOk P w K mg base CX k f fd ps sp := ⟨F.len, fun A outer s H args us vs Q E hr => F.run A outer s H args us vs Q E (hr.mono h)⟩
/-- a weaker promise -/
theorem FnOk.imp {P : Program} {w : World} {K : PySem.W.Frag} {mg : Str → Option Value} {base : Heap} {CX : CXT} {k : Nat} {f : Addr} {fd : FuncData} {ps : List Str} {sp sp' : Sp} (F : FnOk P w K mg base CX k f fd ps sp)
    (h : ∀ vs H Q E, sp' vs H Q E → sp vs H Q E) : FnOk P w K mg base CX k f fd ps sp' :=
  ⟨fun vs H Q E q => F.len vs H Q E (h _ _ _ _ q), fun A outer s H args us vs Q E hr he hb hv hs => F.run A outer s H args us vs Q E hr he hb hv (h _ _ _ _ hs)⟩

theorem Env0.make {P : Program} {w : World} {K : PySem.W.Frag} {mg : Str → Option Value} {base : Heap} {A : Around} {outer : List Env} {s : Shared} {H : Hp} (e : Env0 P w K mg base A outer s H) (C : Addr) (us : List Value) (kw : List (Str × Value)) :
    Env0 P w K mg base (A.under (.builtin "type.__call__" ⟨.ref C :: us, kw⟩)) outer s H := ⟨by first | exact e.frames | (simpa [Around.under, Code.envs, Code.isFrame, pushEnvs] using e.frames), e.mod, e.bs, e.bsz, e.funs, e.frf, e.hok, e.bare⟩
theorem Env0.in1 {P : Program} {w : World} {K : PySem.W.Frag} {mg : Str → Option Value} {base : Heap} {A : Around} {outer : List Env} {s : Shared} {H : Hp} (e : Env0 P w K mg base A outer s H) :
    Env0 P w K mg base A.in1 outer s H := ⟨e.frames, e.mod, e.bs, e.bsz, e.funs, e.frf, e.hok, e.bare⟩

section
variable {X : Cx} {pins : List (Addr × Obj)} {σ : St} {H : Hp} {s s' : Shared}
/-- from a body: what a callee wants -/
theorem Inv.env0 (I : Inv X pins σ H s) : Env0 X.prog X.w X.K X.mg X.base X.A X.stack s H :=
  ⟨I.ok.frames, I.ok.mod, I.bs, Nat.le_trans I.ok.bsz I.sz, I.stack, I.stkFree, I.hok, I.bare⟩
/-- behind a call -/
theorem Inv.after {Q : VK} {u : Value} (I : Inv X pins σ H s) (h : CE X.stack X.prog X.w H s Q u s') : EP X pins σ Q u s' := by
  obtain ⟨v, H', os, bare, un, hok, r, q⟩ := h
  obtain ⟨hh, g, d, t, os'⟩ := s'
  obtain rfl : os' = s.os := os
  exact ⟨v, H', I.call (h' := hh) (g' := g) (d' := d) (t' := t) (ch := []) un hok bare (fun b z => absurd z (by simp)), r, q⟩
end

/-! ### calls -/
/-- f(..): the written arguments, then the defaults dvs; E: what is wanted of an exception -/
def tCall (sp : Sp) (dvs : List V) (E : XK) (t : TA) : TE := fun σ H Q => t σ H fun vs H1 => sp (vs ++ dvs) H1 Q E
/-- o.m(..) of an instance of the class at C -/
def tMeth (C : Addr) (m : Str) (sp : Sp) (dvs : List V) (E : XK) (ta : TE) (t : TA) : TE := fun σ H Q => ta σ H fun x H1 => ∃ a dx fs, x = .ref a ∧ H1 a = some (.ins C dx fs) ∧ fs.lookup m = none ∧
  t σ H1 fun vs H2 => sp (x :: (vs ++ dvs)) H2 Q E
/-- C(..): a new instance and its dict, then __init__ -/
def tMake (C : Addr) (sp : Sp) (dvs : List V) (E : XK) (t : TA) : TE := fun σ H Q => t σ H fun vs H1 => ∀ x dx, H1 x = none → H1 dx = none → dx ≠ x →
  sp (.ref x :: (vs ++ dvs)) (upd (upd H1 dx (.own x)) x (.ins C dx [])) (fun v H2 => v = .non ∧ Q (.ref x) H2) E

/-- how the parameters are bound: us the positional arguments, kw the keywords' values by name, ds the defaults that fill up -/
def Binds (K : PySem.W.Frag) (fd : FuncData) (ps : List Str) (ds : List Value) : Prop :=
  ∀ (s : Shared) (us : List Value), K.In s.heap → (us ++ ds).length = ps.length → BindsTo s fd ⟨us, []⟩ (ps.zip (us ++ ds))
/-- every parameter is given -/
theorem Binds.all {K : PySem.W.Frag} {fd : FuncData} {ps : List Str} (h : ∀ us : List Value, us.length = ps.length → bindArgs fd ⟨us, []⟩ = pure (ps.zip us)) : Binds K fd ps [] := fun s us _ hl => by
  rw [List.append_nil] at hl ⊢
  exact .of_eq (h us hl)

/-- an exception of a callee reaches what this body wants of exceptions -/
def Passes (CX : CXT) (X : Cx) (E : XK) : Prop := ∀ (pins : List (Addr × Obj)) (σ : St) (H : Hp) (s : Shared) (e : Value) (s' : Shared), Inv X pins σ H s → CX X.stack H s E e s' → X.xe e s'

section
variable {X : Cx} {CX : CXT} {k : Nat} {f C : Addr} {fd : FuncData} {ps : List Str} {sp : Sp} {dvs : List V} {ds : List Value} {E : XK} {x m : Str} {p pos apos : Pos} {e o : Expr} {es : List Expr} {ta : TE} {t : TA}

/-- the callee runs -/
theorem run_fn {pins : List (Addr × Obj)} {σ : St} {H : Hp} {s : Shared} {Q : VK} {us : List Value} {vs : List V} (F : FnOk X.prog X.w X.K X.mg X.base CX k f fd ps sp) (hr : Room k X.A) (hb : Binds X.K fd ps ds) (hd : Vals dvs ds) (hx : Passes CX X E)
    (I : Inv X pins σ H s) (r : Vals vs us) (h : sp (vs ++ dvs) H Q E) : wpAny (model X.prog X.w) X.A (call (.ref f) us) (EP X pins σ Q) X.xe s := by
  have r2 : Vals (vs ++ dvs) (us ++ ds) := r.append hd
  have hl : (us ++ ds).length = ps.length := by rw [← r2.length]; exact F.len _ _ _ _ h
  refine wpAny_call (codeAny_mono (F.run X.A X.stack s H ⟨us, []⟩ (us ++ ds) (vs ++ dvs) Q E hr I.env0 (hb s us I.kIn hl) r2 h) fun r s' hq => ?_)
  cases r with
  | error e => exact hx pins σ H s e s' I hq
  | ok fl =>
    cases fl with
    | ret u => exact I.after hq
    | next => exact False.elim hq
    | brk => exact False.elim hq
    | cont => exact False.elim hq

theorem pe_call (F : FnOk X.prog X.w X.K X.mg X.base CX k f fd ps sp) (hr : Room k X.A) (hg : Gl X x) (hm : X.mg x = some (.ref f)) (hk : PySem.W.keepIn X.K (.ref f) = true) (hb : Binds X.K fd ps ds) (hd : Vals dvs ds) (hx : Passes CX X E)
    (ha : PA X (e :: es) t) (hdb : (x == ("__debug__" : Str)) = false := by decide) (he : starEach (e :: es) X.env = (false, eval e X.env) :: starEach es X.env := by rfl) (hpl : (backTo pos (starEach es X.env)).any (·.1) = false := by rfl) :
    PE X (.Call (.Name x p) (e :: es) [] pos) (tCall sp dvs E t) := by
  intro pins s σ H Q I h
  refine wpAny_Call_Name_kw (ld_glob I hg hm ?_ hdb)
  refine PySem.W.callWith_K (h₀ := X.base) I.ok.mod.kin hk (thn (ha pos pins s σ H _ I h) fun us s1 ⟨vs, H1, I1, r, q⟩ => ⟨I1.kIn, ?_⟩) he hpl
  exact run_fn F hr hb hd hx I1 r q
theorem pe_call0 (F : FnOk X.prog X.w X.K X.mg X.base CX k f fd ps sp) (hr : Room k X.A) (hg : Gl X x) (hm : X.mg x = some (.ref f)) (hk : PySem.W.keepIn X.K (.ref f) = true) (hb : Binds X.K fd ps ds) (hd : Vals dvs ds) (hx : Passes CX X E)
    (hdb : (x == ("__debug__" : Str)) = false := by decide) : PE X (.Call (.Name x p) [] [] pos) (tCall sp dvs E tNil) := by
  intro pins s σ H Q I h
  refine wpAny_Call_Name_kw (ld_glob I hg hm ?_ hdb)
  exact PySem.W.callWith_K0 I.kIn hk (run_fn (us := []) F hr hb hd hx I .nil h)

/-- o.m(e, ..) -/
theorem pe_meth {pl : Sem Bool} (he : PE X o ta) (c : Cls X.K C) (hm : Meth X.K C m f) (F : FnOk X.prog X.w X.K X.mg X.base CX k f fd ps sp) (hr : Room k X.A) (hb : Binds X.K fd ps ds) (hd : Vals dvs ds) (hx : Passes CX X E) (ha : PA X (e :: es) t)
    (hst : starEach (e :: es) X.env = (false, eval e X.env) :: starEach es X.env := by rfl) (hpl : (backTo pos (starEach es X.env)).any (·.1) = false := by rfl)
    (ht : eval (.Call (.Attribute o m apos) (e :: es) [] pos) X.env = (do
      let ov ← eval o X.env
      standAt apos.atName
      let (f, first) ← holding [ov] (getMethod ov m pl)
      callWith pos f first (backTo pos (starEach (e :: es) X.env)) (backToKw pos (keywordEach [] X.env))) := by rfl) :
    PE X (.Call (.Attribute o m apos) (e :: es) [] pos) (tMeth C m sp dvs E ta t) := by
  intro pins s σ H Q I h
  refine PySem.W.methodCall_KW (pl := pl) (thn (he pins s σ H _ I h) fun u s1 ⟨x, H1, I1, rx, a, dx, fs, ex, ea, l, q⟩ => ?_) ht
  subst ex
  obtain rfl : u = Value.ref a := rx
  refine getmeth_ok I1 ea c hm l ?_
  refine PySem.W.callWith_K (first := [.ref a]) (h₀ := X.base) I.ok.mod.kin hm.kp (thn (ha pos pins s1 σ H1 _ I1 q) fun us s2 ⟨vs, H2, I2, r, q2⟩ => ⟨I2.kIn, ?_⟩) hst hpl
  exact run_fn (us := .ref a :: us) (vs := .ref a :: vs) F hr hb hd hx I2 (.cons rfl r) q2
/-- o.m() -/
theorem pe_meth0 {pl : Sem Bool} (he : PE X o ta) (c : Cls X.K C) (hm : Meth X.K C m f) (F : FnOk X.prog X.w X.K X.mg X.base CX k f fd ps sp) (hr : Room k X.A) (hb : Binds X.K fd ps ds) (hd : Vals dvs ds) (hx : Passes CX X E)
    (ht : eval (.Call (.Attribute o m apos) [] [] pos) X.env = (do
      let ov ← eval o X.env
      standAt apos.atName
      let (f, first) ← holding [ov] (getMethod ov m pl)
      callWith pos f first (backTo pos (starEach [] X.env)) (backToKw pos (keywordEach [] X.env))) := by rfl) :
    PE X (.Call (.Attribute o m apos) [] [] pos) (tMeth C m sp dvs E ta tNil) := by
  intro pins s σ H Q I h
  refine PySem.W.methodCall_KW (pl := pl) (thn (he pins s σ H _ I h) fun u s1 ⟨x, H1, I1, rx, a, dx, fs, ex, ea, l, q⟩ => ?_) ht
  subst ex
  obtain rfl : u = Value.ref a := rx
  refine getmeth_ok I1 ea c hm l ?_
  exact PySem.W.callWith_K0 (first := [.ref a]) I1.kIn hm.kp (run_fn (us := [.ref a]) (vs := [.ref a]) F hr hb hd hx I1 (.cons rfl .nil) q)

/-- what a class must have to be made -/
structure Mk (K : PySem.W.Frag) (C f : Addr) : Prop where
  makes : PySem.W.makesIn K C = true
  init : PySem.W.findIn K (.ref C) "__init__" = some (some (.ref f))
  fn : PySem.W.isFn K (.ref f) = true
  kp : PySem.W.keepIn K (.ref C) = true

theorem run_make {pins : List (Addr × Obj)} {σ : St} {H : Hp} {s : Shared} {Q : VK} {us : List Value} {vs : List V} (M : Mk X.K C f) (F : FnOk X.prog X.w X.K X.mg X.base CX k f fd ps sp) (hr : Room (k + 1) X.A) (hb : Binds X.K fd ps ds) (hd : Vals dvs ds)
    (hx : Passes CX X E) (I : Inv X pins σ H s) (r : Vals vs us)
    (h : ∀ x dx, H x = none → H dx = none → dx ≠ x → sp (.ref x :: (vs ++ dvs)) (upd (upd H dx (.own x)) x (.ins C dx [])) (fun v H2 => v = .non ∧ Q (.ref x) H2) E) :
    wpAny (model X.prog X.w) X.A (call (.ref C) us) (EP X pins σ Q) X.xe s := by
  have hq := h (s.heap.objs.size + 1) s.heap.objs.size (I.hok.fresh (Nat.le_succ _)) (I.hok.fresh (Nat.le_refl _)) (Nat.ne_of_lt (Nat.lt_succ_self _))
  have I2 := Inv.made (C := C) I
  have r2 : Vals (V.ref (s.heap.objs.size + 1) :: (vs ++ dvs)) (Value.ref (s.heap.objs.size + 1) :: (us ++ ds)) := .cons rfl (r.append hd)
  have hl : (Value.ref (s.heap.objs.size + 1) :: us ++ ds).length = ps.length := by
    have e := r2.length
    rw [F.len _ _ _ _ hq] at e
    exact e.symm
  refine wpAny_call (make_map (f := f) I.kIn M.makes M.init (beq_iff_eq.mp M.fn) (codeAny_mono (F.run _ X.stack _ _ ⟨Value.ref (s.heap.objs.size + 1) :: us, []⟩ (Value.ref (s.heap.objs.size + 1) :: (us ++ ds)) _ _ E (hr.make C us [])
    (I2.env0.make C us []) (hb _ (Value.ref (s.heap.objs.size + 1) :: us) I2.kIn hl) r2 hq) fun r s' hq' => ?_))
  cases r with
  | error e => exact hx pins σ _ _ e s' I2 hq'
  | ok fl =>
    cases fl with
    | ret u =>
      obtain ⟨v, H', I3, rv, ev, q3⟩ := I2.after hq'
      subst ev
      exact ⟨rv, ⟨V.ref (s.heap.objs.size + 1), H', I3, rfl, q3⟩⟩
    | next => exact False.elim hq'
    | brk => exact False.elim hq'
    | cont => exact False.elim hq'
theorem pe_make (M : Mk X.K C f) (F : FnOk X.prog X.w X.K X.mg X.base CX k f fd ps sp) (hr : Room (k + 1) X.A) (hg : Gl X x) (hm : X.mg x = some (.ref C)) (hb : Binds X.K fd ps ds) (hd : Vals dvs ds) (hx : Passes CX X E)
    (ha : PA X (e :: es) t) (hdb : (x == ("__debug__" : Str)) = false := by decide) (he : starEach (e :: es) X.env = (false, eval e X.env) :: starEach es X.env := by rfl) (hpl : (backTo pos (starEach es X.env)).any (·.1) = false := by rfl) :
    PE X (.Call (.Name x p) (e :: es) [] pos) (tMake C sp dvs E t) := by
  intro pins s σ H Q I h
  refine wpAny_Call_Name_kw (ld_glob I hg hm ?_ hdb)
  refine PySem.W.callWith_K (h₀ := X.base) I.ok.mod.kin M.kp (thn (ha pos pins s σ H _ I h) fun us s1 ⟨vs, H1, I1, r, q⟩ => ⟨I1.kIn, ?_⟩) he hpl
  exact run_make M F hr hb hd hx I1 r q
theorem pe_make0 (M : Mk X.K C f) (F : FnOk X.prog X.w X.K X.mg X.base CX k f fd ps sp) (hr : Room (k + 1) X.A) (hg : Gl X x) (hm : X.mg x = some (.ref C)) (hb : Binds X.K fd ps ds) (hd : Vals dvs ds) (hx : Passes CX X E)
    (hdb : (x == ("__debug__" : Str)) = false := by decide) : PE X (.Call (.Name x p) [] [] pos) (tMake C sp dvs E tNil) := by
  intro pins s σ H Q I h
  refine wpAny_Call_Name_kw (ld_glob I hg hm ?_ hdb)
  exact PySem.W.callWith_K0 I.kIn M.kp (run_make (us := []) M F hr hb hd hx I .nil h)
end

/-! ### keywords -/
/-- the values of the keywords, from the left -/
def PK (X : Cx) (kws : List Keyword) (t : TA) : Prop :=
  ∀ (pos : Pos) (pins : List (Addr × Obj)) (s : Shared) (σ : St) (H : Hp) (Q : List V → Hp → Prop), Inv X pins σ H s → t σ H Q → wpAny (model X.prog X.w) X.A (evalAll ((backToKw pos (keywordEach kws X.env)).map (·.2))) (AP X pins σ Q) X.xe s
section
variable {X : Cx} {CX : CXT} {k : Nat} {f C : Addr} {fd : FuncData} {ps ks : List Str} {sp : Sp} {E : XK} {x m : Str} {p pos apos kpos : Pos} {e o : Expr} {es : List Expr} {kws : List Keyword} {te ta : TE} {t tk : TA} {nm : Option Str}
theorem pk_nil : PK X [] tNil := fun _ _ _ _ H Q I h => wpAny_evalAll_nil ⟨[], H, I, .nil, h⟩
theorem pk_cons (ha : PE X e te) (hr : PK X kws t) : PK X (⟨nm, e, kpos⟩ :: kws) (tCons te t) := by
  intro pos pins s σ H Q I h
  show wpAny _ _ (evalAll ((do let v ← eval e X.env; standAt pos; pure v) :: (backToKw pos (keywordEach kws X.env)).map (·.2))) _ _ s
  refine wpAny_evalAll_cons (wpAny_bind (thn (ha pins s σ H _ I h) fun u s1 ⟨x, H1, I1, r1, q1⟩ => wpAny_bind (wpAny_standAt (wpAny_pure ?_))))
  exact thn (hr pos pins s1 σ H1 _ I1 q1) fun us s2 ⟨xs, H2, I2, r2, q2⟩ => ⟨x :: xs, H2, I2, .cons r1 r2, q2⟩

/-- how a call with keywords binds: g puts the positional values us and the keywords' values ws (names ks) in the parameters' order, defaults among them -/
structure KBinds (K : PySem.W.Frag) (fd : FuncData) (ps ks : List Str) (g : List Value → List Value → List Value) (gV : List V → List V → List V) : Prop where
  to : ∀ (s : Shared) (us ws : List Value), K.In s.heap → (g us ws).length = ps.length → BindsTo s fd ⟨us, ks.zip ws⟩ (ps.zip (g us ws))
  rel : ∀ {vs : List V} {us : List Value} {zs : List V} {ws : List Value}, Vals vs us → Vals zs ws → Vals (gV vs zs) (g us ws)
def tCallK (sp : Sp) (gV : List V → List V → List V) (E : XK) (t tk : TA) : TE := fun σ H Q => t σ H fun vs H1 => tk σ H1 fun zs H2 => sp (gV vs zs) H2 Q E
variable {g : List Value → List Value → List Value} {gV : List V → List V → List V}
theorem run_fnk {pins : List (Addr × Obj)} {σ : St} {H : Hp} {s : Shared} {Q : VK} {us ws : List Value} {vs zs : List V} (F : FnOk X.prog X.w X.K X.mg X.base CX k f fd ps sp) (hr : Room k X.A) (hb : KBinds X.K fd ps ks g gV) (hx : Passes CX X E)
    (I : Inv X pins σ H s) (r : Vals vs us) (rz : Vals zs ws) (h : sp (gV vs zs) H Q E) : wpAny (model X.prog X.w) X.A (call (.ref f) us (ks.zip ws)) (EP X pins σ Q) X.xe s := by
  have r2 := hb.rel r rz
  have hl : (g us ws).length = ps.length := by rw [← r2.length]; exact F.len _ _ _ _ h
  refine wpAny_call (codeAny_mono (F.run X.A X.stack s H ⟨us, ks.zip ws⟩ (g us ws) (gV vs zs) Q E hr I.env0 (hb.to s us ws I.kIn hl) r2 h) fun r s' hq => ?_)
  cases r with
  | error e => exact hx pins σ H s e s' I hq
  | ok fl =>
    cases fl with
    | ret u => exact I.after hq
    | next => exact False.elim hq
    | brk => exact False.elim hq
    | cont => exact False.elim hq
/-- f(e, .., k = v, ..) -/
theorem pe_callK (F : FnOk X.prog X.w X.K X.mg X.base CX k f fd ps sp) (hr : Room k X.A) (hg : Gl X x) (hm : X.mg x = some (.ref f)) (hk : PySem.W.keepIn X.K (.ref f) = true) (hb : KBinds X.K fd ps ks g gV) (hx : Passes CX X E)
    (ha : PA X (e :: es) t) (hkw : PK X kws tk) (hall : (backToKw pos (keywordEach kws X.env)).all (·.1.isSome) = true := by rfl) (hks : (backToKw pos (keywordEach kws X.env)).filterMap (·.1) = ks := by rfl)
    (hdb : (x == ("__debug__" : Str)) = false := by decide) (he : starEach (e :: es) X.env = (false, eval e X.env) :: starEach es X.env := by rfl)
    (hpl : ((backTo pos (starEach (e :: es) X.env)).any (·.1) || (backToKw pos (keywordEach kws X.env)).any (·.1.isNone)) = false := by rfl) :
    PE X (.Call (.Name x p) (e :: es) kws pos) (tCallK sp gV E t tk) := by
  intro pins s σ H Q I h
  refine wpAny_Call_Name_kw (ld_glob I hg hm ?_ hdb)
  refine PySem.W.callWith_KW (h₀ := X.base) I.ok.mod.kin hk hall (thn (ha pos pins s σ H _ I h) fun us s1 ⟨vs, H1, I1, r, q⟩ => ?_) hpl he
  refine thn (hkw pos pins s1 σ H1 _ I1 q) fun ws s2 ⟨zs, H2, I2, rz, q2⟩ => ⟨I2.kIn, ?_⟩
  rw [hks]
  exact run_fnk F hr hb hx I2 r rz q2
end

/-! ### a def's body keeps its promise -/
/-- names: the parameters first -/
structure FnScope (N P : List Str) (sc : Scope) : Prop where
  kind : sc.kind = .function
  co : sc.isCoroutine = false
  gen : sc.isGenerator = false
  nd : N.Nodup
  pre : N.take P.length = P
  par : ∀ x ∈ P, sc.names.lookup x = some .local ∨ sc.names.lookup x = some .cell
  nofree : ∀ y ∈ sc.names, y.2 ≠ .free

theorem bindL_out {kindOf : Str → Option NameKind} {x : Str} : ∀ {binds : List (Str × Value)} {m : Str → Option Value}, (∀ v, (x, v) ∉ binds) → bindL kindOf binds m x = m x
  | [], _, _ => rfl
  | (n, v) :: r, m, h => by
    unfold bindL
    rw [bindL_out fun w hw => h w (List.mem_cons_of_mem _ hw)]
    split
    · have : x ≠ n := by rintro rfl; exact h v List.mem_cons_self
      simp [this]
    · rfl
theorem bindC_out {kindOf : Str → Option NameKind} {x : Str} : ∀ {binds : List (Str × Value)} {m : Str → Option Value}, (∀ v, (x, v) ∉ binds) → bindC kindOf binds m x = m x
  | [], _, _ => rfl
  | (n, v) :: r, m, h => by
    unfold bindC
    rw [bindC_out fun w hw => h w (List.mem_cons_of_mem _ hw)]
    split
    · rfl
    · have : x ≠ n := by rintro rfl; exact h v List.mem_cons_self
      simp [this]
theorem bindL_get {kindOf : Str → Option NameKind} {x : Str} {v : Value} : ∀ {P : List Str} {vs : List Value} {i : Nat} {m : Str → Option Value}, P.Nodup → P[i]? = some x → vs[i]? = some v → kindOf x = some .local →
    bindL kindOf (P.zip vs) m x = some v
  | [], _, _, _, _, h, _, _ => by simp at h
  | _ :: _, [], _, _, _, _, h, _ => by simp at h
  | p :: P, w :: vs, 0, m, nd, h1, h2, hk => by
    simp at h1 h2; subst h1; subst h2
    show bindL kindOf ((p, w) :: P.zip vs) m p = _
    unfold bindL
    rw [bindL_out fun v hv => (List.nodup_cons.mp nd).1 (List.of_mem_zip hv).1, if_pos hk]
    simp
  | p :: P, w :: vs, i + 1, m, nd, h1, h2, hk => by
    show bindL kindOf ((p, w) :: P.zip vs) m x = _
    unfold bindL
    exact bindL_get (i := i) (List.nodup_cons.mp nd).2 (by simpa using h1) (by simpa using h2) hk
theorem bindC_get {kindOf : Str → Option NameKind} {x : Str} {v : Value} : ∀ {P : List Str} {vs : List Value} {i : Nat} {m : Str → Option Value}, P.Nodup → P[i]? = some x → vs[i]? = some v → kindOf x ≠ some .local →
    bindC kindOf (P.zip vs) m x = some v
  | [], _, _, _, _, h, _, _ => by simp at h
  | _ :: _, [], _, _, _, _, h, _ => by simp at h
  | p :: P, w :: vs, 0, m, nd, h1, h2, hk => by
    simp at h1 h2; subst h1; subst h2
    show bindC kindOf ((p, w) :: P.zip vs) m p = _
    unfold bindC
    rw [bindC_out fun v hv => (List.nodup_cons.mp nd).1 (List.of_mem_zip hv).1, if_neg hk]
    simp
  | p :: P, w :: vs, i + 1, m, nd, h1, h2, hk => by
    show bindC kindOf ((p, w) :: P.zip vs) m x = _
    unfold bindC
    exact bindC_get (i := i) (List.nodup_cons.mp nd).2 (by simpa using h1) (by simpa using h2) hk

/-- the names' values at the entry -/
def start (N : List Str) (vs : List V) : St := vs.map some ++ List.replicate (N.length - vs.length) none

/-- the context of a def's body, at its entry; an exception leaves the frame, then lies as CX says -/
def cxOf (CX : CXT) (P : Program) (w : World) (K : PySem.W.Frag) (mg : Str → Option Value) (base : Heap) (N : List Str) (qual : Str) (scope : Scope) (f : Addr) (cd : Value) (A : Around) (outer : List Env) (s : Shared) (H : Hp) (E : XK) : Cx where
  prog := P
  w := w
  K := K
  mg := mg
  base := base
  A := A.deeper (envOfC qual scope s.heap.objs.size f cd)
  N := N
  s₀ := s
  H₀ := H
  env := envOfC qual scope s.heap.objs.size f cd
  outer := outer
  stack := envOfC qual scope s.heap.objs.size f cd :: outer
  ex := []
  calm := true
  fn := fun _ => true
  pn := []
  xe := fun e s' => wpAny (model P w) (A.deeper (envOfC qual scope s.heap.objs.size f cd)) (leaving (envOfC qual scope s.heap.objs.size f cd) e) (fun _ s'' => CX outer H s E e s'') (fun e' s'' => CX outer H s E e' s'') s'

theorem cell_has {sc : Scope} {n : Nat} {x : Str} (h : sc.names.lookup x = some .cell) : ∃ c, (cellsFrom n sc.names []).lookup x = some c := by
  have q := PySem.W.cellsFrom_some sc.names n [] (.inl h)
  exact Option.isSome_iff_exists.mp q

theorem inv_start {CX : CXT} {P : Program} {w : World} {K : PySem.W.Frag} {mg : Str → Option Value} {base : Heap} {N ps : List Str} {qual : Str} {scope : Scope} {f : Addr} {cd : Value} {A : Around} {outer : List Env} {s s1 : Shared} {H : Hp} {E : XK} {us : List Value} {vs : List V}
    (S : FnScope N ps scope) (hd : A.handled = none) (e0 : Env0 P w K mg base A outer s H) (hl : vs.length = ps.length) (r : Vals vs us)
    (x : InCallC s s.heap.objs.size (bindL (envOfC qual scope s.heap.objs.size f cd).kindOf (ps.zip us) fun _ => none) (cellsFrom (s.heap.objs.size + 1) scope.names []) (bindC (envOfC qual scope s.heap.objs.size f cd).kindOf (ps.zip us) fun _ => none) s1) :
    Inv (cxOf CX P w K mg base N qual scope f cd A outer s H E) [] (start N vs) H s1 := by
  have hpl : ps.length ≤ N.length := by have := congrArg List.length S.pre; rw [List.length_take] at this; omega
  obtain ⟨h1, tk, rfl, hk⟩ := x.done
  have noA : ∀ b : Addr, b ∉ (cxOf CX P w K mg base N qual scope f cd A outer s H E).ex := fun b z => absurd (show b ∈ ([] : List Addr) from z) (by simp)
  refine ⟨⟨e0.mod, S.kind, rfl, rfl, Nat.le_refl _, fun y z c h1 h2 => ?_, fun y hy => ?_, fun y c _ h => ?_, fun _ => hd, Around.frames_deeper e0.frames, .inr ⟨rfl, rfl⟩, fun b z => absurd z (noA b), e0.bs, e0.bsz, fun b _ _ => noA b, fun b z => absurd z (noA b), e0.funs, e0.frf⟩,
    rfl, e0.bare, Un.kept hk, ⟨_, x.toInCall.ns, fun i y v h1 h2 h3 => ?_⟩, fun y c h => ⟨_, x.cell y c h⟩, e0.hok.fresh (Nat.le_refl _), fun y c h => ?_, fun p hp => absurd (show p ∈ ([] : List (Addr × Obj)) from hp) (by simp), e0.hok.kept hk, ?_⟩
  · exact name_of_addr x.apart (PySem.mem_of_lookup h1) (PySem.mem_of_lookup h2)
  · have hy : scope.names.lookup y = some .cell ∨ scope.names.lookup y = some .free := hy
    rcases hy with hy | hy
    · exact cell_has hy
    · exact absurd rfl (S.nofree _ (PySem.mem_of_lookup hy))
  · exact Nat.le_of_lt (x.above y c (PySem.mem_of_lookup h))
  · have hi : i < vs.length := by
      unfold start at h2
      by_cases hi : i < vs.length
      · exact hi
      · rw [List.getElem?_append_right (by simpa using hi)] at h2
        rw [List.getElem?_replicate] at h2
        split at h2 <;> cases h2
    have ha : vs[i]? = some v := by
      unfold start at h2
      rw [List.getElem?_append_left (by simpa using hi), List.getElem?_map] at h2
      cases e : vs[i]? with
      | none => rw [e] at h2; cases h2
      | some a => rw [e] at h2; cases h2; rfl
    obtain ⟨u, hu, rv⟩ := r.get ha
    have hp : ps[i]? = some y := by
      rw [← S.pre, List.getElem?_take_of_lt (by omega)]; exact h1
    have ndP : ps.Nodup := by rw [← S.pre]; exact S.nd.sublist (List.take_sublist _ _)
    refine ⟨u, rv, ?_⟩
    rcases S.par y (List.mem_of_getElem? hp) with k | k
    · exact .inl ⟨k, bindL_get ndP hp hu k⟩
    · obtain ⟨c, e⟩ := cell_has (n := s.heap.objs.size + 1) k
      refine .inr ⟨.inl k, c, e, ?_⟩
      have q := x.cell y c e
      rw [bindC_get ndP hp hu (by show scope.names.lookup y ≠ _; rw [k]; decide)] at q
      exact q
  · exact e0.hok.fresh (Nat.le_of_lt (x.above y c (PySem.mem_of_lookup h)))
  · unfold start
    show _ = N.length
    rw [List.length_append, List.length_map, List.length_replicate]
    omega

/-- THE RULE: a def (or a method) of the text, by its body. The body's reading t is chosen for each entry; it is run at the parameters' values -/
theorem fn_of {CX : CXT} {P : Program} {w : World} {K : PySem.W.Frag} {mg : Str → Option Value} {base : Heap} {k : Nat} {f : Addr} {name qual : Str} {params : Arguments} {body : List Stmt} {scope : Scope} {dV kV doc pm cdv ct oc : Value} {an od : Option Addr}
    {osl : Array (Option Value)} {N ps : List Str} {sp : Sp} (lk : K.lookup f = some ⟨oc, od, .func (PySem.W.fnOf name qual params body scope dV kV doc pm an cdv ct), osl⟩) (hcd : PySem.W.codeIn K cdv qual = true) (S : FnScope N ps scope)
    (len : ∀ vs H Q E, sp vs H Q E → vs.length = ps.length)
    (hbody : ∀ (A : Around) (outer : List Env) (s : Shared) (H : Hp) (vs : List V) (Q : VK) (E : XK), Room k (A.deeper (envOfC qual scope s.heap.objs.size f cdv)) → sp vs H Q E →
      ∃ t, PSs (cxOf CX P w K mg base N qual scope f cdv A outer s H E) body t ∧ t { nx := fun _ H' => Q .non H', rt := Q } (start N vs) H) :
    FnOk P w K mg base CX (k + 1) f (PySem.W.fnOf name qual params body scope dV kV doc pm an cdv ct) ps sp := by
  refine ⟨len, fun A outer s H args us vs Q E hr e0 hb r hsp => ?_⟩
  have hl := len _ _ _ _ hsp
  have KX : K.In s.heap := e0.mod.kin.keeps fun b o e => (e0.bs b o e).1
  have lim : s.heap.NoLimit := e0.mod.nolimit.keeps fun b o e => (e0.bs b o e).1
  have hkind : ∀ y ∈ ps.zip us, scope.names.lookup y.1 = some .local ∨ (scope.names.lookup y.1 = some .cell ∧ ((cellsFrom (s.heap.objs.size + 1) scope.names []).lookup y.1).isSome = true) := fun ⟨n, v⟩ hy => by
    rcases S.par n (List.of_mem_zip hy).1 with q | q
    · exact .inl q
    · exact .inr ⟨q, PySem.W.cellsFrom_some _ _ _ (.inl q)⟩
  refine codeAny_call_function hr.depth (KX _ _ lk) rfl S.co S.gen rfl (PySem.W.codeRec_of KX hcd) (hb _ _ _ _ ?_)
  refine wpAny_newFunctionEnv_cells S.kind hkind fun env he s1 x => ?_
  subst he
  refine ⟨lim.keeps x.toInCall.keep, codeAny_func ?_⟩
  obtain ⟨t, ht, hq⟩ := hbody A outer s H vs Q E (hr.deeper _) hsp
  have I : Inv (cxOf CX P w K mg base N qual scope f cdv A outer s H E) [] (start N vs) H s1 := inv_start S hr.hd e0 hl r x
  refine wpAny_mono (ht [] s1 (start N vs) H _ I hq) (fun fl s' hs => ?_) fun e s' hs => hs
  have fin : ∀ {σ' : St} {H' : Hp} {v : V} {u : Value}, Inv (cxOf CX P w K mg base N qual scope f cdv A outer s H E) [] σ' H' s' → RelV v u → Q v H' → CE outer P w H s Q u s' :=
    fun {σ' H' v u} J rv q => ⟨v, H', J.os, J.bare, J.base, J.hok, rv, q⟩
  cases fl with
  | ret u =>
    obtain ⟨v, σ', H', J, rv, q⟩ := hs
    exact fin J rv q
  | next =>
    obtain ⟨σ', H', J, q⟩ := hs
    exact fin (v := V.non) (u := Value.none) J rfl q
  | brk =>
    obtain ⟨_, _, _, q⟩ := hs
    exact False.elim q
  | cont =>
    obtain ⟨_, _, _, q⟩ := hs
    exact False.elim q
end L2

namespace L2
open PySem PySem.Spec PyProof.Rows
section
variable {X : Cx} {x : Str} {p pos : Pos} {e : Expr} {es : List Expr} {t : TA} {id T : String} {r : List V → Hp → VK → Prop}

def tCB (r : List V → Hp → VK → Prop) (t : TA) : TE := fun σ H Q => t σ H fun vs H1 => r vs H1 Q
/-- f(e, ..), f a built-in function -/
theorem pe_callB (hc : CallR X (.builtin id) r) (hg : Gl X x) (hm : X.mg x = none) (hv : bootBuiltins x = some (.builtin id)) (ha : PA X (e :: es) t) (hn : x ≠ "__name__" := by decide) (hdb : (x == ("__debug__" : Str)) = false := by decide)
    (he : starEach (e :: es) X.env = (false, eval e X.env) :: starEach es X.env := by rfl) (hpl : (backTo pos (starEach es X.env)).any (·.1) = false := by rfl) : PE X (.Call (.Name x p) (e :: es) [] pos) (tCB r t) := by
  intro pins s σ H Q I h
  refine wpAny_Call_Name_kw (ld_blt I hg hm hv ?_ hn hdb)
  exact PyProof.Rows.callWith_builtin1 (thn (ha pos pins s σ H _ I h) fun us s1 ⟨vs, H1, I1, r1, q1⟩ => hc pins s1 σ H1 vs us Q I1 r1 q1) he hpl
/-- T(e, ..), T a built-in type -/
theorem pe_callTy (hc : CallR X (.type T) r) (hg : Gl X x) (hm : X.mg x = none) (hv : bootBuiltins x = some (.type T)) (ha : PA X (e :: es) t) (hn : x ≠ "__name__" := by decide) (hdb : (x == ("__debug__" : Str)) = false := by decide)
    (he : starEach (e :: es) X.env = (false, eval e X.env) :: starEach es X.env := by rfl) (hpl : (backTo pos (starEach es X.env)).any (·.1) = false := by rfl) : PE X (.Call (.Name x p) (e :: es) [] pos) (tCB r t) := by
  intro pins s σ H Q I h
  refine wpAny_Call_Name_kw (ld_blt I hg hm hv ?_ hn hdb)
  exact PyProof.Rows.callWith_type1 (thn (ha pos pins s σ H _ I h) fun us s1 ⟨vs, H1, I1, r1, q1⟩ => hc pins s1 σ H1 vs us Q I1 r1 q1) he hpl
/-- T() -/
theorem pe_callTy0 (hc : CallR X (.type T) r) (hg : Gl X x) (hm : X.mg x = none) (hv : bootBuiltins x = some (.type T)) (hn : x ≠ "__name__" := by decide) (hdb : (x == ("__debug__" : Str)) = false := by decide) :
    PE X (.Call (.Name x p) [] [] pos) (tCB r tNil) := by
  intro pins s σ H Q I h
  refine wpAny_Call_Name_kw (ld_blt I hg hm hv ?_ hn hdb)
  exact PyProof.Rows.callWith_type0 (hc pins s σ H [] [] Q I .nil h)
end
end L2

namespace HT
open PySem PyProof.Rows

/-- t < u of tuples of ints -/
def lexLt : List Int → List Int → Bool
  | [], [] => false
  | [], _ :: _ => true
  | _ :: _, [] => false
  | x :: xs, y :: ys => if x = y then lexLt xs ys else decide (x < y)
theorem lexLt_cons (x y : Int) (xs ys : List Int) : lexLt (x :: xs) (y :: ys) = if x = y then lexLt xs ys else decide (x < y) := rfl
theorem lexLt_nil_nil : lexLt [] [] = false := rfl
theorem lexLt_nil_cons (y : Int) (ys : List Int) : lexLt [] (y :: ys) = true := rfl
theorem lexLt_cons_nil (x : Int) (xs : List Int) : lexLt (x :: xs) [] = false := rfl

theorem eqAt_int (A : Around) (s : Shared) (a : Int) (t : Tok) (c : Int) (u : Tok) : ∃ e, SeqAt.EqAt A s (.int a t) (.int c u) e ∧ (e = true ↔ a = c) :=
  ⟨(a == c), SeqAt.EqAt.int_int a t c u, by simp⟩
theorem rcLt_int (A : Around) (s : Shared) (a : Int) (t : Tok) (c : Int) (u : Tok) (prog : Program) (w : World) (E : Value → Shared → Prop) (Q : Value → Shared → Prop) (h : Q (.bool (decide (a < c))) s) :
    wpAny (model prog w) A (richCompare .Lt (.int a t) (.int c u)) Q E s :=
  (PyProof.Rows.lt_int h : wpAny (model prog w) A (compareOp .Lt (.int a t) (.int c u)) Q E s)

section
open PySem.SeqAt
open PySem.AutoSeq1 (wpAny_loadPart')
open PySem.MeetsSeq PySem.MeetsSeq2 PySem.MeetsSeq3

theorem tuple_lt_ints (l b : Addr) (items items2 : Array Value) (n n2 : Nat) (dd dd2 : Option Addr) (sl sl2 : Array (Option Value)) (ns ms : List Int) (hi : IntsAre items.toList ns) (hj : IntsAre items2.toList ms) :
    Meets (Builtin.«tuple.__lt__» ⟨[.ref l, .ref b], []⟩)
      (fun _ R s => s.heap.get? l = some { cls := .type "tuple", dict := dd, data := .seq items n, slots := sl } ∧ s.heap.get? b = some { cls := .type "tuple", dict := dd2, data := .seq items2 n2, slots := sl2 } ∧
        R (.ok (.ret (.bool (lexLt ns ms)))) s) :=
  .of_wp fun prog w A R s h => by
    obtain ⟨hp, g, d, tk, os⟩ := s; obtain ⟨hl, hb, h⟩ := h
    have f2 := AutoSeq1.sub_tuple_tuple
    have z1 : items.size = ns.length := by rw [← hi.length]; simp
    have z2 : items2.size = ms.length := by rw [← hj.length]; simp
    wp_walk using wpAny_loadPart' hl, wpAny_loadPart' hb, wpAny_forIn_list _ (fun rest b s' => b.1 = none ∧ s' = ⟨hp, g, d, tk, os⟩ ∧ ∃ (vs ws : List Value) (ns' ms' : List Int), rest = vs.zip ws ∧
      IntsAre vs ns' ∧ IntsAre ws ms' ∧ ns'.length + items2.size = ms'.length + items.size ∧ R (.ok (.ret (.bool (lexLt ns' ms')))) ⟨hp, g, d, tk, os⟩) _
    case turn =>
      rintro ⟨y, x⟩ rest b s' ⟨hb', rfl, vs, ws, ns', ms', hz, hvi, hwi, hlen, hR⟩
      cases hvi with
      | nil => rw [List.zip_nil_left] at hz; cases hz
      | cons a t hvi' =>
        cases hwi with
        | nil => rw [List.zip_nil_right] at hz; cases hz
        | cons c u hwi' =>
          rw [List.zip_cons_cons] at hz
          injection hz with hyx hrest
          injection hyx with hy hx
          subst hy hx
          rw [lexLt_cons] at hR
          simp only [List.length_cons] at hlen
          obtain ⟨e, he, hiff⟩ := eqAt_int A.in1 ⟨hp, g, d, tk, os⟩ a t c u
          refine wpAny_bind (he prog w _ _ ?_)
          cases e with
          | true =>
            rw [if_pos (hiff.mp rfl)] at hR
            wp_walk
            exact ⟨rfl, rfl, _, _, _, _, hrest, hvi', hwi', by omega, hR⟩
          | false =>
            rw [if_neg (fun q => absurd (hiff.mpr q) Bool.false_ne_true)] at hR
            have hri := rcLt_int A.in1 ⟨hp, g, d, tk, os⟩ a t c u prog w
            wp_walk using hri
            exact ⟨_, rfl, by simpa using hR⟩
    case fin =>
      rintro ⟨b1, b2⟩ s' ⟨hb', rfl, vs, ws, ns', ms', hz, hvi, hwi, hlen, hR⟩
      simp only at hb'
      subst hb'
      have hv : lexLt ns' ms' = decide (items.size < items2.size) := by
        cases hvi with
        | nil =>
          cases hwi with
          | nil =>
            simp only [List.length_nil] at hlen
            rw [lexLt_nil_nil]
            exact (decide_eq_false (by omega)).symm
          | cons c u hw =>
            simp only [List.length_nil, List.length_cons] at hlen
            rw [lexLt_nil_cons]
            exact (decide_eq_true (by omega)).symm
        | cons a t hv =>
          cases hwi with
          | nil =>
            simp only [List.length_nil, List.length_cons] at hlen
            rw [lexLt_cons_nil]
            exact (decide_eq_false (by omega)).symm
          | cons c u hw =>
            rw [List.zip_cons_cons] at hz
            cases hz
      rw [hv] at hR
      wp_walk
      exact ⟨_, rfl, by simpa [Builtin.Tuple.tupleCompareSizes] using hR⟩
    case h =>
      exact ⟨rfl, rfl, items.toList, items2.toList, ns, ms, rfl, hi, hj, by omega, h⟩
end

section
variable {prog : Program} {w : World} {A : Around} {E : Value → Shared → Prop} {s : Shared}

theorem lt_tupInts {l b : Addr} {items items2 : Array Value} {ns ms : List Int} {Q : Value → Shared → Prop} (hl : IsTup s.heap l items) (hb : IsTup s.heap b items2) (hi : IntsAre items.toList ns) (hj : IntsAre items2.toList ms)
    (hu : A.units < cLine) (h : Q (.bool (lexLt ns ms)) s) : wpAny (model prog w) A (compareOp .Lt (.ref l) (.ref b)) Q E s := by
  obtain ⟨⟨cls, dd, data, sl⟩, ho, hc, n, hd⟩ := id hl
  obtain ⟨⟨cls2, dd2, data2, sl2⟩, ho2, hc2, n2, hd2⟩ := id hb
  simp only at hc hd hc2 hd2
  subst hc hd hc2 hd2
  exact richCompare_meets_room (op := .Lt) ⟨_, ho, rfl⟩ ⟨_, ho2, rfl⟩ PySem.F.slot_tuple_lt PySem.F.entry_tuple_lt (PySem.F.args_tuple_lt_2 _ _) (tuple_lt_ints l b items items2 n n2 dd dd2 sl sl2 ns ms hi hj)
    ⟨ho, ho2, show Value.bool (lexLt ns ms) ≠ Value.notImplemented ∧ Q (.bool (lexLt ns ms)) s from ⟨(fun x => nomatch x), h⟩⟩ hu

/-- t + u, t not empty -/
theorem cat_tup {t b : Addr} {vs ws : List Value} {Q : Value → Shared → Prop} (ht : IsTup s.heap t vs.toArray) (hb : IsTup s.heap b ws.toArray) (hv : vs ≠ [])
    (h1 : ws = [] → Q (.ref t) s) (h2 : ws ≠ [] → Q (.ref s.heap.objs.size) { s with heap := s.heap.push { cls := .type "tuple", data := .seq (vs ++ ws).toArray } })
    (hsz : vs.length + ws.length ≤ sizeLine) : wpAny (model prog w) A (binaryOp .Add (.ref t) (.ref b)) Q E s := by
  obtain ⟨⟨cls, dd, data, sl⟩, ho, hc, n, hd⟩ := id ht
  obtain ⟨⟨cls2, dd2, data2, sl2⟩, ho2, hc2, n2, hd2⟩ := id hb
  simp only at hc hd hc2 hd2
  subst hc hd hc2 hd2
  have e : vs.toArray ++ ws.toArray = (vs ++ ws).toArray := by simp
  by_cases hw : ws = []
  · exact concat_meets ⟨_, ho, rfl⟩ ⟨_, ho2, rfl⟩ noFill_tuple_add seq_tuple_add PySem.F.slot_tuple_add PySem.F.entry_tuple_add (PySem.F.args_tuple_add_2 _ _)
      (tuple_addW1 t b vs.toArray ws.toArray n n2 dd dd2 sl sl2 (by simpa using hv) (by simp [hw])) ⟨ho, ho2, h1 hw⟩
  · refine concat_meets ⟨_, ho, rfl⟩ ⟨_, ho2, rfl⟩ noFill_tuple_add seq_tuple_add PySem.F.slot_tuple_add PySem.F.entry_tuple_add (PySem.F.args_tuple_add_2 _ _)
      (tuple_addW2 t b vs.toArray ws.toArray n n2 dd dd2 sl sl2 (by simpa using hv) (by simpa using hw) (by rw [List.size_toArray, List.size_toArray]; exact hsz)) ⟨ho, ho2, ?_⟩
    rw [e]
    exact h2 hw

/-! ### t[a:b], not the whole -/
/-- a slice's bound as a place among n (d where it is left out) -/
def sIx (n d : Nat) : Option Int → Nat
  | none => d
  | some v => if v < 0 then (v + (n : Int)).toNat else min v.toNat n
theorem sIx_none (n d : Nat) : sIx n d none = d := rfl
theorem sIx_nat (n d k : Nat) : sIx n d (some (k : Int)) = min k n := by
  show (if (k : Int) < 0 then ((k : Int) + (n : Int)).toNat else min (k : Int).toNat n) = min k n
  rw [if_neg (by omega), Int.toNat_natCast]
theorem sIx_le (n d : Nat) (hd : d ≤ n) (o : Option Int) : sIx n d o ≤ n := by
  cases o with
  | none => exact hd
  | some v =>
    show (if v < 0 then (v + (n : Int)).toNat else min v.toNat n) ≤ n
    by_cases hv : v < 0
    · rw [if_pos hv]; omega
    · rw [if_neg hv]; exact Nat.min_le_right _ _
theorem clip_eq (v : Int) (n d : Nat) : (if v < 0 then max (v + (n : Int)) 0 else min v (n : Int)) = ((sIx n d (some v) : Nat) : Int) := by
  show (if v < 0 then max (v + (n : Int)) 0 else min v (n : Int)) = (((if v < 0 then (v + (n : Int)).toNat else min v.toNat n) : Nat) : Int)
  by_cases hv : v < 0
  · simp only [if_pos hv]; omega
  · simp only [if_neg hv]; omega
theorem adjust_gen (lo hi : Option Int) (n : Nat) : Builtin.Slice.sliceAdjust lo hi 1 (n : Int) = (((sIx n 0 lo : Nat) : Int), ((sIx n n hi : Nat) : Int)) := by
  have h1 : ¬ ((1 : Int) < 0) := by omega
  unfold Builtin.Slice.sliceAdjust
  simp only [h1, if_false]
  refine Prod.ext ?_ ?_
  · cases lo with
    | none => rfl
    | some v => exact clip_eq v n 0
  · cases hi with
    | none => rfl
    | some v => exact clip_eq v n n
theorem places_gen (i j : Nat) : Builtin.Slice.slicePlaces (i : Int) (j : Int) 1 = j - i := by
  unfold Builtin.Slice.slicePlaces
  have h1 : (1 : Int) > 0 := by omega
  simp only [h1, if_true, Int.ediv_one]
  split <;> omega
theorem slicePart_ {v : Value} {o : Option Int} {Q : Option Int → Shared → Prop} (p : IsPart v o) (h : Q o s) : wpAny (model prog w) A (Builtin.Slice.slicePartIndex v) Q E s := by
  cases p with
  | none => exact slicePart_none h
  | int i t => exact slicePart_int h
theorem sliceApplied_gen {sl : Addr} {vl vu : Value} {lo hi : Option Int} {n : Nat} {Q : Int × Int × Nat → Shared → Prop} (hs : s.heap.IsSliceOf sl vl vu .none) (pl : IsPart vl lo) (pu : IsPart vu hi)
    (h : Q (((sIx n 0 lo : Nat) : Int), 1, sIx n n hi - sIx n 0 lo) s) : wpAny (model prog w) A (Builtin.Slice.sliceApplied (.ref sl) (pure (n : Int))) Q E s := by
  obtain ⟨os, hos, hcs, hds⟩ := id hs
  unfold Builtin.Slice.sliceApplied Builtin.Slice.sliceFields
  refine wpAny_bind (wpAny_bind (wpAny_field hos hds (x := vl) rfl (wpAny_bind (wpAny_field hos hds (x := vu) rfl (wpAny_bind (wpAny_field hos hds (x := .none) rfl (wpAny_pure ?_)))))))
  refine wpAny_bind (slicePart_none ?_)
  show wpAny _ _ (if ((1 : Int) == 0) = true then _ else _) _ _ s
  rw [if_neg (by decide)]
  refine wpAny_bind (slicePart_ pl (wpAny_bind (slicePart_ pu (wpAny_bind (wpAny_pure ?_)))))
  show wpAny _ _ (match Builtin.Slice.sliceAdjust lo hi 1 (n : Int) with | (lo, hi) => pure (lo, (1 : Int), Builtin.Slice.slicePlaces lo hi 1)) _ _ s
  rw [adjust_gen lo hi n]
  show wpAny _ _ (pure (((sIx n 0 lo : Nat) : Int), (1 : Int), Builtin.Slice.slicePlaces ((sIx n 0 lo : Nat) : Int) ((sIx n n hi : Nat) : Int) 1)) _ _ s
  rw [places_gen]
  exact wpAny_pure h
theorem pick_gen (xs : Array Value) (i k : Nat) : ((List.range k).filterMap fun (m : Nat) => xs[((i : Int) + (m : Int) * 1).toNat]?).toArray = ((xs.toList.drop i).take k).toArray := by
  have e : (fun (m : Nat) => xs[((i : Int) + (m : Int) * 1).toNat]?) = fun m => xs[i + m]? := by
    funext m
    have : ((i : Int) + (m : Int) * 1).toNat = i + m := by omega
    rw [this]
  rw [e]
  have := pick_run xs i k
  rw [List.filterMap_map] at this
  have e2 : ((fun x => xs[x]?) ∘ fun x => i + x) = fun m => xs[i + m]? := rfl
  rw [e2] at this
  rw [this]

theorem getItem_tuple_cut {t sl : Addr} {items : Array Value} {vl vu : Value} {lo hi : Option Int} {Q : Value → Shared → Prop} (ht : IsTup s.heap t items) (hs : s.heap.IsSliceOf sl vl vu .none) (pl : IsPart vl lo) (pu : IsPart vu hi)
    (hw : ¬ (sIx items.size 0 lo = 0 ∧ sIx items.size items.size hi = items.size))
    (h : Q (.ref s.heap.objs.size) { s with heap := s.heap.push { cls := .type "tuple", data := .seq ((items.toList.drop (sIx items.size 0 lo)).take (sIx items.size items.size hi - sIx items.size 0 lo)).toArray } })
    (hsz : items.size ≤ sizeLine) : wpAny (model prog w) A (getItem (.ref t) (.ref sl)) Q E s := by
  have htake : sizeOk (.seq ((items.toList.drop (sIx items.size 0 lo)).take (sIx items.size items.size hi - sIx items.size 0 lo)).toArray) := by
    show ((items.toList.drop (sIx items.size 0 lo)).take (sIx items.size items.size hi - sIx items.size 0 lo)).toArray.size ≤ sizeLine
    rw [List.size_toArray, List.length_take, List.length_drop, Array.length_toList]
    omega
  have hj : sIx items.size items.size hi ≤ items.size := sIx_le _ _ (Nat.le_refl _) hi
  obtain ⟨os, hos, hcs, hds⟩ := id hs
  have hTs : s.TypeIs (.ref sl) "slice" := ⟨os, hos, hcs⟩
  unfold getItem
  try with_reducible refine wpAny_holding ?_
  first | refine wpAny_bind (wpAny_pure ?_) | skip
  refine wpAny_bind (wpAny_sequenceKey ht.typeIs (by decide) ?_)
  refine wpAny_bind (wpAny_callSpecial?_slot (name := Str.ofString "__getitem__") ht.typeIs PyProof.Rows.slot_tuple_getitem
    (wpAny_call_entry PyProof.Rows.slot_tuple_getitem ht.typeIs entry_tuple_getitem ?_ (args_tuple_getitem _ _)))
  show wpAny _ _ (Builtin.Tuple.tupleItemsOf (.ref t) >>= _) _ _ s
  refine wpAny_bind (tupleItemsOf_ ht ?_)
  refine wpAny_bind (wpAny_typeOf hTs ?_)
  rw [if_pos (by decide)]
  refine wpAny_bind (sliceApplied_gen hs pl pu ?_)
  have hno : ¬ ((((sIx items.size 0 lo : Nat) : Int) == 0 && (1 : Int) == 1 && (sIx items.size items.size hi - sIx items.size 0 lo) == items.size) = true) := by
    intro q
    rw [Bool.and_eq_true, Bool.and_eq_true] at q
    have q1 : ((sIx items.size 0 lo : Nat) : Int) = 0 := eq_of_beq q.1.1
    have q2 : sIx items.size items.size hi - sIx items.size 0 lo = items.size := eq_of_beq q.2
    exact hw ⟨by omega, by omega⟩
  show wpAny _ _ (if (((sIx items.size 0 lo : Nat) : Int) == 0 && (1 : Int) == 1 && (sIx items.size items.size hi - sIx items.size 0 lo) == items.size) = true then _ else _) _ _ s
  rw [if_neg hno, pick_gen]
  first
    | exact wpAny_bind (m := Builtin.Tuple.tupleExact _) (wpAny_newObj_type (wpAny_pure ⟨_, rfl, wpAny_pure h⟩) htake)
    | exact wpAny_bind (m := Builtin.Tuple.tupleExact _) (wpAny_newObj_type (wpAny_bind (wpAny_pure (wpAny_pure ⟨_, rfl, wpAny_pure h⟩))) htake)
    | exact wpAny_bind (wpAny_bind (m := Builtin.Tuple.tupleExact _) (wpAny_newObj_type (wpAny_pure (wpAny_pure ⟨_, rfl, wpAny_pure h⟩)) htake))
    | exact wpAny_bind (wpAny_bind (m := Builtin.Tuple.tupleExact _) (wpAny_newObj_type (wpAny_pure ⟨_, rfl, wpAny_pure h⟩) htake))
end
end HT

namespace L2
open PySem PySem.Spec PyProof.Rows

/-! ### the parts of a slice -/
abbrev TO := St → Hp → (Option Int → Hp → Prop) → Prop
/-- a slice's part (left out, or an int) -/
def PO (X : Cx) (e : Option Expr) (t : TO) : Prop :=
  ∀ (pins : List (Addr × Obj)) (s : Shared) (σ : St) (H : Hp) (Q : Option Int → Hp → Prop), Inv X pins σ H s → t σ H Q →
    wpAny (model X.prog X.w) X.A (evalPart e X.env) (fun u s' => ∃ o H', Inv X pins σ H' s' ∧ IsPart u o ∧ Q o H') X.xe s
def tNoPart : TO := fun _ H Q => Q none H
def tPart (t : TE) : TO := fun σ H Q => t σ H fun x H1 => ∃ i, x = .int i ∧ Q (some i) H1

theorem intsAre_of {ns : List Int} : ∀ {us : List Value}, Vals (ns.map V.int) us → IntsAre us ns := by
  induction ns with
  | nil => intro us r; rw [List.map_nil] at r; cases r; exact .nil
  | cons n ns ih =>
    intro us r
    rw [List.map_cons] at r
    cases r with
    | cons r1 r2 =>
      obtain ⟨t, e⟩ := r1
      subst e
      exact .cons n t (ih r2)

section
variable {X : Cx} {e : Expr} {te : TE} {lo hi : Option Expr} {tl th : TO} {pos p2 : Pos}

theorem po_none : PO X none tNoPart := by
  intro pins s σ H Q I h
  rw [evalPart_none]
  exact wpAny_pure ⟨none, H, I, .none, h⟩
theorem po_some (h : PE X e te) : PO X (some e) (tPart te) := by
  intro pins s σ H Q I hw
  rw [evalPart_some]
  refine thn (h pins s σ H _ I hw) fun u s1 ⟨x, H1, I1, r1, q1⟩ => ?_
  obtain ⟨i, rfl, q⟩ := q1
  obtain ⟨t, rfl⟩ := r1
  exact ⟨some i, H1, I1, .int i t, q⟩

/-- what a slice of a value is, by values: the slice object stands at sl -/
def SlR (X : Cx) (r : V → Option Int → Option Int → Hp → VK → Prop) : Prop :=
  ∀ (pins : List (Addr × Obj)) (s : Shared) (σ : St) (H : Hp) (x : V) (v vl vu : Value) (lo hi : Option Int) (sl : Addr) (Q : VK), Inv X pins σ H s → RelV x v → s.heap.IsSliceOf sl vl vu .none → IsPart vl lo → IsPart vu hi → r x lo hi H Q →
    ∃ T id, typeLookup (.type T) "__getitem__" = pure (some (.builtin id)) ∧ s.TypeIs v T ∧ wpAny (model X.prog X.w) X.A (getItem v (.ref sl)) (EP X pins σ Q) X.xe s
theorem SlR.or {r r' : V → Option Int → Option Int → Hp → VK → Prop} (h : SlR X r) (h' : SlR X r') : SlR X (fun x lo hi H Q => r x lo hi H Q ∨ r' x lo hi H Q) := by
  intro pins s σ H x v vl vu lo hi sl Q I rx hs pl pu q
  rcases q with q | q
  · exact h pins s σ H x v vl vu lo hi sl Q I rx hs pl pu q
  · exact h' pins s σ H x v vl vu lo hi sl Q I rx hs pl pu q
def tSl (r : V → Option Int → Option Int → Hp → VK → Prop) (te : TE) (tl th : TO) : TE := fun σ H Q => te σ H fun x H1 => tl σ H1 fun l H2 => th σ H2 fun u H3 => r x l u H3 Q
/-- a[lo:hi], any a -/
theorem pe_slice {r : V → Option Int → Option Int → Hp → VK → Prop} (hr : SlR X r) (he : PE X e te) (hl : PO X lo tl) (hu : PO X hi th) : PE X (.Subscript e (.Slice lo hi none p2) pos) (tSl r te tl th) := by
  intro pins s σ H Q I h
  refine Subscript_ (thn (he pins s σ H _ I h) fun v s1 ⟨x, H1, I1, r1, q1⟩ => ?_)
  refine wpAny_Slice (thn (hl pins s1 σ H1 _ I1 q1) fun vl s2 ⟨l, H2, I2, pl, q2⟩ => thn (hu pins s2 σ H2 _ I2 q2) fun vu s3 ⟨u, H3, I3, pu, q3⟩ => ?_)
  rw [evalPart_none]
  refine wpAny_pure ?_
  have I4 : Inv X pins σ H3 { s3 with heap := s3.heap.push { cls := .type "slice", data := .fields #[vl, vu, .none] } } := I3.kept (t' := s3.toks) fun b ob q => Heap.get?_push_of_some _ q
  obtain ⟨T, id, hT, ht, hg⟩ := hr pins { s3 with heap := s3.heap.push { cls := .type "slice", data := .fields #[vl, vu, .none] } } σ H3 x v vl vu l u s3.heap.objs.size Q I4 r1 (Heap.IsSliceOf.new ..) pl pu q3
  show wpAny (model X.prog X.w) X.A (subscriptTail e (.Slice lo hi none p2) v (.ref s3.heap.objs.size)) (EP X pins σ Q) X.xe { s3 with heap := s3.heap.push { cls := .type "slice", data := .fields #[vl, vu, .none] } }
  exact tail_any (ops := [.ref s3.heap.objs.size, v]) ht hT hg (by with_unfolding_all rfl)

/-- the items of xs[lo:hi] -/
def cutV (xs : List V) (lo hi : Option Int) : List V := (xs.drop (HT.sIx xs.length 0 lo)).take (HT.sIx xs.length xs.length hi - HT.sIx xs.length 0 lo)
theorem cutV_length (xs : List V) (lo hi : Option Int) : (cutV xs lo hi).length ≤ xs.length := by
  unfold cutV
  rw [List.length_take, List.length_drop]
  omega
/-- t[lo:hi], not the whole of it (the whole would be t itself) -/
def rSlT (K : PySem.W.Frag) : V → Option Int → Option Int → Hp → VK → Prop := fun x lo hi H Q => ∃ a xs, x = .ref a ∧ SqT K H a xs ∧
  ¬ (HT.sIx xs.length 0 lo = 0 ∧ HT.sIx xs.length xs.length hi = xs.length) ∧ ∀ p, H p = none → Q (.ref p) (upd H p (.tup (cutV xs lo hi)))
theorem sl_tup : SlR X (rSlT X.K) := by
  intro pins s σ H x v vl vu lo hi sl Q I rx hs pl pu h
  obtain ⟨a, xs, rfl, hx, hw, q⟩ := h
  cases rx
  obtain ⟨its, r, ht, hz⟩ := I.tuple hx
  have hlen : its.toArray.size = xs.length := by rw [List.size_toArray]; exact r.length.symm
  refine ⟨"tuple", _, PyProof.Rows.slot_tuple_getitem.lookup, ht.typeIs, ?_⟩
  refine HT.getItem_tuple_cut ht hs pl pu (by rw [hlen]; exact hw) ?_ (by rw [hlen]; exact hz)
  rw [hlen]
  refine ⟨.ref s.heap.objs.size, _, I.laid (t' := s.toks) (o := .tup (cutV xs lo hi)) (fun b ob q => Heap.get?_push_of_some _ q) (Nat.le_refl _) ?_, rfl, q _ (I.hok.fresh (Nat.le_refl _))⟩
  exact ⟨Nat.le_trans (cutV_length xs lo hi) hz, _, (r.drop (HT.sIx xs.length 0 lo)).take (HT.sIx xs.length xs.length hi - HT.sIx xs.length 0 lo), IsTup.new _ _⟩

/-! ### t < u, t + u -/
def rLtT (K : PySem.W.Frag) : R2 := fun x y H Q => ∃ a b ns ms, x = .ref a ∧ y = .ref b ∧ SqT K H a (ns.map V.int) ∧ SqT K H b (ms.map V.int) ∧ Q (.bl (HT.lexLt ns ms)) H
theorem op_ltT (hu : X.A.units < cLine) : OpR X (compareOp .Lt) (rLtT X.K) := by
  intro pins s σ H x y v u Q I rx ry h
  obtain ⟨a, b, ns, ms, rfl, rfl, ha, hb, q⟩ := h
  cases rx
  cases ry
  obtain ⟨its, r1, p1, _⟩ := I.tuple ha
  obtain ⟨its2, r2, p2, _⟩ := I.tuple hb
  have i1 : IntsAre its.toArray.toList ns := intsAre_of r1
  have i2 : IntsAre its2.toArray.toList ms := intsAre_of r2
  exact HT.lt_tupInts p1 p2 i1 i2 hu ⟨.bl (HT.lexLt ns ms), H, I, rfl, q⟩
/-- t + u, t not empty: u empty gives t itself -/
def rCatT (K : PySem.W.Frag) : R2 := fun x y H Q => ∃ a b xs ys, x = .ref a ∧ y = .ref b ∧ SqT K H a xs ∧ SqT K H b ys ∧ xs ≠ [] ∧ xs.length + ys.length ≤ sizeLine ∧
  (ys = [] → Q (.ref a) H) ∧ (ys ≠ [] → ∀ p, H p = none → Q (.ref p) (upd H p (.tup (xs ++ ys))))
theorem Vals.nil_iff {xs : List V} {us : List Value} (r : Vals xs us) : us = [] ↔ xs = [] := by
  cases r with
  | nil => simp
  | cons _ _ => simp
theorem op_catT : OpR X (binaryOp .Add) (rCatT X.K) := by
  intro pins s σ H x y v u Q I rx ry h
  obtain ⟨a, b, xs, ys, rfl, rfl, ha, hb, hx, hz, q1, q2⟩ := h
  cases rx
  cases ry
  obtain ⟨its, r1, p1, _⟩ := I.tuple ha
  obtain ⟨its2, r2, p2, _⟩ := I.tuple hb
  refine HT.cat_tup p1 p2 (fun z => hx (r1.nil_iff.mp z)) (fun z => ⟨.ref a, H, I, rfl, q1 (r2.nil_iff.mp z)⟩) (fun z => ?_) (by rw [← r1.length, ← r2.length]; exact hz)
  refine ⟨.ref s.heap.objs.size, _, I.laid (t' := s.toks) (o := .tup (xs ++ ys)) (fun b ob q => Heap.get?_push_of_some _ q) (Nat.le_refl _) ?_, rfl, q2 (fun w => z (r2.nil_iff.mpr w)) _ (I.hok.fresh (Nat.le_refl _))⟩
  exact ⟨by rw [List.length_append]; exact hz, _, r1.append r2, IsTup.new _ _⟩
/-- tuple(t) -/
theorem call_tupleT : CallR X (.type "tuple") (fun xs H Q => ∃ a ys, xs = [.ref a] ∧ SqT X.K H a ys ∧ Q (.ref a) H) := by
  intro pins s σ H xs us Q I r h
  obtain ⟨a, ys, rfl, ha, q⟩ := h
  obtain ⟨u, rfl, ru⟩ := vals1 r
  cases ru
  obtain ⟨its, _, p1, _⟩ := I.tuple ha
  exact call_tuple_same (items := its.toArray) p1 ⟨.ref a, H, I, rfl, q⟩
end
end L2

namespace L2
open PySem PySem.Spec PyProof.Rows

/-! ### places -/
/-- the place that an index of any sign means -/
def ixN (n : Nat) (i : Int) : Option Nat := if 0 ≤ i then (if i < n then some i.toNat else none) else if -(n : Int) ≤ i then some (i + n).toNat else none
def atI {α : Type} (xs : List α) (i : Int) : Option α := (ixN xs.length i).bind fun j => xs[j]?
theorem ixN_seq {n : Nat} {i : Int} {j : Nat} (h : ixN n i = some j) : seqIndex? i n = some j ∧ j < n ∧ -(n : Int) ≤ i ∧ i < n := by
  unfold ixN at h
  by_cases h0 : 0 ≤ i
  · rw [if_pos h0] at h
    by_cases h1 : i < n
    · rw [if_pos h1] at h
      have e : i.toNat = j := Option.some.inj h
      exact ⟨by rw [seqIndex_of h0 h1, e], by omega, by omega, h1⟩
    · rw [if_neg h1] at h; cases h
  · rw [if_neg h0] at h
    by_cases h1 : -(n : Int) ≤ i
    · rw [if_pos h1] at h
      have e : (i + n).toNat = j := Option.some.inj h
      exact ⟨by rw [seqIndex_neg (by omega) h1, e], by omega, h1, by omega⟩
    · rw [if_neg h1] at h; cases h
theorem atI_get {α : Type} {xs : List α} {i : Int} {v : α} (h : atI xs i = some v) : ∃ j, seqIndex? i xs.length = some j ∧ xs[j]? = some v ∧ j < xs.length ∧ -(xs.length : Int) ≤ i ∧ i < xs.length := by
  unfold atI at h
  cases e : ixN xs.length i with
  | none => rw [e] at h; cases h
  | some j =>
    rw [e] at h
    obtain ⟨h1, h2, h3, h4⟩ := ixN_seq e
    exact ⟨j, h1, h, h2, h3, h4⟩
theorem atI_nat {α : Type} {xs : List α} {j : Nat} {v : α} (h : xs[j]? = some v) : atI xs (j : Int) = some v := by
  have hj : j < xs.length := (List.getElem?_eq_some_iff.mp h).1
  have e : ixN xs.length (j : Int) = some j := by
    unfold ixN
    rw [if_pos (by omega), if_pos (by omega)]; simp
  unfold atI; rw [e]; exact h
theorem atI_last {α : Type} (xs : List α) (v : α) : atI (xs ++ [v]) (-1) = some v := by
  have hl : (xs ++ [v]).length = xs.length + 1 := by simp
  have e : ixN (xs ++ [v]).length (-1) = some xs.length := by
    unfold ixN
    rw [hl, if_neg (by decide), if_pos (by omega)]
    congr 1
    omega
  unfold atI
  rw [e]
  show (xs ++ [v])[xs.length]? = some v
  simp

/-! ### what may be subscripted -/
/-- what stands as an index of a plain subscript -/
def PlainIx (b : Expr) : Prop := ∀ o i, subscripted b false o i = operate [o, i] (getItem o i)
/-- a subscript by values -/
def IxR (X : Cx) (r : R2) : Prop :=
  ∀ (value slice : Expr) (pins : List (Addr × Obj)) (s : Shared) (σ : St) (H : Hp) (x y : V) (v u : Value) (Q : VK), Inv X pins σ H s → RelV x v → RelV y u → r x y H Q →
    subscripted slice false v u = operate [v, u] (getItem v u) → wpAny (model X.prog X.w) X.A (subscriptTail value slice v u) (EP X pins σ Q) X.xe s
/-- a call of a builtin's method by values: the receiver, the arguments -/
def MtR (X : Cx) (id : String) (r : V → List V → Hp → VK → Prop) : Prop :=
  ∀ (pins : List (Addr × Obj)) (s : Shared) (σ : St) (H : Hp) (x : V) (xs : List V) (v : Value) (us : List Value) (Q : VK), Inv X pins σ H s → RelV x v → Vals xs us → r x xs H Q →
    wpAny (model X.prog X.w) X.A (call (.builtin id) (v :: us)) (EP X pins σ Q) X.xe s
section
variable {X : Cx} {a b : Expr} {ta tb : TE} {pos : Pos}
theorem IxR.or {r r' : R2} (h : IxR X r) (h' : IxR X r') : IxR X (fun x y H Q => r x y H Q ∨ r' x y H Q) := by
  intro value slice pins s σ H x y v u Q I rx ry q hs
  rcases q with q | q
  · exact h value slice pins s σ H x y v u Q I rx ry q hs
  · exact h' value slice pins s σ H x y v u Q I rx ry q hs
theorem MtR.or {id : String} {r r' : V → List V → Hp → VK → Prop} (h : MtR X id r) (h' : MtR X id r') : MtR X id (fun x xs H Q => r x xs H Q ∨ r' x xs H Q) := by
  intro pins s σ H x xs v us Q I rx rs q
  rcases q with q | q
  · exact h pins s σ H x xs v us Q I rx rs q
  · exact h' pins s σ H x xs v us Q I rx rs q
/-- a[b] -/
theorem pe_ix {r : R2} (hr : IxR X r) (ha : PE X a ta) (hb : PE X b tb) (hs : PlainIx b) : PE X (.Subscript a b pos) (tOp r ta tb) := by
  intro pins s σ H Q I h
  exact Subscript_ (binT ha hb I h fun v u s2 x y H2 I2 rx ry q => hr a b pins s2 σ H2 x y v u Q I2 rx ry q (hs _ _))

def rIxL (K : PySem.W.Frag) : R2 := fun x y H Q => ∃ p xs i v, x = .ref p ∧ y = .int i ∧ SqL K H p xs ∧ atI xs i = some v ∧ Q v H
def rIxT (K : PySem.W.Frag) : R2 := fun x y H Q => ∃ p xs i v, x = .ref p ∧ y = .int i ∧ SqT K H p xs ∧ atI xs i = some v ∧ Q v H
def rIxS : R2 := fun x y H Q => ∃ z i c, x = .str z ∧ y = .int i ∧ z.length ≤ sizeLine ∧ atI z.cps.toList i = some c ∧ Q (.str ⟨#[c]⟩) H
theorem ix_list : IxR X (rIxL X.K) := by
  intro value slice pins s σ H x y v u Q I rx ry h hs
  obtain ⟨p, xs, i, z, rfl, rfl, hq, he, q⟩ := h
  cases rx
  obtain ⟨t, rfl⟩ := ry
  obtain ⟨its, r, pl, hz⟩ := I.list hq
  obtain ⟨j, h1, h2, h3, h4, h5⟩ := atI_get he
  obtain ⟨w, ew, rw'⟩ := r.get h2
  have hl := r.length
  have hn := line63
  have fin : EP X pins σ Q w s := ⟨z, H, I, rw', q⟩
  by_cases h0 : 0 ≤ i
  · have hj : i.toNat = j := by
      rw [seqIndex_of h0 h5] at h1
      exact Option.some.inj h1
    exact item_listR pl.isList h0 (by omega) (by rw [hj]; simpa using ew) fin hs
  · have hj : (i + (its.toArray.size : Int)).toNat = j := by
      rw [seqIndex_neg (by omega) h4] at h1
      rw [List.size_toArray, ← hl]
      exact Option.some.inj h1
    exact subscriptTail_builtinR (x := w) pl.isList.typeIs slot_list_getitem.lookup
      (wpAny_getItem_list_neg (Q := fun r s' => r = w ∧ EP X pins σ Q r s') pl.isList (by omega) (by rw [List.size_toArray] <;> omega) (by omega) (by rw [hj]; simpa using ew) ⟨rfl, fin⟩) hs
theorem ix_tup : IxR X (rIxT X.K) := by
  intro value slice pins s σ H x y v u Q I rx ry h hs
  obtain ⟨p, xs, i, z, rfl, rfl, hq, he, q⟩ := h
  cases rx
  obtain ⟨t, rfl⟩ := ry
  obtain ⟨its, r, pl, hz⟩ := I.tuple hq
  obtain ⟨j, h1, h2, h3, h4, h5⟩ := atI_get he
  obtain ⟨w, ew, rw'⟩ := r.get h2
  have hl := r.length
  have hn := line63
  have fin : EP X pins σ Q w s := ⟨z, H, I, rw', q⟩
  exact subscriptTail_builtinR (x := w) pl.typeIs slot_tuple_getitem.lookup
    (getItem_tuple (j := j) (Q := fun r s' => r = w ∧ EP X pins σ Q r s') pl (by omega) (by omega) (by rw [List.size_toArray, ← hl]; exact h1) (by simpa using ew) ⟨rfl, fin⟩) hs
theorem ix_str : IxR X rIxS := by
  intro value slice pins s σ H x y v u Q I rx ry h hs
  obtain ⟨z, i, c, rfl, rfl, hz, he, q⟩ := h
  obtain ⟨t, rfl⟩ := rx
  obtain ⟨t', rfl⟩ := ry
  obtain ⟨j, h1, h2, h3, h4, h5⟩ := atI_get he
  have hl : z.cps.toList.length = z.length := by simp [Str.length]
  rw [hl] at h1 h4 h5
  have hn := line63
  exact tail_any (typeIs_str s z t) slot_str_getitem.lookup (getItem_str (c := c) (by
    have e1 : decide (i < -(2 ^ 63 : Int)) = false := decide_eq_false (by omega)
    have e2 : decide (i ≥ 2 ^ 63) = false := decide_eq_false (by omega)
    rw [e1, e2, Bool.or_false]) (by rw [h1]; simpa using h2) ⟨.str ⟨#[c]⟩, H, I.tok _, ⟨_, rfl⟩, q⟩) hs
/-- list, tuple or str -/
def rIx (K : PySem.W.Frag) : R2 := fun x y H Q => rIxL K x y H Q ∨ rIxT K x y H Q ∨ rIxS x y H Q
theorem ix_seq : IxR X (rIx X.K) := ix_list.or (ix_tup.or ix_str)

/-! ### xs[i] = v, any sign -/
/-- the list's object behind a store -/
theorem mapSeq_set (its : List Value) (n j : Nat) (u : Value) : Obj.mapSeq (·.setIfInBounds j u) { cls := .type "list", data := .seq its.toArray n } = { cls := .type "list", data := .seq (its.set j u).toArray n } := by
  simp [Obj.mapSeq]
theorem Inv.lst {pins : List (Addr × Obj)} {σ : St} {H : Hp} {s : Shared} {p : Addr} {xs : List V} (I : Inv X pins σ H s) (h : H p = some (.lst xs)) :
    ∃ (its : List Value) (n : Nat), Vals xs its ∧ s.heap.get? p = some { cls := .type "list", data := .seq its.toArray n } ∧ xs.length ≤ sizeLine := by
  obtain ⟨z, its, n, r, e⟩ := I.hok p _ h
  exact ⟨its, n, r, e, z⟩
/-- the list at p is written by an update of its object -/
theorem Inv.lstUpd {pins : List (Addr × Obj)} {σ : St} {H : Hp} {s : Shared} {p : Addr} {xs ys : List V} {its its' : List Value} {n n' : Nat} {f : Obj → Obj} (I : Inv X pins σ H s) (h : H p = some (.lst xs))
    (ho : s.heap.get? p = some { cls := .type "list", data := .seq its.toArray n }) (hf : f { cls := .type "list", data := .seq its.toArray n } = { cls := .type "list", data := .seq its'.toArray n' }) (r : Vals ys its') (hz : ys.length ≤ sizeLine) (t : Nat) :
    Inv X pins σ (upd H p (.lst ys)) { s with heap := s.heap.update p f, toks := t } := by
  have e : (s.heap.update p f).get? p = some { cls := .type "list", data := .seq its'.toArray n' } := by
    rw [Heap.get?_update_self f ho (by rw [hf] <;> rfl), hf]
  refine I.write (x := p) (e := p) (by rw [h]; trivial) (.inl rfl) (fun b u hb q => (Heap.get?_update_other _ _ (Ne.symm hb)).trans q) ⟨_, e⟩ ?_
  exact ⟨hz, its', n', r, e⟩
def rSetL : V → V → V → Hp → (Hp → Prop) → Prop := fun o i v H Q => ∃ p xs k j, o = .ref p ∧ i = .int k ∧ H p = some (.lst xs) ∧ ixN xs.length k = some j ∧ Q (upd H p (.lst (xs.set j v)))
theorem set_list : PSet X rSetL := by
  intro pins s σ H o i v ov iv u Q I ro ri rv h
  obtain ⟨p, xs, k, j, rfl, rfl, hp, hj, q⟩ := h
  cases ro
  obtain ⟨t, rfl⟩ := ri
  obtain ⟨its, n, r, ho, hz⟩ := I.lst hp
  obtain ⟨h1, h2, h3, h4⟩ := ixN_seq hj
  have hl := r.length
  have hn := line63
  have I' : Inv X pins σ (upd H p (.lst (xs.set j v))) { s with heap := s.heap.update p (Obj.mapSeq (·.setIfInBounds j u)) } :=
    I.lstUpd hp ho (mapSeq_set its n j u) (r.set rv j) (by rw [List.length_set]; exact hz) s.toks
  by_cases h0 : 0 ≤ k
  · have hk : k.toNat = j := by
      rw [seqIndex_of h0 h4] at h1
      exact Option.some.inj h1
    exact PySem.W.ki_setAt ho h0 (by omega) (by rw [List.size_toArray, ← hl]; exact h4) (by rw [hk]; exact ⟨_, I', q⟩)
  · have hk : (k + (its.toArray.size : Int)).toNat = j := by
      rw [seqIndex_neg (by omega) h3] at h1
      rw [List.size_toArray, ← hl]
      exact Option.some.inj h1
    exact PySem.W.ki_setBack ho (by omega) (by rw [List.size_toArray, ← hl]; exact h3) (by omega) (by rw [hk]; exact ⟨_, I', q⟩)

/-! ### slices -/
theorem slice_bounds (lo hi : Option Int) (n : Nat) : (sliceBounds lo hi none n).1 = ((HT.sIx n 0 lo : Nat) : Int) ∧ (sliceBounds lo hi none n).2.1 = ((HT.sIx n n hi : Nat) : Int) ∧ (sliceBounds lo hi none n).2.2 = 1 := by
  refine ⟨?_, ?_, rfl⟩
  · cases lo with
    | none => simp [sliceBounds, HT.sIx]
    | some i =>
      simp only [sliceBounds, HT.sIx, Option.getD_none, show (1 : Int) > 0 by decide, if_true]
      by_cases h : i < 0
      · simp only [h, if_true] <;> omega
      · simp only [h, if_false] <;> omega
  · cases hi with
    | none => simp [sliceBounds, HT.sIx]
    | some i =>
      simp only [sliceBounds, HT.sIx, Option.getD_none, show (1 : Int) > 0 by decide, if_true]
      by_cases h : i < 0
      · simp only [h, if_true] <;> omega
      · simp only [h, if_false] <;> omega
theorem slicePick_cut (its : List Value) (lo hi : Option Int) : slicePick its.toArray lo hi none = ((its.drop (HT.sIx its.length 0 lo)).take (HT.sIx its.length its.length hi - HT.sIx its.length 0 lo)).toArray := by
  obtain ⟨h1, h2, h3⟩ := slice_bounds lo hi its.toArray.size
  unfold slicePick
  rw [h1, h2, h3]
  simp only [sliceRange_one, pick_run, List.size_toArray] <;> rfl
/-- xs[lo:hi] of a list: a new list -/
def rSlL (K : PySem.W.Frag) : V → Option Int → Option Int → Hp → VK → Prop := fun x lo hi H Q => ∃ a xs, x = .ref a ∧ SqL K H a xs ∧ ∀ p, H p = none → Q (.ref p) (upd H p (.lst (cutV xs lo hi)))
theorem sl_list : SlR X (rSlL X.K) := by
  intro pins s σ H x v vl vu lo hi sl Q I rx hs pl pu h
  obtain ⟨a, xs, rfl, hx, q⟩ := h
  cases rx
  obtain ⟨its, r, ht, hz⟩ := I.list hx
  have hlen := r.length
  refine ⟨"list", _, slot_list_getitem.lookup, ht.isList.typeIs, ?_⟩
  refine wpAny_getItem_list_slice ht.isList hs pl pu .none (by simp) ?_ (by rw [List.size_toArray] <;> omega)
  rw [slicePick_cut, ← hlen]
  refine ⟨.ref s.heap.objs.size, _, I.laid (t' := s.toks) (o := .lst (cutV xs lo hi)) (fun b ob q => Heap.get?_push_of_some _ q) (Nat.le_refl _) ?_, rfl, q _ (I.hok.fresh (Nat.le_refl _))⟩
  exact ⟨Nat.le_trans (cutV_length xs lo hi) hz, _, 0, (r.drop (HT.sIx xs.length 0 lo)).take (HT.sIx xs.length xs.length hi - HT.sIx xs.length 0 lo), Heap.get?_push_size _ rfl⟩

/-! ### in, not in: flat items -/
def flatV : V → Bool
  | .non => true
  | .bl _ => true
  | .int _ => true
  | .str _ => true
  | _ => false
/-- == of flat values -/
def eqV : V → V → Bool
  | .non, .non => true
  | .bl a, .bl b => a == b
  | .bl a, .int b => (if a then 1 else 0) == b
  | .int a, .bl b => a == (if b then 1 else 0)
  | .int a, .int b => a == b
  | .str a, .str b => a == b
  | _, _ => false
theorem eqAt_V {A : Around} {s : Shared} {y x : V} {u v : Value} (ry : RelV y u) (rx : RelV x v) (fy : flatV y = true) (fx : flatV x = true) : SeqAt.EqAt A s u v (eqV y x) := by
  cases y with
  | non =>
    cases ry
    cases x with
    | non => cases rx; exact SeqAt.EqAt.same _
    | bl b => cases rx; exact SeqAt.EqAt.none_bool b
    | int b => obtain ⟨t, rfl⟩ := rx; exact SeqAt.EqAt.none_int b t
    | str b => obtain ⟨t, rfl⟩ := rx; exact SeqAt.EqAt.none_str b t
    | _ => exact absurd (show false = true from fx) Bool.false_ne_true
  | bl a =>
    cases ry
    cases x with
    | non => cases rx; exact SeqAt.EqAt.bool_none a
    | bl b => cases rx; exact SeqAt.EqAt.bool_bool a b
    | int b => obtain ⟨t, rfl⟩ := rx; exact SeqAt.EqAt.bool_int a b t
    | str b => obtain ⟨t, rfl⟩ := rx; exact SeqAt.EqAt.bool_str a b t
    | _ => exact absurd (show false = true from fx) Bool.false_ne_true
  | int a =>
    obtain ⟨t', rfl⟩ := ry
    cases x with
    | non => cases rx; exact SeqAt.EqAt.int_none a t'
    | bl b => cases rx; exact SeqAt.EqAt.int_bool a t' b
    | int b => obtain ⟨t, rfl⟩ := rx; exact SeqAt.EqAt.int_int a t' b t
    | str b => obtain ⟨t, rfl⟩ := rx; exact SeqAt.EqAt.int_str a t' b t
    | _ => exact absurd (show false = true from fx) Bool.false_ne_true
  | str a =>
    obtain ⟨t', rfl⟩ := ry
    cases x with
    | non => cases rx; exact SeqAt.EqAt.str_none a t'
    | bl b => cases rx; exact SeqAt.EqAt.str_bool a t' b
    | int b => obtain ⟨t, rfl⟩ := rx; exact SeqAt.EqAt.str_int a t' b t
    | str b => obtain ⟨t, rfl⟩ := rx; exact SeqAt.EqAt.str_str a t' b t
    | _ => exact absurd (show false = true from fx) Bool.false_ne_true
  | _ => exact absurd (show false = true from fy) Bool.false_ne_true
/-- the items' answers, read off the values (a value's own answer does not lean on its token) -/
def eqU (x : V) (u : Value) : Bool := match u with
  | .none => eqV .non x
  | .bool b => eqV (.bl b) x
  | .int i _ => eqV (.int i) x
  | .str z _ => eqV (.str z) x
  | _ => false
theorem eqU_of {x y : V} {u : Value} (r : RelV y u) (f : flatV y = true) : eqU x u = eqV y x := by
  cases y with
  | non => cases r; rfl
  | bl b => cases r; rfl
  | int i => obtain ⟨t, rfl⟩ := r; rfl
  | str z => obtain ⟨t, rfl⟩ := r; rfl
  | _ => exact absurd (show false = true from f) Bool.false_ne_true
theorem any_eqU {x : V} : ∀ {xs : List V} {us : List Value}, Vals xs us → xs.all flatV = true → us.any (eqU x) = xs.any fun y => eqV y x
  | _, _, .nil, _ => rfl
  | y :: xs, u :: us, .cons r t, f => by
    rw [List.all_cons, Bool.and_eq_true] at f
    rw [List.any_cons, List.any_cons, eqU_of r f.1, any_eqU t f.2]
theorem mem_eqAt {A : Around} {s : Shared} {x : V} {v : Value} (rx : RelV x v) (fx : flatV x = true) : ∀ {xs : List V} {us : List Value}, Vals xs us → xs.all flatV = true → ∀ u ∈ us, SeqAt.EqAt A s u v (eqU x u)
  | _, _, .nil, _ => fun u hu => by cases hu
  | y :: xs, u :: us, .cons r t, f => fun u' hu => by
    rw [List.all_cons, Bool.and_eq_true] at f
    rcases List.mem_cons.mp hu with rfl | hu
    · rw [eqU_of r f.1]; exact eqAt_V r rx f.1 fx
    · exact mem_eqAt rx fx t f.2 u' hu
def inV (x : V) (xs : List V) : Bool := xs.any fun y => eqV y x
/-- x in a list or tuple of flat items -/
def rIn (K : PySem.W.Frag) (neg : Bool) : R2 := fun x y H Q => ∃ p xs, y = .ref p ∧ (SqL K H p xs ∨ SqT K H p xs) ∧ flatV x = true ∧ xs.all flatV = true ∧ Q (.bl (if neg then !inV x xs else inV x xs)) H
theorem op_in_seq : OpR X (compareOp .In) (rIn X.K false) := by
  intro pins s σ H x y v u Q I rx ry h
  obtain ⟨p, xs, rfl, hq, fx, fs, q⟩ := h
  cases ry
  rcases hq with hq | hq
  · obtain ⟨its, r, pl, hz⟩ := I.list hq
    refine SeqAt.in_listAt (eqU x) pl.isList (fun w hw => mem_eqAt rx fx r fs w (by simpa using hw)) ⟨.bl _, H, I, rfl, ?_⟩
    rw [show its.toArray.any (eqU x) = its.any (eqU x) by simp, any_eqU r fs]
    exact q
  · obtain ⟨its, r, pl, hz⟩ := I.tuple hq
    refine SeqAt.in_tupleAt (eqU x) pl (fun w hw => mem_eqAt rx fx r fs w (by simpa using hw)) ⟨.bl _, H, I, rfl, ?_⟩
    rw [show its.toArray.any (eqU x) = its.any (eqU x) by simp, any_eqU r fs]
    exact q
theorem op_notIn_seq : OpR X (compareOp .NotIn) (rIn X.K true) := by
  intro pins s σ H x y v u Q I rx ry h
  obtain ⟨p, xs, rfl, hq, fx, fs, q⟩ := h
  cases ry
  rcases hq with hq | hq
  · obtain ⟨its, r, pl, hz⟩ := I.list hq
    refine SeqAt.notIn_listAt (eqU x) pl.isList (fun w hw => mem_eqAt rx fx r fs w (by simpa using hw)) ⟨.bl _, H, I, rfl, ?_⟩
    rw [show its.toArray.any (eqU x) = its.any (eqU x) by simp, any_eqU r fs]
    exact q
  · obtain ⟨its, r, pl, hz⟩ := I.tuple hq
    refine SeqAt.notIn_tupleAt (eqU x) pl (fun w hw => mem_eqAt rx fx r fs w (by simpa using hw)) ⟨.bl _, H, I, rfl, ?_⟩
    rw [show its.toArray.any (eqU x) = its.any (eqU x) by simp, any_eqU r fs]
    exact q
theorem op_notIn_str : OpR X (compareOp .NotIn) (fun x y H Q => ∃ i j, x = .str i ∧ y = .str j ∧ Q (.bl (!(!(Builtin.Str.occurrences j i 0 j.length 1).isEmpty))) H) := by
  intro pins s σ H x y v u Q I rx ry h
  obtain ⟨i, j, rfl, rfl, q⟩ := h
  obtain ⟨t, rfl⟩ := rx
  obtain ⟨t', rfl⟩ := ry
  exact notIn_str ⟨.bl _, H, I, rfl, q⟩

/-! ### len, list(x), tuple(x) of any list or tuple that is read -/
theorem call_len_seq : CallR X (.builtin "len") (fun xs H Q => ∃ p ys, xs = [.ref p] ∧ (SqL X.K H p ys ∨ SqT X.K H p ys) ∧ Q (.int ys.length) H) := by
  intro pins s σ H xs us Q I r h
  obtain ⟨p, ys, rfl, hq, q⟩ := h
  obtain ⟨u, rfl, rx⟩ := vals1 r
  cases rx
  have hn := line63
  rcases hq with hq | hq
  · obtain ⟨its, r', pl, hz⟩ := I.list hq
    have hlen := r'.length
    exact Calls.call_len_list pl.isList (by simp only [List.size_toArray] <;> omega) ⟨.int ys.length, H, I.tok _, ⟨s.toks + 1, by rw [List.size_toArray, hlen]⟩, q⟩
  · obtain ⟨its, r', pl, hz⟩ := I.tuple hq
    have hlen := r'.length
    exact len_tuple pl (by simp only [List.size_toArray] <;> omega) ⟨.int ys.length, H, I.tok _, ⟨s.toks + 1, by rw [List.size_toArray, hlen]⟩, q⟩
theorem call_len_str : CallR X (.builtin "len") (fun xs H Q => ∃ z, xs = [.str z] ∧ z.length ≤ sizeLine ∧ Q (.int z.length) H) := by
  intro pins s σ H xs us Q I r h
  obtain ⟨z, rfl, hz, q⟩ := h
  obtain ⟨u, rfl, t, rfl⟩ := vals1 r
  have hn := line63
  exact len_str (by omega) ⟨.int z.length, H, I.tok _, ⟨_, rfl⟩, q⟩
theorem CallR.or {f : Value} {r r' : List V → Hp → VK → Prop} (h : CallR X f r) (h' : CallR X f r') : CallR X f (fun xs H Q => r xs H Q ∨ r' xs H Q) := by
  intro pins s σ H xs us Q I rs q
  rcases q with q | q
  · exact h pins s σ H xs us Q I rs q
  · exact h' pins s σ H xs us Q I rs q
theorem call_list_of : CallR X (.type "list") (fun xs H Q => ∃ p ys, xs = [.ref p] ∧ (SqL X.K H p ys ∨ SqT X.K H p ys) ∧ ∀ l, H l = none → Q (.ref l) (upd H l (.lst ys))) := by
  intro pins s σ H xs us Q I r h
  obtain ⟨p, ys, rfl, hq, q⟩ := h
  obtain ⟨u, rfl, rx⟩ := vals1 r
  cases rx
  have fin : ∀ (its : List Value), Vals ys its → ys.length ≤ sizeLine → ∀ (h' : Heap) (c' : Nat), (∀ b o', s.heap.get? b = some o' → h'.get? b = some o') →
      h'.get? s.heap.objs.size = some { cls := .type "list", dict := none, data := .seq its.toArray c', slots := #[] } → EP X pins σ Q (.ref s.heap.objs.size) { s with heap := h' } := fun its r' hz h' c' kp e =>
    ⟨.ref s.heap.objs.size, _, I.laid (t' := s.toks) kp (Nat.le_refl _) (show ObjOk X.prog X.w _ h' _ (.lst ys) from ⟨hz, its, c', r', e⟩), rfl, q _ (I.hok.fresh (Nat.le_refl _))⟩
  rcases hq with hq | hq
  · obtain ⟨its, r', pl, hz⟩ := I.list hq
    have hlen := r'.length
    obtain ⟨o, ho, hc, n, hd⟩ := pl.isList
    exact call_list_seq p (.inl rfl) ho hc hd (fun h' c' kp e => fin its r' hz h' c' kp e) (by simp only [List.size_toArray] <;> omega)
  · obtain ⟨its, r', pl, hz⟩ := I.tuple hq
    have hlen := r'.length
    obtain ⟨o, ho, hc, n, hd⟩ := pl
    exact call_list_seq p (.inr rfl) ho hc hd (fun h' c' kp e => fin its r' hz h' c' kp e) (by simp only [List.size_toArray] <;> omega)
theorem call_tuple_of : CallR X (.type "tuple") (fun xs H Q => ∃ p ys, xs = [.ref p] ∧ ((SqL X.K H p ys ∧ ∀ l, H l = none → Q (.ref l) (upd H l (.tup ys))) ∨ (SqT X.K H p ys ∧ Q (.ref p) H))) := by
  intro pins s σ H xs us Q I r h
  obtain ⟨p, ys, rfl, h⟩ := h
  obtain ⟨u, rfl, rx⟩ := vals1 r
  cases rx
  rcases h with ⟨hq, q⟩ | ⟨hq, q⟩
  · obtain ⟨its, r', pl, hz⟩ := I.list hq
    have hlen := r'.length
    refine call_tuple_list pl.isList (fun h' kp => ?_) (by simp only [List.size_toArray] <;> omega)
    have I1 : Inv X pins σ H { s with heap := h' } := I.kept (t' := s.toks) kp
    have I2 : Inv X pins σ (upd H h'.objs.size (.tup ys)) { s with heap := h'.push { cls := .type "tuple", data := .seq its.toArray } } :=
      I1.laid (t' := s.toks) (fun b o e => Heap.get?_push_of_some _ e) (Nat.le_refl _) (show ObjOk X.prog X.w _ _ _ (.tup ys) from ⟨hz, its, r', IsTup.new _ _⟩)
    exact ⟨.ref h'.objs.size, _, I2, rfl, q _ (I1.hok.fresh (Nat.le_refl _))⟩
  · obtain ⟨its, r', pl, hz⟩ := I.tuple hq
    exact call_tuple_same pl ⟨.ref p, H, I, rfl, q⟩

/-! ### the call of a builtin's method: o.m(..) -/
/-- the value is of that builtin type -/
def tyV (K : PySem.W.Frag) (T : String) (x : V) (H : Hp) : Prop := match x with
  | .str _ => T = "str"
  | .int _ => T = "int"
  | .ref p => (T = "list" ∧ ∃ xs, SqL K H p xs) ∨ (T = "tuple" ∧ ∃ o, K.lookup p = some o ∧ o.cls = .type "tuple" ∧ o.dict = none) ∨
      (T = "dict" ∧ ((∃ kvs, H p = some (.dK kvs)) ∨ ∃ kvs, H p = some (.dT kvs))) ∨ (T = "set" ∧ ∃ S n, H p = some (.set S n))
  | _ => False
theorem tyV_is {pins : List (Addr × Obj)} {σ : St} {H : Hp} {s : Shared} {T : String} {x : V} {v : Value} (I : Inv X pins σ H s) (r : RelV x v) (ty : tyV X.K T x H) :
    s.TypeIs v T ∧ ∀ a, v = .ref a → ∃ ob, s.heap.get? a = some ob ∧ ob.dict = none := by
  cases x with
  | str z =>
    obtain ⟨t, rfl⟩ := r
    cases (show T = "str" from ty)
    exact ⟨typeIs_str s z t, fun _ e => nomatch e⟩
  | int i =>
    obtain ⟨t, rfl⟩ := r
    cases (show T = "int" from ty)
    exact ⟨typeIs_int s i t, fun _ e => nomatch e⟩
  | ref p =>
    cases r
    rcases ty with ⟨rfl, xs, hq⟩ | ⟨rfl, o, hk, hc, hd⟩ | ⟨rfl, hk⟩ | ⟨rfl, S, n, hk⟩
    · obtain ⟨its, _, pl, _⟩ := I.list hq
      refine ⟨pl.isList.typeIs, fun a e => ?_⟩
      cases e
      obtain ⟨o, n, e, c, hd, _⟩ := pl
      exact ⟨o, e, hd⟩
    · refine ⟨⟨o, I.kIn p o hk, hc⟩, fun a e => ?_⟩
      cases e
      exact ⟨o, I.kIn _ o hk, hd⟩
    · have z : ∃ o, s.heap.get? p = some o ∧ o.ExactDict := by
        rcases hk with ⟨kvs, hk⟩ | ⟨kvs, hk⟩
        · obtain ⟨_, _, _, _, o, _, _, e, ex, _⟩ := I.hok p _ hk
          exact ⟨o, e, ex⟩
        · obtain ⟨_, _, _, _, o, _, _, e, ex, _⟩ := I.hok p _ hk
          exact ⟨o, e, ex⟩
      obtain ⟨o, e, ex⟩ := z
      refine ⟨⟨o, e, ex.1⟩, fun a e2 => ?_⟩
      cases e2
      exact ⟨o, e, ex.2.1⟩
    · obtain ⟨o, _, _, _, e, ex, _⟩ := I.hok p _ hk
      refine ⟨⟨o, e, ex.1⟩, fun a e2 => ?_⟩
      cases e2
      exact ⟨o, e, ex.2.1⟩
  | _ => exact False.elim ty
def tBM0 (K : PySem.W.Frag) (T : String) (r : V → List V → Hp → VK → Prop) (to : TE) : TE := fun σ H Q => to σ H fun x H1 => tyV K T x H1 ∧ r x [] H1 Q
def tBM (K : PySem.W.Frag) (T : String) (r : V → List V → Hp → VK → Prop) (to : TE) (t : TA) : TE := fun σ H Q => to σ H fun x H1 => tyV K T x H1 ∧ t σ H1 fun xs H2 => r x xs H2 Q
variable {o e : Expr} {es : List Expr} {to : TE} {t : TA} {name : Str} {apos cpos : Pos} {T id : String} {r : V → List V → Hp → VK → Prop}
theorem pe_bm0 (pa : PlainAttrs T) (slot : Slot T name id) (hty : typeOf (.builtin id) = pure (.type "method_descriptor")) (hm : MtR X id r) (ho : PE X o to)
    (hbase : attributeBase o name X.env (eval o X.env) = eval o X.env := by rfl) (hline : (apos.endLine == cpos.line) = true := by rfl) : PE X (.Call (.Attribute o name apos) [] [] cpos) (tBM0 X.K T r to) := by
  intro pins s σ H Q I h
  refine wpAny_Call_method0_late hbase hline (thn (ho pins s σ H _ I h) fun v s1 ⟨x, H1, I1, r1, ty, q1⟩ => ?_)
  obtain ⟨h1, h2⟩ := tyV_is I1 r1 ty
  exact ⟨T, id, pa, slot, hty, h1, h2, Calls.callWith_builtin rfl (PySem.evalArgs_none (hm pins s1 σ H1 x [] v [] Q I1 r1 .nil q1))⟩
theorem pe_bm (pa : PlainAttrs T) (slot : Slot T name id) (hty : typeOf (.builtin id) = pure (.type "method_descriptor")) (hm : MtR X id r) (ho : PE X o to) (ha : PA X (e :: es) t)
    (hbase : attributeBase o name X.env (eval o X.env) = eval o X.env := by rfl)
    (hfew : ((backTo cpos (starEach (e :: es) X.env)).all (fun x => !x.1) && (backToKw cpos (keywordEach [] X.env)).all (fun x => x.1.isSome)
      && decide ((e :: es).length + ([] : List Keyword).length + (if ([] : List Keyword).isEmpty then 0 else 1) < 30)) = true := by rfl)
    (hline : (apos.endLine == cpos.line) = true := by rfl) (hs : starEach (e :: es) X.env = (false, eval e X.env) :: starEach es X.env := by rfl) (hplain : (backTo cpos (starEach es X.env)).any (·.1) = false := by rfl) :
    PE X (.Call (.Attribute o name apos) (e :: es) [] cpos) (tBM X.K T r to t) := by
  intro pins s σ H Q I h
  refine wpAny_Call_method_late hbase hfew hline rfl (thn (ho pins s σ H _ I h) fun v s1 ⟨x, H1, I1, r1, ty, q1⟩ => ?_)
  obtain ⟨h1, h2⟩ := tyV_is I1 r1 ty
  refine ⟨T, id, pa, slot, hty, h1, h2, ?_⟩
  have hA := ha cpos pins s1 σ H1 _ I1 q1
  rw [hs] at hA ⊢
  refine Calls.callWith_builtin (by show (false || (backTo cpos (starEach es X.env)).any (·.1)) = false; rw [hplain] <;> rfl) (Calls.evalArgs_plain ?_)
  exact thn hA fun us s2 ⟨vs, H2, I2, r2, q2⟩ => hm pins s2 σ H2 x vs v us Q I2 r1 r2 q2
/- xs.append(e), list.index on a module's tuple .. are MtR facts of 06m -/
end
end L2

namespace L2
open PySem PySem.Spec PyProof.Rows

def MtM (X : Cx) (id : String) (r : V → List V → Hp → VK → Prop) : Prop :=
  ∀ (pins : List (Addr × Obj)) (s : Shared) (σ : St) (H : Hp) (x : V) (xs : List V) (v : Value) (us : List Value) (Q : VK), Inv X pins σ H s → RelV x v → Vals xs us → r x xs H Q →
    wpAny (model X.prog X.w) X.A (call (.builtin id) (v :: us)) (EP X pins σ Q) X.xe s

/-! ### lists of values -/
theorem Vals.one : ∀ {x : V} {us : List Value}, Vals [x] us → ∃ u, us = [u] ∧ RelV x u
  | _, _, .cons r .nil => ⟨_, rfl, r⟩
theorem Vals.two : ∀ {x y : V} {us : List Value}, Vals [x, y] us → ∃ u v, us = [u, v] ∧ RelV x u ∧ RelV y v
  | _, _, _, .cons r (.cons q .nil) => ⟨_, _, rfl, r, q⟩
theorem Vals.zero : ∀ {us : List Value}, Vals [] us → us = []
  | _, .nil => rfl
theorem Vals.dropLast {xs : List V} {us : List Value} (h : Vals xs us) : Vals xs.dropLast us.dropLast := by
  induction h with
  | nil => exact .nil
  | cons r t ih =>
    cases t with
    | nil => exact .nil
    | cons q t' => exact .cons r ih
theorem Vals.eraseIdx : ∀ {xs : List V} {us : List Value} (i : Nat), Vals xs us → Vals (xs.eraseIdx i) (us.eraseIdx i)
  | _, _, _, .nil => .nil
  | _, _, 0, .cons _ t => t
  | _, _, i + 1, .cons r t => .cons r (Vals.eraseIdx i t)
theorem Vals.reverse {xs : List V} {us : List Value} (h : Vals xs us) : Vals xs.reverse us.reverse := by
  induction h with
  | nil => exact .nil
  | cons r t ih => rw [List.reverse_cons, List.reverse_cons]; exact Vals.append ih (.cons r .nil)
theorem Vals.rep {xs : List V} {us : List Value} (h : Vals xs us) : ∀ k : Nat, Vals (List.replicate k xs).flatten (List.replicate k us).flatten
  | 0 => .nil
  | k + 1 => by
    rw [List.replicate_succ, List.replicate_succ, List.flatten_cons, List.flatten_cons]
    exact Vals.append h (Vals.rep h k)
theorem erase_last {α : Type} (l : List α) : l.eraseIdx (l.length - 1) = l.dropLast := by
  induction l with
  | nil => rfl
  | cons a r ih =>
    cases r with
    | nil => rfl
    | cons b r =>
      have e : (a :: b :: r).length - 1 = ((b :: r).length - 1) + 1 := by
        have h1 : (a :: b :: r).length = r.length + 2 := rfl
        have h2 : (b :: r).length = r.length + 1 := rfl
        omega
      rw [e, List.eraseIdx_cons_succ, ih]
      all_goals rfl
theorem len_erase {α : Type} : ∀ (l : List α) (i : Nat), (l.eraseIdx i).length ≤ l.length
  | [], _ => Nat.le_refl _
  | _ :: _, 0 => Nat.le_succ _
  | _ :: r, i + 1 => Nat.succ_le_succ (len_erase r i)
theorem foldl_rep (its : List Value) : ∀ (k : Nat) (acc : List Value),
    List.foldl (fun x1 x2 => x1 ++ x2) acc.toArray (List.replicate k its.toArray) = (acc ++ (List.replicate k its).flatten).toArray
  | 0, acc => by simp
  | k + 1, acc => by
    have e : acc.toArray ++ its.toArray = (acc ++ its).toArray := by simp
    have e2 : (acc ++ its) ++ (List.replicate k its).flatten = acc ++ (List.replicate (k + 1) its).flatten := by
      rw [List.replicate_succ, List.flatten_cons, List.append_assoc]
    rw [← e2, ← foldl_rep its k (acc ++ its), ← e, List.replicate_succ, List.foldl_cons]

section
variable {X : Cx} {pins : List (Addr × Obj)} {σ : St} {H : Hp} {s : Shared} {l b : Addr} {xs ys zs : List V}

/-! ### the two steps: a tracked list is rewritten, a new list is laid -/
theorem Inv.lset {its its' : List Value} {n : Nat} {f : Array Value → Array Value} {t' : Nat} (I : Inv X pins σ H s) (hH : H l = some (.lst xs))
    (e : s.heap.get? l = some { cls := .type "list", data := .seq its.toArray n }) (hf : f its.toArray = its'.toArray) (hv : Vals ys its') (hz : ys.length ≤ sizeLine) :
    Inv X pins σ (upd H l (.lst ys)) { s with heap := s.heap.update l (Obj.mapSeq f), toks := t' } := by
  have q := PySem.IsL.update e f
  rw [hf] at q
  refine I.write (x := l) (e := l) (by rw [hH]; exact trivial) (.inl rfl) (fun b' u hb hu => (Heap.get?_update_other s.heap (Obj.mapSeq f) (Ne.symm hb)).trans hu) ⟨_, q⟩ ?_
  exact ⟨hz, its', _, hv, q⟩
theorem Inv.lnew {its : List Value} {t' : Nat} (I : Inv X pins σ H s) (hv : Vals ys its) (hz : ys.length ≤ sizeLine) :
    Inv X pins σ (upd H s.heap.objs.size (.lst ys)) { s with heap := s.heap.push { cls := .type "list", data := .seq its.toArray }, toks := t' } :=
  I.laid (fun _ _ q => Heap.get?_push_of_some _ q) (Nat.le_refl _) ⟨hz, its, 0, hv, Heap.get?_push_size _ rfl⟩
theorem Inv.fresh (I : Inv X pins σ H s) : H s.heap.objs.size = none := I.hok.fresh (Nat.le_refl _)
theorem Inv.lstM (I : Inv X pins σ H s) (hH : H l = some (.lst xs)) : xs.length ≤ sizeLine ∧ ∃ (its : List Value) (n : Nat), Vals xs its ∧ xs.length = its.length ∧ s.heap.get? l = some { cls := .type "list", data := .seq its.toArray n } := by
  obtain ⟨z, its, n, r, e⟩ := I.hok l _ hH
  exact ⟨z, its, n, r, r.length, e⟩

theorem notLongL {n : Nat} (h : n ≤ sizeLine) : Builtin.List.listTooLong n = false := by
  unfold Builtin.List.listTooLong
  exact decide_eq_false (by omega)
end

section
variable {X : Cx}

/-! ### methods -/
def rAppend : V → List V → Hp → VK → Prop := fun x vs H Q => ∃ l xs y, x = .ref l ∧ vs = [y] ∧ H l = some (.lst xs) ∧ xs.length < sizeLine ∧ Q .non (upd H l (.lst (xs ++ [y])))
theorem mt_append : MtM X "list.append" rAppend := by
  intro pins s σ H x vs v us Q I rx rv h
  obtain ⟨l, xs, y, rfl, rfl, hH, hz, q⟩ := h
  cases rx
  obtain ⟨u, rfl, ru⟩ := rv.one
  obtain ⟨z, its, n, r, hl, e⟩ := I.lstM hH
  refine call_meets F.slot_list_append ⟨_, e, rfl⟩ F.entry_list_append (F.args_list_append_2 _ _) (PySem.list_append l its.toArray n u (by rw [List.size_toArray]; omega)) ⟨e, ?_⟩
  refine ⟨.non, _, I.lset (its' := its ++ [u]) hH e (by simp) (r.append (.cons ru .nil)) ?_, rfl, q⟩
  rw [List.length_append, List.length_singleton]
  omega

def rExtend : V → List V → Hp → VK → Prop := fun x vs H Q => ∃ l b xs zs, x = .ref l ∧ vs = [.ref b] ∧ H l = some (.lst xs) ∧ H b = some (.lst zs) ∧ xs.length + zs.length ≤ sizeLine ∧ Q .non (upd H l (.lst (xs ++ zs)))
theorem mt_extend : MtM X "list.extend" rExtend := by
  intro pins s σ H x vs v us Q I rx rv h
  obtain ⟨l, b, xs, zs, rfl, rfl, hH, hB, hz, q⟩ := h
  cases rx
  obtain ⟨u, rfl, ru⟩ := rv.one
  cases ru
  obtain ⟨z, its, n, r, hl, e⟩ := I.lstM hH
  obtain ⟨z2, its2, n2, r2, hl2, e2⟩ := I.lstM hB
  have hsz : its.toArray.size + its2.toArray.size ≤ sizeLine := by rw [List.size_toArray, List.size_toArray]; omega
  have hlong : ¬ (!its.toArray.isEmpty && Builtin.List.listTooLong (its.toArray.size + its2.toArray.size)) = true := by
    rw [notLongL hsz, Bool.and_false]
    exact Bool.false_ne_true
  refine call_meets F.slot_list_extend ⟨_, e, rfl⟩ F.entry_list_extend (F.args_list_extend_2 _ _)
    (AutoSeq1.list_extend_list_list_0 l its.toArray n b its2.toArray n2 hlong (by rw [List.size_toArray]; omega) (by omega)) ⟨e, e2, ?_⟩
  refine ⟨.non, _, I.lset (its' := its ++ its2) hH e (by simp) (r.append r2) ?_, rfl, q⟩
  rw [List.length_append]
  omega

def rPop : V → List V → Hp → VK → Prop := fun x vs H Q => ∃ l xs y, x = .ref l ∧ vs = [] ∧ H l = some (.lst xs) ∧ xs[xs.length - 1]? = some y ∧ Q y (upd H l (.lst xs.dropLast))
theorem mt_pop : MtM X "list.pop" rPop := by
  intro pins s σ H x vs v us Q I rx rv h
  obtain ⟨l, xs, y, rfl, rfl, hH, hy, q⟩ := h
  cases rx
  have hus := rv.zero
  subst hus
  obtain ⟨z, its, n, r, hl, e⟩ := I.lstM hH
  obtain ⟨u, hu, ru⟩ := r.get hy
  have hy' : its.toArray[its.toArray.size - 1]? = some u := by
    show its.toArray[its.length - 1]? = some u
    rw [← Array.getElem?_toList, ← hl]
    exact hu
  refine call_meets F.slot_list_pop ⟨_, e, rfl⟩ F.entry_list_pop (F.args_list_pop_1 _) (MeetsSeq.list_pop_last l its.toArray n u hy' (by rw [List.size_toArray]; omega)) ⟨e, ?_⟩
  refine ⟨y, _, I.lset (its' := its.dropLast) hH e ?_ r.dropLast ?_, ru, q⟩
  · show its.toArray.eraseIdxIfInBounds (its.toArray.size - 1) = its.dropLast.toArray
    rw [List.size_toArray, List.eraseIdxIfInBounds_toArray, erase_last]
  · rw [List.length_dropLast]
    omega

def rPopAt : V → List V → Hp → VK → Prop := fun x vs H Q => ∃ l xs i k y, x = .ref l ∧ vs = [.int i] ∧ H l = some (.lst xs) ∧ -(2 ^ 63) ≤ i ∧ i < 2 ^ 63 ∧ seqIndex? i xs.length = some k ∧ xs[k]? = some y ∧ Q y (upd H l (.lst (xs.eraseIdx k)))
theorem mt_popAt : MtM X "list.pop" rPopAt := by
  intro pins s σ H x vs v us Q I rx rv h
  obtain ⟨l, xs, i, k, y, rfl, rfl, hH, h1, h2, hk, hy, q⟩ := h
  cases rx
  obtain ⟨u, rfl, ru⟩ := rv.one
  obtain ⟨t, rfl⟩ := ru
  obtain ⟨z, its, n, r, hl, e⟩ := I.lstM hH
  obtain ⟨w, hw, rw'⟩ := r.get hy
  refine call_meets F.slot_list_pop ⟨_, e, rfl⟩ F.entry_list_pop (F.args_list_pop_2 _ _)
    (MeetsSeq.list_pop_at l its.toArray n i t k w (fitsIndex_both h1 h2) (by rw [List.size_toArray, ← hl]; exact hk) (by rw [← Array.getElem?_toList]; exact hw) (by rw [List.size_toArray]; omega)) ⟨e, ?_⟩
  refine ⟨y, _, I.lset (its' := its.eraseIdx k) hH e ?_ (r.eraseIdx k) ?_, rw', q⟩
  · show its.toArray.eraseIdxIfInBounds k = (its.eraseIdx k).toArray
    rw [List.eraseIdxIfInBounds_toArray]
  · have := len_erase xs k
    omega

def rReverse : V → List V → Hp → VK → Prop := fun x vs H Q => ∃ l xs, x = .ref l ∧ vs = [] ∧ H l = some (.lst xs) ∧ Q .non (upd H l (.lst xs.reverse))
theorem mt_reverse : MtM X "list.reverse" rReverse := by
  intro pins s σ H x vs v us Q I rx rv h
  obtain ⟨l, xs, rfl, rfl, hH, q⟩ := h
  cases rx
  have hus := rv.zero
  subst hus
  obtain ⟨z, its, n, r, hl, e⟩ := I.lstM hH
  refine call_meets F.slot_list_reverse ⟨_, e, rfl⟩ F.entry_list_reverse (F.args_list_reverse_1 _) (AutoSeq1.list_reverse_list_0 l its.toArray n (by rw [List.size_toArray]; omega)) ⟨e, ?_⟩
  refine ⟨.non, _, I.lset (its' := its.reverse) hH e (by simp) r.reverse ?_, rfl, q⟩
  rw [List.length_reverse]
  omega

def rClear : V → List V → Hp → VK → Prop := fun x vs H Q => ∃ l xs, x = .ref l ∧ vs = [] ∧ H l = some (.lst xs) ∧ Q .non (upd H l (.lst []))
theorem mt_clear : MtM X "list.clear" rClear := by
  intro pins s σ H x vs v us Q I rx rv h
  obtain ⟨l, xs, rfl, rfl, hH, q⟩ := h
  cases rx
  have hus := rv.zero
  subst hus
  obtain ⟨z, its, n, r, hl, e⟩ := I.lstM hH
  refine call_meets F.slot_list_clear ⟨_, e, rfl⟩ F.entry_list_clear (F.args_list_clear_1 _) (AutoSeq1.list_clear_list_0 l its.toArray n (by rw [List.size_toArray]; omega)) ⟨e, ?_⟩
  exact ⟨.non, _, I.lset (its' := []) (ys := []) hH e rfl .nil (Nat.zero_le _), rfl, q⟩

/-! ### list + list, list += list, list * int -/
def rCat : R2 := fun x y H Q => ∃ l b xs zs, x = .ref l ∧ y = .ref b ∧ H l = some (.lst xs) ∧ H b = some (.lst zs) ∧ xs.length + zs.length ≤ sizeLine ∧ ∀ p, H p = none → Q (.ref p) (upd H p (.lst (xs ++ zs)))
theorem op_cat : OpR X (binaryOp .Add) rCat := by
  intro pins s σ H x y v u Q I rx ry h
  obtain ⟨l, b, xs, zs, rfl, rfl, hH, hB, hz, q⟩ := h
  cases rx
  cases ry
  obtain ⟨z, its, n, r, hl, e⟩ := I.lstM hH
  obtain ⟨z2, its2, n2, r2, hl2, e2⟩ := I.lstM hB
  refine PySem.P.add_list e e2 ?_ (by rw [List.size_toArray, List.size_toArray]; omega)
  have ea : its.toArray ++ its2.toArray = (its ++ its2).toArray := by simp
  rw [ea]
  exact ⟨.ref _, _, I.lnew (t' := s.toks) (r.append r2) (by rw [List.length_append]; omega), rfl, q _ I.fresh⟩
/-- a list times an int (a negative one is nothing) -/
def rRep : R2 := fun x y H Q => ∃ l k xs, x = .ref l ∧ y = .int k ∧ H l = some (.lst xs) ∧ -(2 ^ 63) ≤ k ∧ k < 2 ^ 63 ∧ xs.length * k.toNat ≤ sizeLine ∧
  ∀ p, H p = none → Q (.ref p) (upd H p (.lst (List.replicate k.toNat xs).flatten))
theorem len_rep {α : Type} (xs : List α) (k : Nat) : (List.replicate k xs).flatten.length = k * xs.length := by
  induction k with
  | zero => simp
  | succ k ih => rw [List.replicate_succ, List.flatten_cons, List.length_append, ih, Nat.succ_mul, Nat.add_comm]
theorem op_rep : OpR X (binaryOp .Mult) rRep := by
  intro pins s σ H x y v u Q I rx ry h
  obtain ⟨l, k, xs, rfl, rfl, hH, h1, h2, hz, q⟩ := h
  cases rx
  obtain ⟨t, rfl⟩ := ry
  obtain ⟨z, its, n, r, hl, e⟩ := I.lstM hH
  have hlen : its.toArray.size * k.toNat ≤ sizeLine := by rw [List.size_toArray, ← hl]; exact hz
  have hcap : ¬ its.toArray.size * k.toNat > (2 ^ 63 - 1) / 8 := by
    have : (sizeLine : Nat) ≤ (2 ^ 63 - 1) / 8 := by decide
    omega
  have hfit : ¬ (!Builtin.List.listFitsIndex k) = true := by
    rw [fitsIndex_both h1 h2]
    exact Bool.false_ne_true
  have hlong : ¬ Builtin.List.listTooLong (its.toArray.size * k.toNat) = true := by
    rw [notLongL hlen]
    exact Bool.false_ne_true
  have hnew : List.foldl (fun x1 x2 => x1 ++ x2) #[] (List.replicate (if its.toArray.isEmpty = true then 0 else k.toNat) its.toArray) = (List.replicate k.toNat its).flatten.toArray := by
    have f0 : ∀ m : Nat, List.foldl (fun x1 x2 => x1 ++ x2) #[] (List.replicate m its.toArray) = (List.replicate m its).flatten.toArray := fun m => by
      have := foldl_rep its m []
      rw [List.nil_append] at this
      exact this
    rw [f0]
    cases its with
    | nil => simp
    | cons a r' => rw [if_neg (by simp)]
  refine wpAny_binaryOp_repeat_ref (T := "list") (U := "int") (by decide) ⟨_, e, rfl⟩ (fun s' => typeIs_int s' k t) noFill_list_mul F.fills_int_mul F.slot_int_rmul repeat_list F.slot_int_index.lookup
    (call_meets F.slot_int_rmul (typeIs_int s k t) F.entry_int_rmul (F.args_int_rmul_2 _ _) (int___rmul___int_list k t l its.toArray n)
      ⟨e, rfl, ⟨_, e, rfl⟩, call_meets F.slot_list_mul ⟨_, e, rfl⟩ F.entry_list_mul (F.args_list_mul_2 _ _) (AutoListH.list___mul___list_int_3 l its.toArray n k t hfit hcap hlong) ⟨e, ?_⟩⟩)
  rw [hnew]
  exact ⟨.ref _, _, I.lnew (t' := s.toks) (r.rep k.toNat) (by rw [len_rep, Nat.mul_comm]; exact hz), rfl, q _ I.fresh⟩

/-! ### del xs[i] -/
theorem del_list {pins : List (Addr × Obj)} {s : Shared} {σ : St} {H : Hp} {l : Addr} {xs : List V} {i : Int} {t : Tok} {k : Nat} {Q : Unit → Shared → Prop} (I : Inv X pins σ H s) (hH : H l = some (.lst xs))
    (h1 : -(2 ^ 63) ≤ i) (h2 : i < 2 ^ 63) (hk : seqIndex? i xs.length = some k) (h : ∀ s', Inv X pins σ (upd H l (.lst (xs.eraseIdx k))) s' → Q () s') :
    wpAny (model X.prog X.w) X.A (delItem (.ref l) (.int i t)) Q X.xe s := by
  obtain ⟨z, its, n, r, hl, e⟩ := I.lstM hH
  refine PySem.P.delItem_list (k := k) e (fitsIndex_both h1 h2) (by rw [List.size_toArray, ← hl]; exact hk) (h _ ?_) (by rw [List.size_toArray]; omega)
  refine I.lset (its' := its.eraseIdx k) (t' := s.toks) hH e ?_ (r.eraseIdx k) ?_
  · show its.toArray.eraseIdxIfInBounds k = (its.eraseIdx k).toArray
    rw [List.eraseIdxIfInBounds_toArray]
  · have := len_erase xs k
    omega
end

/-! ### xs[a:b] = ys -/
section
variable {prog : Program} {w : World} {A : Around} {E : Value → Shared → Prop} {s : Shared}
theorem splice_eq (its its2 : List Value) (a c : Nat) : its.toArray.extract 0 a ++ its2.toArray ++ its.toArray.extract c its.toArray.size = (its.take a ++ its2 ++ its.drop c).toArray := by
  apply Array.toList_inj.mp
  first
    | (simp
       exact List.take_of_length_le (by simp))
    | simp [List.take_of_length_le]
    | simp
theorem bounds_run {a c n : Nat} (hac : a ≤ c) (hc : c ≤ n) : sliceBounds (some (a : Int)) (some (c : Int)) none n = ((a : Int), (c : Int), 1) := by
  simp only [sliceBounds, Option.getD_none]
  have h1 : ¬ ((a : Int) < 0) := by omega
  have h2 : ¬ ((c : Int) < 0) := by omega
  simp only [h1, h2, if_false, show (1 : Int) > 0 by decide, if_true]
  congr 1
  · omega
  · congr 1; omega
set_option maxRecDepth 100000 in
/-- list.__setitem__ with a slice of step one and another list -/
theorem setItem_slice {l b sl : Addr} {items new : Array Value} {n n2 : Nat} {vl vu : Value} {a c : Nat} {Q : Unit → Shared → Prop}
    (e : s.heap.get? l = some { cls := .type "list", data := .seq items n }) (e2 : s.heap.get? b = some { cls := .type "list", data := .seq new n2 }) (hne : l ≠ b)
    (hs : s.heap.IsSliceOf sl vl vu .none) (pl : IsPart vl (some (a : Int))) (pu : IsPart vu (some (c : Int))) (hac : a ≤ c) (hc : c ≤ items.size)
    (hsz : items.size + new.size ≤ sizeLine) (h : Q () { s with heap := s.heap.update l (Obj.mapSeq fun xs => xs.extract 0 a ++ new ++ xs.extract c xs.size) }) :
    wpAny (model prog w) A (setItem (.ref l) (.ref sl) (.ref b)) Q E s := by
  have hl : s.heap.IsList l items := PySem.IsL.isList e
  have hb : s.heap.IsList b new := PySem.IsL.isList e2
  obtain ⟨os, hos, hcs, hds⟩ := id hs
  have hTs : s.TypeIs (.ref sl) "slice" := ⟨os, hos, hcs⟩
  have hstep : ¬ ((rawPart none == rawInt 0) = true) := Bool.false_ne_true
  have hsame : Builtin.List.listSameRef (.ref l) (.ref b) = false := by
    unfold Builtin.List.listSameRef
    exact beq_eq_false_iff_ne.mpr hne
  have hmax : (max (a : Int) (c : Int)).toNat = c := by omega
  have hz' : ((fun xs : Array Value => xs.extract 0 a ++ new ++ xs.extract c xs.size) items).size ≤ sizeLine + 1 := by
    simp only [Array.size_append, Array.size_extract]
    omega
  unfold setItem
  try with_reducible refine wpAny_holding ?_
  first | refine wpAny_bind (wpAny_pure ?_) | skip
  refine wpAny_bind (wpAny_sequenceKey hl.typeIs (by decide) ?_)
  refine wpAny_bind (wpAny_callSpecial?_slot (name := Str.ofString "__setitem__") hl.typeIs slot_list_setitem
    (wpAny_call_entry slot_list_setitem hl.typeIs entry_list_setitem ?_ (args_list_setitem _ _ _)))
  show wpAny _ _ (Builtin.List.listSubscript? (.ref sl) >>= _) _ _ s
  refine wpAny_bind ?_
  unfold Builtin.List.listSubscript?
  refine wpAny_bind (wpAny_specialOf hTs slice_no_index ?_)
  simp only [Option.isNone_none, if_true]
  refine wpAny_pure ?_
  show wpAny _ _ (typeOf (.ref sl) >>= _) _ _ s
  refine wpAny_bind (wpAny_typeOf hTs ?_)
  first
    | rw [if_neg (by decide)]
    | refine PySem.W.KFB.if_not (by decide) ?_
  rw [listSliceParts_eq]
  refine wpAny_bind (wpAny_bind (wpAny_field hos hds (x := .none) rfl (wpAny_bind (wpAny_listPart .none ?_))))
  rw [if_neg hstep]
  refine wpAny_bind (wpAny_field hos hds (x := vl) rfl (wpAny_bind (wpAny_listPart pl ?_)))
  refine wpAny_bind (wpAny_field hos hds (x := vu) rfl (wpAny_bind (wpAny_listPart pu (wpAny_pure ?_))))
  first
    | simp only [hsame, Bool.false_eq_true, if_false]
    | refine PySem.W.KFB.if_not hsame ?_
    | (dsimp only
       rw [if_neg (by rw [hsame]; exact Bool.false_ne_true)])
  refine wpAny_bind (m := Builtin.List.listAllItems (.ref b) "must assign iterable to extended slice") ?_
  unfold Builtin.List.listAllItems
  refine wpAny_bind (wpAny_typeOf hb.typeIs ?_)
  first
    | refine PySem.W.KFB.if_so (by decide) ?_
    | rw [if_pos (by decide)]
    | simp only [beq_self_eq_true, Bool.true_or, if_true]
  unfold Builtin.List.listItems
  refine wpAny_bind (wpAny_seqItems e2 rfl (wpAny_pure ?_))
  refine wpAny_bind (wpAny_bind (wpAny_seqItems e rfl (wpAny_pure ?_)))
  refine wpAny_bind (wpAny_of_eq ((sliceIndices_raw (some (a : Int)) (some (c : Int)) none items.size (by simp)).trans (congrArg (pure : Int × Int × Int → Sem (Int × Int × Int)) (bounds_run hac hc))) ?_)
  show wpAny _ _ (if ((1 : Int) == 1) = true then _ else _) _ _ s
  rw [if_pos (by decide)]
  refine wpAny_bind (wpAny_rule ?_)
  first
    | simp only [notLongL hsz, Bool.false_eq_true, if_false]
    | refine PySem.W.KFB.if_not (notLongL hsz) ?_
  first | refine wpAny_bind (wpAny_pure ?_) | skip
  show wpAny _ _ (updateSeq l (fun xs => xs.extract 0 ((a : Int)).toNat ++ new ++ xs.extract (max (a : Int) (c : Int)).toNat xs.size) >>= _) _ _ s
  rw [hmax, Int.toNat_natCast]
  refine wpAny_bind (wpAny_updateSeq (hz := Nat.le_trans (Nat.le_add_right _ _) hsz) (_hz' := hz') e rfl ?_)
  refine wpAny_bind (wpAny_letGo ?_)
  first
    | exact wpAny_bind (wpAny_pure (wpAny_pure ⟨.none, rfl, wpAny_pure h⟩))
    | exact wpAny_pure ⟨.none, rfl, wpAny_pure h⟩
end

section
variable {X : Cx}
/-- xs[a:c] = ys of another list, at the value level: sl is the slice object that was just made -/
theorem set_slice {pins : List (Addr × Obj)} {s : Shared} {σ : St} {H : Hp} {l b sl : Addr} {xs ys : List V} {a c : Int} {vl vu : Value} {Q : Unit → Shared → Prop} (I : Inv X pins σ H s)
    (hH : H l = some (.lst xs)) (hB : H b = some (.lst ys)) (hne : l ≠ b) (hs : s.heap.IsSliceOf sl vl vu .none) (ra : RelV (.int a) vl) (rc : RelV (.int c) vu) (h0 : 0 ≤ a) (hac : a ≤ c) (hc : c ≤ xs.length)
    (hz : xs.length + ys.length ≤ sizeLine) (h : ∀ s', Inv X pins σ (upd H l (.lst (xs.take a.toNat ++ ys ++ xs.drop c.toNat))) s' → Q () s') :
    wpAny (model X.prog X.w) X.A (setItem (.ref l) (.ref sl) (.ref b)) Q X.xe s := by
  obtain ⟨ta, rfl⟩ := ra
  obtain ⟨tc, rfl⟩ := rc
  obtain ⟨z, its, n, r, hl, e⟩ := I.lstM hH
  obtain ⟨z2, its2, n2, r2, hl2, e2⟩ := I.lstM hB
  obtain ⟨a', rfl⟩ := Int.eq_ofNat_of_zero_le h0
  obtain ⟨c', rfl⟩ := Int.eq_ofNat_of_zero_le (Int.le_trans h0 hac)
  simp only [Int.toNat_natCast] at h
  refine setItem_slice (a := a') (c := c') e e2 hne hs (.int _ _) (.int _ _) (by omega) (by rw [List.size_toArray]; omega) (by rw [List.size_toArray, List.size_toArray]; omega) (h _ ?_)
  refine I.lset (its' := its.take a' ++ its2 ++ its.drop c') (t' := s.toks) hH e ?_ (Vals.append (Vals.append (r.take _) r2) (r.drop _)) ?_
  · exact splice_eq its its2 a' c'
  · rw [List.length_append, List.length_append, List.length_take, List.length_drop]
    omega
end
end L2

namespace Att
open PySem PySem.W PySem.Calls PyProof.Rows

/-! ### the script -/
theorem ints_of_wellAll {P : Params} {h : Heap} : ∀ (ns : List Int) (vs : List Value), WellAll P h vs (ns.map WData.int) → IntsAre vs ns := by
  intro ns
  induction ns with
  | nil =>
    intro vs w
    rw [List.map_nil] at w
    cases w
    exact .nil
  | cons n ns ih =>
    intro vs w
    rw [List.map_cons] at w
    cases w with
    | cons a b =>
      cases a
      exact .cons _ _ (ih _ b)

theorem script_of {l : OpenLaw} {n : Nat} (hn : l.most = some n) {P : Params} {h : Heap} {args : List WData} {vals : List Value}
    (hpre : l.row.toRowW.claim.pre args = true) (hwl : WellAll P h vals args) :
    ∃ a vs ns, vals = [Value.ref a] ∧ args = [WData.list (ns.map WData.int)] ∧ h.get? a = some { cls := .type "list", data := .seq vs.toArray } ∧ IntsAre vs ns ∧ ns.length ≤ n := by
  have hsh : WShape.hasAll [] args [.list .int] = true := (pre_splitW hpre).1
  have hc : l.pre.holds [] { args := args } = true := (pre_splitW hpre).2
  obtain ⟨d, r, rfl, h1, h2⟩ := hasAllW_cons hsh
  obtain rfl := hasAllW_nil h2
  obtain ⟨xs, rfl, h3⟩ := hasW_list h1
  obtain ⟨ns, rfl⟩ := items_int h3
  have hlen : ns.length ≤ n := by
    unfold OpenLaw.pre at hc
    have h4 : (WTm.not (.lt (.lit (.int (n : Int))) (.len (.arg 0)))).holds [] { args := [.list (ns.map .int)] } = true := by
      have h4 := (holds_andW hc).1
      rw [hn] at h4
      exact h4
    have h5 := condW_of h4 (w_not (w_lt w_lit (w_len_list (w_arg rfl))))
    rw [List.length_map] at h5
    refine Nat.le_of_not_lt fun q => ?_
    have q' : (n : Int) < ((ns.length : Nat) : Int) := by omega
    first
      | (rw [decide_eq_true q'] at h5; exact absurd h5 (by decide))
      | (simp at h5; omega)
  cases hwl with
  | cons w1 w2 =>
    cases w2
    cases w1 with
    | list ho hall => exact ⟨_, _, ns, rfl, rfl, ho, ints_of_wellAll ns _ hall, hlen⟩

theorem post_true (l : OpenLaw) (args : List WData) : l.row.toRowW.claim.post args (.bool true) args = true :=
  postW_of (r := l.row.toRowW) (X := (true == true))
    (show WShape.has [] (.bool true) .bool = true by first | rfl | decide | simp [WShape.has, WShape.arms, WShape.armsAll])
    (show (WTm.eq .res (.lit (.bool true))).value [] { args := args, res := some (.bool true), after := args } = some (.bool (true == true)) from w_eq_bool (w_res rfl) w_lit) rfl

/-! ### the attachment: holds_open's last premise (the goal 'hc' behind k_head) from a wpAny of the law's body -/
theorem attach {l : OpenLaw} {n : Nat} {q : Program} {loose : List Str} {XP : (Str → Option Value) → Heap → Prop} {YP : World → Heap → Prop} {d : DefRec} {x : Str}
    (hn : l.most = some n) (hdf : d.params.defaults = [])
    (hbind : ∀ pm cd doc v : Value, bindArgs (docDef d.name d.params d.body d.scope pm cd doc) ⟨[v], []⟩ = pure [(x, v)])
    (hx : d.scope.names.lookup x = some .local ∨ d.scope.names.lookup x = some .cell)
    (hk : d.scope.kind = .function) (hco : d.scope.isCoroutine = false) (hgen : d.scope.isGenerator = false)
    (body : ∀ (w : World) (s₀ s₁ s : Shared) (mg mb : Str → Option Value) (fa : Addr) (o : Obj) (pm cd doc : Value) (a : Addr) (vs : List Value) (ns : List Int),
      Ground q loose [] XP w s₀ mg mb s₁.heap → YP w s₁.heap →
      s₁.heap.get? fa = some o → o.data = .func (docDef d.name d.params d.body d.scope pm cd doc) → s₁.heap.CodeRec cd d.name → mg d.name = some (.ref fa) →
      s₁.heap.get? a = some { cls := .type "list", data := .seq vs.toArray } → IntsAre vs ns → ns.length ≤ n →
      s.gens = #[] → s.os = s₁.os →
      Fr s₁.heap s₁.heap.objs.size s.heap (bindL (envOfC d.name d.scope s₁.heap.objs.size fa cd).kindOf [(x, .ref a)] fun _ => none) →
      Cl s₁.heap.objs.size (cellsFrom (s₁.heap.objs.size + 1) d.scope.names []) s.heap (bindC (envOfC d.name d.scope s₁.heap.objs.size fa cd).kindOf [(x, .ref a)] fun _ => none) →
      wpAny (model l.prog w) (callerA.deeper (envOfC d.name d.scope s₁.heap.objs.size fa cd)) (execs d.body (envOfC d.name d.scope s₁.heap.objs.size fa cd))
        (fun f s' => f = .ret (.bool true) ∧ OldK s₁.heap s'.heap ∧ s'.os = s₁.os ∧ AllBare s'.gens) (fun _ _ => False) s) :
    WalkO q loose XP YP l.row.toRowW d [] (fun f vs => PySem.call f vs) := by
  intro w s₀ s₁ mg mb G Y fa o pm cd doc dV kV ho hd hcd hD hmg hg args vals as hpre hlay hrd hwl hlo
  obtain rfl : dV = .none := Dflts.none hD hdf
  obtain rfl : kV = .none := Dflts.noKw hD
  obtain ⟨a, vs, ns, rfl, rfl, hobj, hints, hlen⟩ := script_of hn hpre hwl
  refine enter_call ?_
  refine call_cells_ret (o := o) (by rw [depth_caller]; decide) ho (fd_plain hd) G.T.nolimit hcd (hbind pm cd doc (.ref a)) (fun y hy => ?_) (fun h₁ tk F X => ?_) hco hgen hk
  · obtain rfl : y = (x, Value.ref a) := List.mem_singleton.mp hy
    rcases hx with e | e
    · exact .inl e
    · exact .inr ⟨e, cellsFrom_some _ _ _ (.inl e)⟩
  · refine wpAny_mono (body w s₀ s₁ { s₁ with heap := h₁, toks := tk } mg mb fa o pm cd doc a vs ns G Y ho (fd_plain hd) hcd hmg hobj hints hlen hg rfl F X) (fun f s' hq => ?_) (fun _ _ hq => hq)
    obtain ⟨rfl, h2, h3, h4⟩ := hq
    exact ⟨.inl ⟨.bool true, .bool true, [], rfl, fun _ => rfl, .bool true, post_true l _, fun _ => ⟨List.Pairwise.nil, fun _ hm => (nomatch hm)⟩⟩, h2, h3, h4⟩

/-- the same from a codeAny of the CALL (for a layer whose function contracts speak of calls) -/
theorem attach_call {l : OpenLaw} {n : Nat} {q : Program} {loose : List Str} {XP : (Str → Option Value) → Heap → Prop} {YP : World → Heap → Prop} {d : DefRec}
    (hn : l.most = some n) (hdf : d.params.defaults = [])
    (call : ∀ (w : World) (s₀ s₁ : Shared) (mg mb : Str → Option Value) (fa : Addr) (o : Obj) (pm cd doc : Value) (a : Addr) (vs : List Value) (ns : List Int),
      Ground q loose [] XP w s₀ mg mb s₁.heap → YP w s₁.heap →
      s₁.heap.get? fa = some o → o.data = .func (docDef d.name d.params d.body d.scope pm cd doc) → s₁.heap.CodeRec cd d.name → mg d.name = some (.ref fa) →
      s₁.heap.get? a = some { cls := .type "list", data := .seq vs.toArray } → IntsAre vs ns → ns.length ≤ n → s₁.gens = #[] →
      codeAny (model l.prog w) callerA (.call (.ref fa) ⟨[.ref a], []⟩) (fun r s' => r = .ok (.ret (.bool true)) ∧ OldK s₁.heap s'.heap ∧ s'.os = s₁.os ∧ AllBare s'.gens) s₁) :
    WalkO q loose XP YP l.row.toRowW d [] (fun f vs => PySem.call f vs) := by
  intro w s₀ s₁ mg mb G Y fa o pm cd doc dV kV ho hd hcd hD hmg hg args vals as hpre hlay hrd hwl hlo
  obtain rfl : dV = .none := Dflts.none hD hdf
  obtain rfl : kV = .none := Dflts.noKw hD
  obtain ⟨a, vs, ns, rfl, rfl, hobj, hints, hlen⟩ := script_of hn hpre hwl
  refine enter_call (codeAny_mono (call w s₀ s₁ mg mb fa o pm cd doc a vs ns G Y ho (fd_plain hd) hcd hmg hobj hints hlen hg) fun r s' hq => ?_)
  obtain ⟨rfl, h2, h3, h4⟩ := hq
  exact ⟨.inl ⟨.bool true, .bool true, [], rfl, fun _ => rfl, .bool true, post_true l _, fun _ => ⟨List.Pairwise.nil, fun _ hm => (nomatch hm)⟩⟩, h2, h3, h4⟩

/-- the same where the top left finished generators (o_head chose holds_openN): nothing may have changed at all and no generator may be left -/
theorem attachN {l : OpenLaw} {n : Nat} {q : Program} {loose : List Str} {XP : (Str → Option Value) → Heap → Prop} {YP : World → Heap → Prop} {d : DefRec} {x : Str}
    (hn : l.most = some n) (hdf : d.params.defaults = [])
    (hbind : ∀ pm cd doc v : Value, bindArgs (docDef d.name d.params d.body d.scope pm cd doc) ⟨[v], []⟩ = pure [(x, v)])
    (hx : d.scope.names.lookup x = some .local ∨ d.scope.names.lookup x = some .cell)
    (hk : d.scope.kind = .function) (hco : d.scope.isCoroutine = false) (hgen : d.scope.isGenerator = false)
    (body : ∀ (w : World) (s₀ s₁ s : Shared) (mg mb : Str → Option Value) (fa : Addr) (o : Obj) (pm cd doc : Value) (a : Addr) (vs : List Value) (ns : List Int),
      Ground q loose [] XP w s₀ mg mb s₁.heap → YP w s₁.heap →
      s₁.heap.get? fa = some o → o.data = .func (docDef d.name d.params d.body d.scope pm cd doc) → s₁.heap.CodeRec cd d.name → mg d.name = some (.ref fa) →
      s₁.heap.get? a = some { cls := .type "list", data := .seq vs.toArray } → IntsAre vs ns → ns.length ≤ n →
      s.gens = #[] → s.os = s₁.os →
      Fr s₁.heap s₁.heap.objs.size s.heap (bindL (envOfC d.name d.scope s₁.heap.objs.size fa cd).kindOf [(x, .ref a)] fun _ => none) →
      Cl s₁.heap.objs.size (cellsFrom (s₁.heap.objs.size + 1) d.scope.names []) s.heap (bindC (envOfC d.name d.scope s₁.heap.objs.size fa cd).kindOf [(x, .ref a)] fun _ => none) →
      wpAny (model l.prog w) (callerA.deeper (envOfC d.name d.scope s₁.heap.objs.size fa cd)) (execs d.body (envOfC d.name d.scope s₁.heap.objs.size fa cd))
        (fun f s' => f = .ret (.bool true) ∧ (∀ b o, s₁.heap.get? b = some o → s'.heap.get? b = some o) ∧ s'.os = s₁.os ∧ s'.gens = #[]) (fun _ _ => False) s) :
    WalkN q loose XP YP l.row.toRowW d [] (fun f vs => PySem.call f vs) := by
  intro w s₀ s₁ mg mb G Y fa o pm cd doc dV kV ho hd hcd hD hmg hg args vals as hpre hlay hrd hwl hlo
  obtain rfl : dV = .none := Dflts.none hD hdf
  obtain rfl : kV = .none := Dflts.noKw hD
  obtain ⟨a, vs, ns, rfl, rfl, hobj, hints, hlen⟩ := script_of hn hpre hwl
  refine enter_callW ?_
  refine call_cells_ret (o := o) (by rw [depth_caller]; decide) ho (fd_plain hd) G.T.nolimit hcd (hbind pm cd doc (.ref a)) (fun y hy => ?_) (fun h₁ tk F X => ?_) hco hgen hk
  · obtain rfl : y = (x, Value.ref a) := List.mem_singleton.mp hy
    rcases hx with e | e
    · exact .inl e
    · exact .inr ⟨e, cellsFrom_some _ _ _ (.inl e)⟩
  · refine wpAny_mono (body w s₀ s₁ { s₁ with heap := h₁, toks := tk } mg mb fa o pm cd doc a vs ns G Y ho (fd_plain hd) hcd hmg hobj hints hlen hg rfl F X) (fun f s' hq => ?_) (fun _ _ hq => hq)
    obtain ⟨rfl, h2, h3, h4⟩ := hq
    exact ⟨.inl ⟨.bool true, .bool true, [], rfl, fun _ => rfl, .bool true, post_true l _, fun _ => ⟨List.Pairwise.nil, fun _ hm => (nomatch hm)⟩⟩, h2, h3, h4⟩

/-! ### rules over ANY heap (no ledger) from facts about the written part K: the library's own take a ledger (News) for what they write -/
section
variable {prog : Program} {w : World} {A : Around} {E : Value → Shared → Prop} {s : Shared} {K : Frag}

/-- a def of the module, or a method (qual 'C.m'), entered: the frame is the next address; cells behind it -/
theorem call_fn {R : Result → Shared → Prop} {name qual : Str} {params : Arguments} {body : List Stmt} {scope : Scope} {dV kV doc pm cdv ct oc : Value} {an od : Option Addr} {osl : Array (Option Value)} {f : Addr} {args : Args} {binds : List (Str × Value)}
    (X : K.In s.heap) (hlim : s.heap.NoLimit) (ho : K.lookup f = some ⟨oc, od, .func (fnOf name qual params body scope dV kV doc pm an cdv ct), osl⟩) (hcd : codeIn K cdv qual = true) (hroom : A.depth < recursionLimit)
    (hbind : BindsTo s (fnOf name qual params body scope dV kV doc pm an cdv ct) args binds)
    (hkind : (binds.all fun y => scope.names.lookup y.1 == some .local || scope.names.lookup y.1 == some .cell) = true)
    (h : ∀ s₁, InCallC s s.heap.objs.size (bindL (envOfC qual scope s.heap.objs.size f cdv).kindOf binds fun _ => none) (cellsFrom (s.heap.objs.size + 1) scope.names [])
        (bindC (envOfC qual scope s.heap.objs.size f cdv).kindOf binds fun _ => none) s₁ →
      wpAny (model prog w) (A.deeper (envOfC qual scope s.heap.objs.size f cdv)) (execs body (envOfC qual scope s.heap.objs.size f cdv))
        (fun fl s' => R (.ok (.ret (match fl with | .ret v => v | _ => .none))) s')
        (fun e s' => wpAny (model prog w) (A.deeper (envOfC qual scope s.heap.objs.size f cdv)) (leaving (envOfC qual scope s.heap.objs.size f cdv) e) (fun _ s'' => R (.error e) s'') (fun e' s'' => R (.error e') s'') s') s₁)
    (hco : scope.isCoroutine = false) (hgen : scope.isGenerator = false) (hk : scope.kind = .function) : codeAny (model prog w) A (.call (.ref f) args) R s := by
  refine codeAny_call_function hroom (X _ _ ho) rfl hco hgen rfl (codeRec_of X hcd) (hbind _ _ _ _ ?_)
  refine wpAny_newFunctionEnv_cells hk (kindsX hkind _) fun env he s₁ x => ?_
  subst he
  exact ⟨hlim.keeps x.toInCall.keep, codeAny_func (h s₁ x)⟩

/-- C(..): dict at size, instance at size + 1, then __init__ -/
theorem make_obj {R : Result → Shared → Prop} {C fI : Addr} {rest : List Value} {kw : List (Str × Value)}
    (X : K.In s.heap) (hm : makesIn K C = true) (hi : findIn K (.ref C) "__init__" = some (some (.ref fI))) (hf : isFn K (.ref fI) = true)
    (h : codeAny (model prog w) (A.under (.builtin "type.__call__" ⟨.ref C :: rest, kw⟩)) (.call (.ref fI) ⟨.ref (s.heap.objs.size + 1) :: rest, kw⟩) (InitBack (s.heap.objs.size + 1) R)
      { s with heap := (s.heap.push emptyDict).push (instObj C s.heap.objs.size) }) : codeAny (model prog w) A (.call (.ref C) ⟨rest, kw⟩) R s := by
  obtain ⟨hh, g, d, t, os⟩ := s
  exact make_core (makes_of X hm) (looks_findIn X hi) (fun self => bind_fn X self (beq_iff_eq.mp hf)) (.inl rfl) h

/-- x.name where the instance's dict holds the name and the class does not -/
theorem get_field {x C : Addr} {ox : Obj} {es : List DictEntry} {n : Nat} {name : Str} {expr : Bool} {v : Value} {Q : Value → Shared → Prop}
    (X : K.In s.heap) (I : PySem.W.InstAt s.heap x ox C (some (dictOf es n))) (hg : plainGet K C name = true) (hh : hasDictIn K C = true) (ha : findIn K (.ref C) name = some none)
    (hl : getL name es = some (some v)) (hv : handedIn v = true) (h : Q v { s with toks := s.toks + 1 }) : wpAny (model prog w) A (getAttr (.ref x) name expr) Q E s :=
  get_value X I (plainGet_of hg).1 (findObj_own hh ha rfl hl) hv h

/-- x.m(..): the method found in the class -/
theorem get_method {x C f : Addr} {ox : Obj} {es : List DictEntry} {n : Nat} {name : Str} {pl : Sem Bool} {Q : Value × List Value → Shared → Prop}
    (X : K.In s.heap) (I : PySem.W.InstAt s.heap x ox C (some (dictOf es n))) (hg : plainGet K C name = true) (hf : findIn K (.ref C) name = some (some (.ref f))) (ht : isFn K (.ref f) = true)
    (hl : getL name es = some none) (h : Q (.ref f, [.ref x]) s) : wpAny (model prog w) A (getMethod (.ref x) name pl) Q E s :=
  method_fn X I (plainGet_of hg).1 (plainGet_of hg).2 hf (beq_iff_eq.mp ht) (by show (lookIn name (dictOf es n)).map _ = _; rw [lookIn_dict, hl]; rfl) h

/-! the whole heap as the ledger: makes every rule that writes through a ledger a rule over any heap -/
def noObjs (h : Heap) : Heap := { h with objs := #[] }
theorem noObjs_get (h : Heap) (b : Addr) : (noObjs h).get? b = none := by
  cases e : (noObjs h).get? b with
  | none => rfl
  | some o => exact absurd (Heap.lt_size e) (Nat.not_lt_zero _)
def ledger (h : Heap) (L d : Addr) : List (Addr × Obj) := (List.range h.objs.size).filterMap fun a => if a = L ∨ a = d then none else (h.get? a).map fun o => (a, o)
theorem mem_ledger {h : Heap} {L d a : Addr} {o : Obj} : (a, o) ∈ ledger h L d ↔ a ≠ L ∧ a ≠ d ∧ h.get? a = some o := by
  unfold ledger
  rw [List.mem_filterMap]
  constructor
  · rintro ⟨b, _, e⟩
    split at e
    · cases e
    · rename_i hb
      obtain ⟨o', ho, e'⟩ := Option.map_eq_some_iff.mp e
      cases e'
      exact ⟨fun q => hb (.inl q), fun q => hb (.inr q), ho⟩
  · rintro ⟨n1, n2, ho⟩
    refine ⟨a, List.mem_range.mpr (Heap.lt_size ho), ?_⟩
    rw [if_neg (show ¬ (a = L ∨ a = d) from fun q => q.elim n1 n2), ho] <;> rfl
theorem news_ledger {h : Heap} {L d : Addr} {od : Obj} (hne : d ≠ L) (ho : h.get? d = some od) : News (noObjs h) L h ([] ++ (d, od) :: ledger h L d) := by
  rintro ⟨a, o⟩ hp
  rcases List.mem_cons.mp hp with e | hp
  · cases e
    exact ⟨ho, hne, noObjs_get _ _⟩
  · obtain ⟨n1, n2, e⟩ := mem_ledger.mp hp
    exact ⟨e, n1, noObjs_get _ _⟩
theorem fr_all {h : Heap} {L : Addr} {m : Str → Option Value} (n : h.Ns L m) : Fr (noObjs h) L h m :=
  ⟨n, fun b o e => (by rw [noObjs_get] at e; cases e), Nat.zero_le _⟩
/-- Upd of the head entry (for append_K, setItem_K ..) -/
theorem upd_ledger {h : Heap} {L d : Addr} {o o' : Obj} : Upd d o o' ((d, o) :: ledger h L d) ((d, o') :: ledger h L d) :=
  .head fun ⟨_, _⟩ hp => (mem_ledger.mp hp).2.1

/-- x.name = v over any heap: L is any namespace of the heap (the frame's, say): its map stays, its object is not told; all else but the dict stays -/
theorem set_field {x C dx L : Addr} {ox : Obj} {m : Str → Option Value} {es es' : List DictEntry} {n n' : Nat} {name : Str} {v : Value} {Q : Unit → Shared → Prop}
    (X : K.In s.heap) (I : PySem.W.InstAt s.heap x ox C (some (dictOf es n))) (hd : ox.dict = some dx) (hL : s.heap.Ns L m) (hne : dx ≠ L)
    (hs : findIn K (.ref C) "__setattr__" = some (some (.builtin "object.__setattr__"))) (hp : plainOver K C = true) (ht : takerIn K C name = some none) (hh : hasDictIn K C = true) (hl : (getL name es).isSome = true)
    (e : (putL name (PyData.keyHash w.params name) (.str name (s.toks + 1)) v es, putN name es n) = (es', n')) (hz : es'.length ≤ 1000)
    (h : ∀ h' : Heap, h'.Ns L m → h'.get? dx = some (dictOf es' n') → (∀ b o, b ≠ dx → b ≠ L → s.heap.get? b = some o → h'.get? b = some o) → Q () { s with heap := h', toks := s.toks + 2 }) :
    wpAny (model prog w) A (setAttr (.ref x) name v) Q E s := by
  obtain ⟨e1, e2⟩ := Prod.mk.inj e
  have hdx : s.heap.get? dx = some (dictOf es n) := by
    have := I.dict
    rw [hd] at this
    exact this
  refine set_plain X I hs (osa_dict (s := { s with toks := s.toks + 1 }) (h₀ := noObjs s.heap) (L := L) (m := m) (od := dictOf es n) (od' := dictOf es' n') (es := es') (n := n') (pre := []) (post := ledger s.heap L dx)
    (fr_all hL) (news_ledger hne hdx) X I hd hp ht hh hl (fun _ q => nomatch q) (fun ⟨_, _⟩ q => (mem_ledger.mp q).2.1) (by rw [putName_dict, e1, e2]) rfl hz fun h' F' N' => ?_)
  exact h h' F'.ns (N'.get (List.Mem.head _)) fun b o n1 n2 ho => N'.get (List.Mem.tail _ (mem_ledger.mpr ⟨n2, n1, ho⟩))
end
end Att

namespace L2
open PySem PySem.Spec PyProof.Rows

theorem vals_ints : ∀ {vs : List Value} {ns : List Int}, IntsAre vs ns → Vals (ns.map V.int) vs
  | _, _, .nil => .nil
  | _, _, .cons n t h => .cons ⟨t, rfl⟩ (vals_ints h)

/-- nothing is tracked but the script, known to the object (or it is an object of the module) -/
def Only (H : Hp) : Prop := ∀ b, H b = none ∨ ∃ o xs, H b = some (.frz o (.lst xs))

/-- THE HEAD: the law's promise, at the heap behind the top. F, the promise of the law's def, may use that base is part of the heap (so K.In base, base.Ns mainGlobals mg stand in Mod) -/
theorem law_call {P : Program} {w : World} {K : PySem.W.Frag} {mg mb : Str → Option Value} {CX : CXT} {k : Nat} {fa a : Addr} {fd : FuncData} {x : Str} {sp : Sp} {s₁ : Shared} {vs : List Value} {ns : List Int}
    (KX : K.In s₁.heap) (hns : s₁.heap.Ns mainGlobals mg) (hb : s₁.heap.Ns builtinsNs mb) (hbb : ∀ x : Str, x ≠ "__name__" → mb x = bootBuiltins x) (hlim : s₁.heap.NoLimit) (hg : s₁.gens = #[])
    (ha : s₁.heap.get? a = some { cls := .type "list", data := .seq vs.toArray }) (hi : IntsAre vs ns) (hl : ns.length ≤ sizeLine) (hr : Room k callerA)
    (F : ∀ base : Heap, K.In base → base.Ns mainGlobals mg → FnOk P w K mg base CX k fa fd [x] sp) (hbind : ∀ (s : Shared) (u : Value), BindsTo s fd ⟨[u], []⟩ [(x, u)])
    (hsp : ∀ H : Hp, Only H → SqL K H a (ns.map V.int) → sp [.ref a] H (fun v _ => v = .bl true) fun _ _ _ => False)
    (hCX : ∀ H e s', CX [] H s₁ (fun _ _ _ => False) e s' → False) :
    codeAny (model P w) callerA (.call (.ref fa) ⟨[.ref a], []⟩) (fun r s' => r = .ok (.ret (.bool true)) ∧ OldK s₁.heap s'.heap ∧ s'.os = s₁.os ∧ AllBare s'.gens) s₁ := by
  have rv := vals_ints hi
  have lenV := hi.length
  -- from an abstract heap in which nothing but the script may be tracked
  have core : ∀ H : Hp, Only H → SqL K H a (ns.map V.int) → HOk P w H s₁.heap → (∀ b, H b ≠ none → b = a) → (H a ≠ none → K.lookup a = none) →
      codeAny (model P w) callerA (.call (.ref fa) ⟨[.ref a], []⟩) (fun r s' => r = .ok (.ret (.bool true)) ∧ OldK s₁.heap s'.heap ∧ s'.os = s₁.os ∧ AllBare s'.gens) s₁ := by
    intro H hO hS hok hA hK
    have base_of : ∀ {b : Addr} {o : Obj}, s₁.heap.get? b = some o → H b = none → (hidT s₁.heap H).get? b = some o := fun e n => hidT_get e n
    have noA : ∀ {b : Addr} {o : Obj} {es : Array DictEntry} {ep : Nat}, s₁.heap.get? b = some o → o.data = .dict es ep → H b = none := fun {b o es ep} e d => by
      cases q : H b with
      | none => rfl
      | some u =>
        have e' : b = a := hA b (by rw [q]; simp)
        subst e'
        rw [ha] at e; cases e
        have d' : Data.seq vs.toArray _ = Data.dict es ep := d
        cases d'
    have nsK : ∀ {b : Addr} {m : Str → Option Value}, s₁.heap.Ns b m → (hidT s₁.heap H).Ns b m := fun {b m} ⟨o, es, ep, e, d, r⟩ => ⟨o, es, ep, base_of e (noA e d), d, r⟩
    have hKb : K.In (hidT s₁.heap H) := fun b o e => base_of (KX b o e) (by
      cases q : H b with
      | none => rfl
      | some u =>
        have e' : b = a := hA b (by rw [q]; simp)
        subst e'
        rw [hK (by rw [q]; simp)] at e; cases e)
    have hM : Mod K mg (hidT s₁.heap H) := ⟨hKb, nsK hns, ⟨mb, nsK hb, hbb⟩, let ⟨mc, h1, h2⟩ := hlim; ⟨mc, nsK h1, h2⟩⟩
    have e0 : Env0 P w K mg (hidT s₁.heap H) callerA [] s₁ H := ⟨rfl, hM, fun b o e => of_hidT e, Nat.le_of_eq (hidT_size _ _), trivial, fun b hb => absurd (show b ∈ ([] : List Addr) from hb) (by simp), hok, .of_eq hg⟩
    refine codeAny_mono ((F _ hKb (nsK hns)).run callerA [] s₁ H ⟨[.ref a], []⟩ [.ref a] [.ref a] _ _ hr e0 (hbind s₁ (.ref a)) (.cons rfl .nil) (hsp H hO hS)) fun r s' h => ?_
    cases r with
    | error e => exact (hCX H e s' h).elim
    | ok fl =>
      cases fl with
      | next => exact False.elim h
      | brk => exact False.elim h
      | cont => exact False.elim h
      | ret u =>
        obtain ⟨v, H', os, bare, un, hok', r', q⟩ := h
        have q' : v = .bl true := q
        subst q'
        obtain rfl : u = Value.bool true := r'
        refine ⟨rfl, OldK.of_keep fun b o e => ?_, os, bare⟩
        cases q : H b with
        | none => exact un.keep b o e q (by intro z; exact absurd (show b ∈ ([] : List Addr) from z) (by simp)) (by simp)
        | some u =>
          rcases hO b with z | ⟨ob, xs, z⟩
          · rw [q] at z; cases z
          · have z2 := un.frzs b ob _ z
            obtain ⟨e1, _⟩ := hok b _ z
            obtain ⟨e2, _⟩ := hok' b _ z2
            rw [e] at e1; cases e1
            exact e2
  cases hk : K.lookup a with
  | some o =>
    -- the script is one of the module's own objects
    have e := KX a o hk
    rw [ha] at e
    cases e
    refine core (fun _ => none) (fun _ => .inl rfl) (.inr ⟨_, vs.toArray, _, hk, rfl, rfl, rfl, by rw [List.size_toArray, lenV]; exact hl, by simpa using rv⟩) (fun b u z => by have z' : (none : Option HO) = some u := z; cases z') (fun b z => absurd rfl z) fun z => absurd rfl z
  | none =>
    refine core (fun b => if b = a then some (.frz { cls := .type "list", data := .seq vs.toArray } (.lst (ns.map V.int))) else none) (fun b => ?_) (.inl (.inr ⟨{ cls := .type "list", data := .seq vs.toArray }, if_pos rfl⟩)) (fun b u z => ?_) (fun b z => ?_) fun _ => hk
    · by_cases hb : b = a
      · exact .inr ⟨_, _, if_pos hb⟩
      · exact .inl (if_neg hb)
    · by_cases hb : b = a
      · have z' := (if_pos hb).symm.trans z
        cases z'
        subst hb
        exact ⟨ha, by rw [List.length_map]; exact hl, vs, _, rv, ha⟩
      · have z' := (if_neg hb).symm.trans z
        cases z'
    · by_cases hb : b = a
      · exact hb
      · exact absurd (if_neg hb) z
end L2

namespace L2
open PySem PySem.Spec PyProof.Rows

abbrev KOf {K : PySem.W.Frag} {h : Heap} (_ : K.In h) : PySem.W.Frag := K

/-- the goal that k_head leaves (case hc), from the law's promise. F gives the function object fd (K's own) once, then the promise over every base -/
theorem walk_of {l : PySem.W.OpenLaw} {n k : Nat} {q : Program} {loose : List Str} {XP : (Str → Option Value) → Heap → Prop} {YP : World → Heap → Prop} {d : DefRec} {K : Params → PySem.W.Frag} {CX : World → CXT} {sp : World → Sp} {x : Str}
    (hn : l.most = some n) (hn2 : n ≤ sizeLine) (hdf : d.params.defaults = []) (hr : Room k callerA)
    (hY : ∀ (w : World) (h : Heap), YP w h → (K w.params).In h)
    (F : ∀ (w : World) (mg : Str → Option Value) (fa : Addr) (h : Heap), (K w.params).In h → h.Ns mainGlobals mg → mg d.name = some (.ref fa) →
      ∃ fd : FuncData, (∀ (s : Shared) (u : Value), BindsTo s fd ⟨[u], []⟩ [(x, u)]) ∧
        ∀ base : Heap, (K w.params).In base → base.Ns mainGlobals mg → FnOk l.prog w (K w.params) mg base (CX w) k fa fd [x] (sp w))
    (hsp : ∀ (w : World) (H : Hp) (a : Addr) (ns : List Int), ns.length ≤ n → Only H → SqL (K w.params) H a (ns.map V.int) → sp w [.ref a] H (fun v _ => v = .bl true) fun _ _ _ => False)
    (hCX : ∀ (w : World) (H : Hp) (s : Shared) (e : Value) (s' : Shared), CX w [] H s (fun _ _ _ => False) e s' → False) :
    PySem.W.WalkO q loose XP YP l.row.toRowW d [] (fun f vs => PySem.call f vs) := by
  refine Att.attach_call hn hdf fun w s₀ s₁ mg mb fa o pm cd doc a vs ns G Y ho hd hcd hmg hobj hints hlen hg => ?_
  have KX := hY w _ Y
  obtain ⟨fd, hb, hF⟩ := F w mg fa _ KX G.T.g hmg
  exact law_call KX G.T.g G.T.b G.T.builtins G.T.nolimit hg hobj hints (Nat.le_trans hlen hn2) hr hF hb (fun H hO hS => hsp w H a ns hlen hO hS) fun H e s' => hCX w H s₁ e s'
/-- the same where the promise hangs on the written part alone: (sp := My.sp_law), no hole under a binder -/
theorem walk_ofK {l : PySem.W.OpenLaw} {n k : Nat} {q : Program} {loose : List Str} {XP : (Str → Option Value) → Heap → Prop} {YP : World → Heap → Prop} {d : DefRec} {K : Params → PySem.W.Frag} {CX : CXT} {sp : PySem.W.Frag → Sp} {x : Str}
    (hn : l.most = some n) (hn2 : n ≤ sizeLine) (hdf : d.params.defaults = []) (hr : Room k callerA)
    (hY : ∀ (w : World) (h : Heap), YP w h → (K w.params).In h)
    (F : ∀ (w : World) (mg : Str → Option Value) (fa : Addr) (h : Heap), (K w.params).In h → h.Ns mainGlobals mg → mg d.name = some (.ref fa) →
      ∃ fd : FuncData, (∀ (s : Shared) (u : Value), BindsTo s fd ⟨[u], []⟩ [(x, u)]) ∧
        ∀ base : Heap, (K w.params).In base → base.Ns mainGlobals mg → FnOk l.prog w (K w.params) mg base CX k fa fd [x] (sp (K w.params)))
    (hsp : ∀ (K : PySem.W.Frag) (H : Hp) (a : Addr) (ns : List Int), ns.length ≤ n → Only H → SqL K H a (ns.map V.int) → sp K [.ref a] H (fun v _ => v = .bl true) fun _ _ _ => False)
    (hCX : ∀ (H : Hp) (s : Shared) (e : Value) (s' : Shared), CX [] H s (fun _ _ _ => False) e s' → False) :
    PySem.W.WalkO q loose XP YP l.row.toRowW d [] (fun f vs => PySem.call f vs) :=
  walk_of (K := K) (CX := fun _ => CX) (sp := fun w => sp (K w.params)) hn hn2 hdf hr hY F (fun w H a ns h1 h2 h3 => hsp (K w.params) H a ns h1 h2 h3) fun _ H s e s' => hCX H s e s'
end L2

/- THE LAST THEOREM (shape; LID, My.* are yours):
   My.Adr: a structure of the addresses that your layer names (classes, functions); My.Txt K t: a structure (Prop) of the equations over K;
   My.txt_mk : {K} {implicit addresses ..} (e1 : nsIn K mainGlobals "law" = some (some (.ref f))) (e2 : K.lookup f = some ⟨oc, od, .func (fnOf "law" "law" params body scope dV kV doc pm an cdv ct), sl⟩) (e3 : codeIn K cdv "law" = true) .. : ∃ t, My.Txt K t

set_option maxRecDepth 100000 in
set_option maxHeartbeats 0 in
theorem PySem.Challenge.cw_LID_holds : PySem.Challenge.rw_LID.Holds := by
  w_on; o_law; k_head; (case hw => w_witness2)
  k_fill
  refine L2.walk_of (l := PySem.Challenge.rw_LID) (n := 63) (k := 40) (x := "script") (CX := fun w => ..) (sp := fun _ => My.sp_law) rfl (by decide) rfl ⟨rfl, by decide, by decide⟩ (fun w h Y => PySem.W.kIn_of Y) ?F ?S ?C
  case F =>
    intro w mg fa h KX G hmg
    have T : ∃ t, My.Txt (L2.KOf KX) t := by
      dsimp only [L2.KOf]                          -- K must stand as «<heap const> w.params» for k_is
      refine' My.txt_mk ?e1 ?e2 ?e3 ..
      (case e1 => PySem.W.k_is)                    -- in the order: a name -> its address -> its object -> its parts
      (case e2 => PySem.W.k_is)
      ..
    obtain ⟨t, T⟩ := T
    have e0 := hmg.symm.trans (PySem.W.mg_of KX G T.law)
    cases e0                                       -- fa is the law's own address
    exact ⟨_, fun s u => .of_eq rfl, fun base kb nb => My.law_fn T kb nb⟩     -- if «.of_eq rfl» comes too early: refine' ⟨_, ?b, fun base kb nb => My.law_fn T kb nb⟩; exact fun s u => .of_eq rfl
  case S => exact fun w H a ns hl hO hS => ..
  case C => exact ..
(the tactic k_is has no namespace: write k_is) -/

/-! SHORT WORDS over the layer: a def of the text, its body, what a loop and a test want. -/
namespace L2
open PySem PySem.Spec PyProof.Rows

/-! ### the text by places -/
/-- the j-th statement of a class's body -/
def inClass (s : Stmt) (j : Nat) : Stmt := match s with
  | .ClassDef _ _ _ body _ _ _ _ _ _ _ => body.getD j (.Pass ⟨0, 0, 0, 0⟩)
  | _ => .Pass ⟨0, 0, 0, 0⟩
def defArgs (s : Stmt) : Arguments := match s with
  | .FunctionDef _ a _ _ _ _ _ _ _ _ => a
  | _ => { posonlyargs := [], args := [], vararg := none, kwonlyargs := [], kw_defaults := [], kwarg := none, defaults := [] }
def defBody (s : Stmt) : List Stmt := match s with
  | .FunctionDef _ _ b _ _ _ _ _ _ _ => b
  | _ => []
def defScope (s : Stmt) : Scope := match s with
  | .FunctionDef _ _ _ _ _ _ sc _ _ _ => sc
  | _ => { kind := .function, names := [], isGenerator := false, isCoroutine := false }

/-! ### no exception leaves a def -/
abbrev CX0 : CXT := fun _ _ _ _ _ _ => False
abbrev E0 : XK := fun _ _ _ => False
theorem pass0 {X : Cx} : Passes CX0 X E0 := fun _ _ _ _ _ _ _ h => h.elim

/-! ### a def (or method) of the text as it stands behind the top -/
structure Fun (K : PySem.W.Frag) (x qual : Str) (st : Stmt) (f : Addr) (fd : FuncData) : Prop where
  ex : ∃ (oc : Value) (od : Option Addr) (kV doc pm : Value) (an : Option Addr) (cdv ct : Value) (osl : Array (Option Value)),
    fd = PySem.W.fnOf x qual (defArgs st) (defBody st) (defScope st) .none kV doc pm an cdv ct ∧ K.lookup f = some ⟨oc, od, .func fd, osl⟩ ∧ PySem.W.codeIn K cdv qual = true
  kp : PySem.W.keepIn K (.ref f) = true
section
variable {P : Program} {w : World} {K : PySem.W.Frag} {mg : Str → Option Value} {base : Heap}
/-- THE RULE for a def: its body as a term of rules, and the reading of that term -/
theorem Fun.ok {x qual : Str} {st : Stmt} {f : Addr} {fd : FuncData} {N ps : List Str} {k : Nat} {sp : Sp} (F : Fun K x qual st f fd) (S : FnScope N ps (defScope st)) (len : ∀ vs H Q E, sp vs H Q E → vs.length = ps.length)
    (hbody : ∀ (cdv : Value) (A : Around) (outer : List Env) (s : Shared) (H : Hp) (vs : List V) (Q : VK) (E : XK), Room k (A.deeper (envOfC qual (defScope st) s.heap.objs.size f cdv)) → sp vs H Q E →
      ∃ t, PSs (cxOf CX0 P w K mg base N qual (defScope st) f cdv A outer s H E).nox (defBody st) t ∧ t { nx := fun _ H' => Q .non H', rt := Q } (start N vs) H) : FnOk P w K mg base CX0 (k + 1) f fd ps sp := by
  obtain ⟨oc, od, kV, doc, pm, an, cdv, ct, osl, rfl, lk, hcd⟩ := F.ex
  refine fn_of lk hcd S len fun A outer s H vs Q E hr hsp => ?_
  obtain ⟨t, h, q⟩ := hbody cdv A outer s H vs Q E hr hsp
  exact ⟨t, h.nox, q⟩
/-- how its arguments bind (no defaults): h is «fun _ _ _ _ _ _ us hl => match us, hl with | [_, _], _ => rfl», one _ a parameter -/
theorem Fun.binds {x qual : Str} {st : Stmt} {f : Addr} {fd : FuncData} {ps : List Str} (F : Fun K x qual st f fd)
    (h : ∀ (kV doc pm : Value) (an : Option Addr) (cdv ct : Value) (us : List Value), us.length = ps.length → bindArgs (PySem.W.fnOf x qual (defArgs st) (defBody st) (defScope st) .none kV doc pm an cdv ct) ⟨us, []⟩ = pure (ps.zip us)) : Binds K fd ps [] := by
  obtain ⟨oc, od, kV, doc, pm, an, cdv, ct, osl, rfl, lk, hcd⟩ := F.ex
  exact .all (h kV doc pm an cdv ct)
theorem fun_mk {x qual : Str} {st : Stmt} {f : Addr} {oc : Value} {od an : Option Addr} {osl : Array (Option Value)} {kV doc pm cdv ct : Value} (l : K.lookup f = some ⟨oc, od, .func (PySem.W.fnOf x qual (defArgs st) (defBody st) (defScope st) .none kV doc pm an cdv ct), osl⟩)
    (c : PySem.W.codeIn K cdv qual = true) (k : PySem.W.keepIn K (.ref f) = true) : Fun K x qual st f (PySem.W.fnOf x qual (defArgs st) (defBody st) (defScope st) .none kV doc pm an cdv ct) := ⟨⟨oc, od, kV, doc, pm, an, cdv, ct, osl, rfl, l, c⟩, k⟩
end
theorem hu_of {A : Around} {k : Nat} (hr : Room k A) : A.units + 1 < cLine := Nat.lt_of_le_of_lt (Nat.add_le_add_left (by decide : 1 ≤ 64) _) hr.units
theorem small1000 {n : Nat} (h : n ≤ 1000) : n < sizeLine := Nat.lt_of_le_of_lt h (by decide)

/-! ### expressions in short: the name that stands in the i-th slot -/
section
variable {X : Cx}
theorem pv (i : Nat) {x : Str} {pos : Pos} (hN : X.N[i]? = some x := by rfl) (hv : Vis X.env.scope x := by first | exact Or.inl rfl | exact Or.inr (Or.inl rfl) | exact Or.inr (Or.inr rfl)) (hd : (x == ("__debug__" : Str)) = false := by decide)
    (hcd : (x == ("__classdict__" : Str)) = false := by decide) : PE X (.Name x pos) (tVar i) := pe_var hN hv hd hcd
end

/-! ### tests -/
theorem iteF {A B : Prop} (h : B) : if false = true then A else B := by
  rw [if_neg Bool.false_ne_true]
  exact h
theorem iteT {A B : Prop} (h : A) : if true = true then A else B := by
  rw [if_pos rfl]
  exact h
theorem ite2 {c A B : Prop} [Decidable c] (h1 : c → A) (h2 : ¬ c → B) : if c then A else B := by
  by_cases h : c
  · rw [if_pos h]
    exact h1 h
  · rw [if_neg h]
    exact h2 h
theorem iteNS {c A B : Prop} [Decidable c] (hc : c) (h : B) : if (!decide c) = true then A else B := by
  rw [decide_eq_true hc]
  exact iteF h

/-! ### heaps -/
/-- all that was tracked is as it was -/
def Same (H H' : Hp) : Prop := ∀ b o, H b = some o → H' b = some o
theorem Same.refl (H : Hp) : Same H H := fun _ _ h => h
theorem Same.trans {H H1 H2 : Hp} (a : Same H H1) (b : Same H1 H2) : Same H H2 := fun c o h => b c o (a c o h)
theorem Same.free {H H' : Hp} (e : Same H H') {l : Addr} (h : H' l = Option.none) : H l = Option.none := by
  cases q : H l with
  | none => rfl
  | some o =>
    rw [e l o q] at h
    cases h
theorem Same.seq {K : PySem.W.Frag} {H H' : Hp} {a : Addr} {xs : List V} (e : Same H H') (h : SqL K H a xs) : SqL K H' a xs := by
  rcases h with (h | ⟨o, h⟩) | h
  · exact .inl (.inl (e _ _ h))
  · exact .inl (.inr ⟨o, e _ _ h⟩)
  · exact .inr h

end L2

set_option Elab.async false
set_option linter.all false
set_option maxRecDepth 100000
/-! COMPREHENSIONS over the hand layer: [elt for tg in iter if c] -/
namespace L2
open PySem PySem.Spec PyProof.Rows

/-- the cells that a block closes over -/
def closOf (cells : List (Str × Addr)) : List (Str × NameKind) → List (Str × Addr) → List (Str × Addr)
  | [], cs => cs
  | (n, k) :: r, cs => if k == .free then closOf cells r ((n, (cells.lookup n).getD 0) :: cs) else closOf cells r cs
theorem closureFor_go {env : Env} : ∀ (names : List (Str × NameKind)) (cs : List (Str × Addr)), (∀ x ∈ names, x.2 = .free → ∃ c, env.cells.lookup x.1 = some c) →
    (forIn names cs fun (x : Str × NameKind) (r : List (Str × Addr)) => (match x with | (name, kind) => if (kind == .free) = true then do let c ← cellOf env name; pure (ForInStep.yield ((name, c) :: r)) else pure (ForInStep.yield r) : Sem (ForInStep (List (Str × Addr))))) = (pure (closOf env.cells names cs) : Sem (List (Str × Addr)))
  | [], cs, _ => rfl
  | (n, k) :: r, cs, h => by
    rw [List.forIn_cons]
    have hr : ∀ x ∈ r, x.2 = .free → ∃ c, env.cells.lookup x.1 = some c := fun x hx => h x (List.mem_cons_of_mem _ hx)
    by_cases hk : (k == NameKind.free) = true
    · obtain ⟨c, hc⟩ := h (n, k) List.mem_cons_self (by simpa using hk)
      have e : cellOf env n = pure c := by unfold cellOf; rw [hc]
      simp only [hk, ↓reduceIte, e, pure_bind]
      rw [closureFor_go r _ hr]
      simp only [closOf, hk, ↓reduceIte, hc, Option.getD_some]
    · simp only [hk, ↓reduceIte, Bool.false_eq_true, pure_bind]
      rw [closureFor_go r _ hr]
      simp only [closOf, hk, ↓reduceIte, Bool.false_eq_true]
theorem closureFor_eq {env : Env} {scope : Scope} (h : ∀ x ∈ scope.names, x.2 = .free → ∃ c, env.cells.lookup x.1 = some c) : closureFor scope env = pure (closOf env.cells scope.names []) := by
  unfold closureFor
  have e := closureFor_go (env := env) scope.names [] h
  simp only [bind_pure] 
  exact e
theorem closOf_look {cells : List (Str × Addr)} {x : Str} {c : Addr} : ∀ (names : List (Str × NameKind)) (cs : List (Str × Addr)), (∀ y ∈ names, y.2 = .free → ∃ c, cells.lookup y.1 = some c) → (∀ c, cs.lookup x = some c → cells.lookup x = some c) →
    (closOf cells names cs).lookup x = some c → cells.lookup x = some c
  | [], cs, _, h, e => h c e
  | (n, k) :: r, cs, hh, h, e => by
    have hr : ∀ x ∈ r, x.2 = .free → ∃ c, cells.lookup x.1 = some c := fun x hx => hh x (List.mem_cons_of_mem _ hx)
    by_cases hk : (k == NameKind.free) = true
    · simp only [closOf, hk, if_true] at e
      refine closOf_look r _ hr (fun c' e' => ?_) e
      rw [List.lookup_cons] at e'
      obtain ⟨c0, hc0⟩ := hh (n, k) List.mem_cons_self (by simpa using hk)
      cases hx : x == n with
      | true =>
        rw [hx] at e'
        have hxn : x = n := by simpa using hx
        subst hxn
        have hc0' : cells.lookup x = some c0 := hc0
        rw [hc0'] at e'
        simp only [Option.getD_some] at e'
        rw [hc0']; exact e'
      | false => rw [hx] at e'; exact h c' e'
    · simp only [closOf, hk, if_false] at e
      exact closOf_look r cs hr h e
theorem closOf_keep {cells : List (Str × Addr)} {x : Str} : ∀ (names : List (Str × NameKind)) (cs : List (Str × Addr)), (∃ c, cs.lookup x = some c) → ∃ c, (closOf cells names cs).lookup x = some c
  | [], cs, h => h
  | (n, k) :: r, cs, ⟨c, h⟩ => by
    by_cases hk : (k == NameKind.free) = true
    · simp only [closOf, hk, if_true]
      refine closOf_keep r _ ?_
      rw [List.lookup_cons]
      cases hx : x == n with
      | true => exact ⟨_, rfl⟩
      | false => exact ⟨c, h⟩
    · simp only [closOf, hk, if_false]
      exact closOf_keep r cs ⟨c, h⟩
theorem closOf_has {cells : List (Str × Addr)} {x : Str} : ∀ (names : List (Str × NameKind)) (cs : List (Str × Addr)), names.lookup x = some .free → ∃ c, (closOf cells names cs).lookup x = some c
  | [], cs, h => by simp at h
  | (n, k) :: r, cs, h => by
    rw [List.lookup_cons] at h
    cases hx : x == n with
    | true =>
      rw [hx] at h
      cases h
      simp only [closOf, beq_self_eq_true, if_true]
      refine closOf_keep r _ ⟨(cells.lookup n).getD 0, ?_⟩
      rw [List.lookup_cons, hx]
    | false =>
      rw [hx] at h
      by_cases hk : (k == NameKind.free) = true
      · simp only [closOf, hk, if_true]
        exact closOf_has r _ h
      · simp only [closOf, hk, if_false]
        exact closOf_has r cs h

/-- what a relabelled block's name was -/
theorem relabel_look {env : Env} : ∀ {names : List (Str × NameKind)} {x : Str} {k : NameKind},
    (names.map fun (n, k) => if (k == NameKind.free && env.scope.kind == .function && env.kindOf n == some .cell) then (n, NameKind.cell) else (n, k)).lookup x = some k → k = .cell ∨ k = .free →
    (∀ y ∈ names, y.2 ≠ .cell) → names.lookup x = some .free
  | [], _, _, h, _, _ => by simp at h
  | (n, k') :: r, x, k, h, hk, hc => by
    have ih := @relabel_look env r x k
    have hc' : ∀ y ∈ r, y.2 ≠ .cell := fun y hy => hc y (List.mem_cons_of_mem _ hy)
    have hc0 : k' ≠ .cell := hc (n, k') List.mem_cons_self
    have h : List.lookup x ((if (k' == NameKind.free && env.scope.kind == .function && env.kindOf n == some .cell) = true then (n, NameKind.cell) else (n, k')) :: _) = _ := h
    cases hx : x == n with
    | true =>
      rw [List.lookup_cons, hx]
      by_cases hq : (k' == NameKind.free && env.scope.kind == .function && env.kindOf n == some .cell) = true
      · have : (k' == NameKind.free) = true := by
          cases hz : (k' == NameKind.free)
          · rw [hz] at hq; simp at hq
          · rfl
        have e : k' = .free := by simpa using this
        rw [e]
      · rw [if_neg hq] at h
        simp only [List.lookup_cons, hx] at h
        cases h
        rcases hk with e | e
        · exact absurd e hc0
        · rw [e]
    | false =>
      rw [List.lookup_cons, hx]
      refine ih ?_ hk hc'
      by_cases hq : (k' == NameKind.free && env.scope.kind == .function && env.kindOf n == some .cell) = true
      · rw [if_pos hq] at h; simp only [List.lookup_cons, hx] at h; exact h
      · rw [if_neg hq] at h; simp only [List.lookup_cons, hx] at h; exact h

/-- the block's context -/
def compCx (X : Cx) (scope : Scope) (N' : List Str) (C : Addr) (fp : List Addr) (s : Shared) (H : Hp) : Cx :=
  { prog := X.prog, w := X.w, K := X.K, mg := X.mg, base := X.base, A := X.A, N := N', s₀ := s, H₀ := H, env := compEnvC scope (closOf X.env.cells scope.names []) C X.env,
    outer := X.stack, stack := X.stack, ex := fp, fn := fun _ => false, calm := X.calm, pn := [], xe := fun _ _ => False }

/-- a target that writes its own slots alone -/
def GOwn (own : List Nat) (g : TG) : Prop := ∀ v σ H Q, g v σ H Q → g v σ H fun σ' H' => Q σ' H' ∧ σ'.length = σ.length ∧ ∀ i, i ∉ own → σ'[i]? = σ[i]?
def GsOwn (own : List Nat) (g : TGs) : Prop := ∀ vs σ H Q, g vs σ H Q → g vs σ H fun σ' H' => Q σ' H' ∧ σ'.length = σ.length ∧ ∀ i, i ∉ own → σ'[i]? = σ[i]?
theorem own_name (j : Nat) : GOwn [j] (gName j) := fun v σ H Q h => ⟨h, by simp, fun i hi => by
  have : j ≠ i := fun e => hi (by simp [e])
  rw [List.getElem?_set_ne this]⟩
theorem own_nil : GsOwn [] gNil := fun vs σ H Q h => ⟨h.1, h.2, rfl, fun _ _ => rfl⟩
theorem own_pair (j k : Nat) : GsOwn [j, k] (gCons (gName j) (gCons (gName k) gNil)) := fun vs σ H Q h => by
  obtain ⟨v, r, e1, v2, r2, e2, e3, q⟩ := h
  refine ⟨v, r, e1, v2, r2, e2, e3, q, by simp, fun i hi => ?_⟩
  have h1 : j ≠ i := fun e => hi (by simp [e])
  have h2 : k ≠ i := fun e => hi (by simp [e])
  rw [List.getElem?_set_ne h2, List.getElem?_set_ne h1]
theorem own_tup {K : PySem.W.Frag} {n : Nat} {own : List Nat} {t : TGs} (h : GsOwn own t) : GOwn own (gTup K n t) := fun v σ H Q ⟨a, xs, e, hq, hl, q⟩ => ⟨a, xs, e, hq, hl, h _ _ _ _ q⟩

/-- a block's tests -/
def PTs (X : Cx) (ifs : List Expr) (t : TT) : Prop :=
  ∀ (pins : List (Addr × Obj)) (s : Shared) (σ : St) (H : Hp) (Q : Bool → Hp → Prop), Inv X pins σ H s → t σ H Q →
    wpAny (model X.prog X.w) X.A (forIn ifs true fun c r => if r = true then do let ok ← isTrue c X.env (eval c X.env); pure (ForInStep.yield ok) else pure (ForInStep.yield r)) (TP X pins σ Q) X.xe s
def tYes : TT := fun _ H Q => Q true H
theorem pts_nil {X : Cx} : PTs X [] tYes := fun _ _ _ H _ I h => wpAny_tests_nil ⟨H, I, h⟩
theorem pts_one {X : Cx} {c : Expr} {t : TT} (h : PT X c t) : PTs X [c] t := fun pins s σ H Q I q => wpAny_tests_one (h pins s σ H Q I q)

/-- one turn after another -/
theorem compLoop_any {prog : Program} {w : World} {A : Around} {R : Result → Shared → Prop} {s : Shared} {elt target iter : Expr} {ifs : List Expr} {scope : Scope} {pos : Pos} {it acc : Value} {env : Env} (I : Nat → Shared → Prop)
    (turn : ∀ n s, I n s → wpAny (model prog w) A (pyNext it) (fun r s₁ => match r with
      | none => R (.ok .next) s₁
      | some v => wpAny (model prog w) A (letOwnedTupleGo target it v) (fun _ s₁' => wpAny (model prog w) A (assign target env v) (fun _ s₂ =>
          wpAny (model prog w) A (forIn ifs true fun c r => if r = true then do let ok ← isTrue c env (eval c env); pure (ForInStep.yield ok) else pure (ForInStep.yield r)) (fun ok s₃ =>
            if ok = true then wpAny (model prog w) A (eval elt env) (fun x s₄ =>
              wpAny (model prog w) A (call (.builtin "list.append") [acc, x]) (fun _ s₅ => ∃ m, m < n ∧ I m s₅) (fun _ _ => False) s₄) (fun _ _ => False) s₃
            else ∃ m, m < n ∧ I m s₃) (fun _ _ => False) s₂) (fun _ _ => False) s₁') (fun _ _ => False) s₁) (fun _ _ => False) s)
    (n : Nat) (h : I n s) : codeAny (model prog w) A (.compLoop (.ListComp elt [⟨target, iter, ifs, 0⟩] scope pos) 0 it acc env) R s := by
  refine codeAny_loop rfl I (fun n s hI => ?_) n h
  show wpAny _ A ((compTurn (.ListComp elt [⟨target, iter, ifs, 0⟩] scope pos) 0 it acc env).onRaise (fun x => do noteFrame x env; theTreesLotGoes x)) _ _ s
  refine wpAny_noted ?_
  rw [compTurn_list]
  refine wpAny_bind (wpAny_standAt (wpAny_bind (wpAny_mono (turn n s hI) (fun r s₁ h₁ => ?_) fun _ _ h' => h'.elim)))
  cases r with
  | none => exact wpAny_pure h₁
  | some v =>
    refine wpAny_bind (wpAny_mono h₁ (fun _ s₁' h₁' => ?_) fun _ _ h' => h'.elim)
    refine wpAny_bind (wpAny_mono h₁' (fun _ s₂ h₂ => wpAny_bind (wpAny_mono h₂ (fun ok s₃ h₃ => ?_) fun _ _ h' => h'.elim)) fun _ _ h' => h'.elim)
    cases ok with
    | false => exact wpAny_pure ⟨rfl, h₃⟩
    | true =>
      exact wpAny_bind (wpAny_bind (wpAny_mono h₃ (fun x s₄ h₄ => wpAny_bind (wpAny_mono h₄ (fun _ s₅ h₅ => wpAny_pure (wpAny_pure ⟨rfl, h₅⟩)) fun _ _ h' => h'.elim)) fun _ _ h' => h'.elim))

/-- the block's slots at each turn's start: outer names' values, its own none -/
def inner (fr : List (Option Nat)) (σ : St) : St := fr.map fun o => o.bind fun j => (σ[j]?).join
/-- the reading: W is the invariant by the turn, a measure, the items so far -/
def CGoal (J : It) (fr : List (Option Nat)) (g : TG) (ti : TT) (te : TE) (σ : St) (H1 : Hp) (l : Addr) (Q : VK) : Prop :=
  ∃ W : Nat → Nat → List V → Hp → Prop, (∃ m, W 0 m [] (upd H1 l (.lst []))) ∧ ∀ i m ys H', W i m ys H' →
    (J.stop i H' ∧ Q (.ref l) H') ∨ (J.go i H' ∧ ∃ N : List V → Hp → Prop, (∀ zs H'', N zs H'' → ∃ m', m' < m ∧ W (i + 1) m' zs H'') ∧ ∀ x H2, J.yld i H' x H2 → g x (inner fr σ) H2 fun σ3 H3 => ti σ3 H3 fun b H4 => if b = true then
      te σ3 H4 fun y H5 => H5 l = some (.lst ys) ∧ ys.length < sizeLine ∧ N (ys ++ [y]) (upd H5 l (.lst (ys ++ [y]))) else N ys H4)
def tComp (wi : TI) (fr : List (Option Nat)) (g : TG) (ti : TT) (te : TE) : TE := fun σ H Q => wi σ H fun J H1 => ∀ l, H1 l = none → CGoal J fr g ti te σ H1 l Q

/-- how a block's scope must look: seen by rfl -/
structure CompOk (X : Cx) (scope : Scope) (N' : List Str) (fr : List (Option Nat)) (own : List Nat) : Prop where
  kind : scope.kind = .function
  cell : (scope.names.all fun x => x.2 != .cell) = true
  names : (scope.names.all fun x => x.2 != .local || scope.names.lookup x.1 == some .local) = true
  free : (scope.names.all fun x => x.2 != .free || X.env.scope.names.lookup x.1 == some .cell || X.env.scope.names.lookup x.1 == some .free) = true
  len : N'.length = fr.length
  from_ : ((N'.zip fr).all fun p => match p.2 with | none => true | some j => X.N[j]? == some p.1 && (scope.names.lookup p.1 == some .free)) = true
  own_ : (own.all fun j => fr[j]? == some none) = true

section
variable {X : Cx} {scope : Scope} {N' : List Str} {fr : List (Option Nat)} {own : List Nat} {elt tg iter : Expr} {ifs : List Expr} {wi : TI} {g : TG} {ti : TT} {te : TE} {pos : Pos}
theorem CompOk.hcell (c : CompOk X scope N' fr own) : ∀ y ∈ scope.names, y.2 ≠ .cell := fun y hy e => by
  have := List.all_eq_true.mp c.cell y hy
  rw [e] at this
  exact absurd this (by decide)
theorem CompOk.hnames (c : CompOk X scope N' fr own) : ∀ y ∈ scope.names, y.2 = .local → scope.names.lookup y.1 = some .local := fun y hy e => by
  have := List.all_eq_true.mp c.names y hy
  rw [e] at this
  simpa using this
theorem CompOk.hfree (c : CompOk X scope N' fr own) {pins : List (Addr × Obj)} {σ : St} {H : Hp} {s : Shared} (I : Inv X pins σ H s) : ∀ y ∈ scope.names, y.2 = .free → ∃ c, X.env.cells.lookup y.1 = some c := fun y hy e => by
  have := List.all_eq_true.mp c.free y hy
  rw [e] at this
  refine I.ok.has y.1 ?_
  have z : X.env.scope.names.lookup y.1 = some .cell ∨ X.env.scope.names.lookup y.1 = some .free := by simpa using this
  exact z

/-- the block's state at its start -/
theorem comp_start {pins : List (Addr × Obj)} {σ : St} {H : Hp} {s : Shared} {fp : List Addr} {h₁ : Heap} {m : Str → Option Value} {tk : Nat} (c : CompOk X scope N' fr own) (hc : X.calm = true) (I : Inv X pins σ H s) (hfp : ∀ b ∈ fp, FpOk X pins H b) (hlt : ∀ b ∈ fp, b < s.heap.objs.size)
    (hns : h₁.Ns s.heap.objs.size m) (hk : ∀ b o, s.heap.get? b = some o → h₁.get? b = some o) :
    Inv (compCx X scope N' s.heap.objs.size fp s H) [] (inner fr σ) H { s with heap := h₁, toks := tk } := by
  have hfree := c.hfree I
  have look : ∀ x cc, (closOf X.env.cells scope.names []).lookup x = some cc → X.env.cells.lookup x = some cc := fun x cc e => closOf_look _ _ hfree (by intro c' e'; simp at e') e
  have cellAt : ∀ x cc, X.env.cells.lookup x = some cc → ∃ v, h₁.IsCell cc v := fun x cc e => by
    obtain ⟨v, o, ho, hd⟩ := I.cell x cc e
    exact ⟨v, o, hk _ _ ho, hd⟩
  have ok : (compCx X scope N' s.heap.objs.size fp s H).Ok := by
    refine ⟨I.ok.mod, c.kind, I.ok.glob, I.ok.blt, Nat.le_refl _, fun x y cc h1 h2 => I.ok.inj x y cc (look x cc h1) (look y cc h2), fun x h => ?_, fun x cc h => absurd h Bool.false_ne_true, I.ok.hd, I.ok.frames, .inl rfl, fun b hb => ⟨Nat.ne_of_lt (hlt b hb), fun x cc e => (hfp b hb).2.2.2.2.1 x cc (look x cc e)⟩,
      fun b o e => I.bs b o e, Nat.le_trans I.ok.bsz I.sz, fun b o e hb => ?_, fun b hb hz => ?_, I.stack, I.stkFree⟩
    · have z : scope.names.lookup x = some .free := by
        rcases h with h | h
        · exact relabel_look (env := X.env) h (.inl rfl) c.hcell
        · exact relabel_look (env := X.env) h (.inr rfl) c.hcell
      exact closOf_has _ _ z
    · rcases (hfp b hb).2.2.2.1 with z | z
      · exact I.ok.noex b o e z
      · exact absurd (Nat.lt_of_lt_of_le (Heap.lt_size e) (Nat.le_trans I.ok.bsz z)) (Nat.lt_irrefl _)
    · rcases List.mem_cons.mp (I.stkSub b hz) with e | e
      · exact (hfp b hb).2.1 e
      · exact (hfp b hb).2.2.1 e
  refine ⟨ok, rfl, I.bare, Un.kept hk, ⟨m, hns, fun i x v e1 e2 hv => ?_⟩, fun x cc e => cellAt x cc (look x cc e), I.fresh, fun x cc e => I.freeC x cc (look x cc e), fun p hp => by simp [compCx] at hp, I.hok.kept hk, ?_⟩
  · -- an outer name
    have e1 : N'[i]? = some x := e1
    have e2 : (fr.map fun o => o.bind fun j => (σ[j]?).join)[i]? = some (some v) := e2
    rw [List.getElem?_map] at e2
    cases hfi : fr[i]? with
    | none => rw [hfi] at e2; simp at e2
    | some o =>
      rw [hfi] at e2
      simp only [Option.map_some, Option.some.injEq] at e2
      cases o with
      | none => simp at e2
      | some j =>
        have e3 : (σ[j]?).join = some v := by simpa using e2
        have e4 : σ[j]? = some (some v) := by
          cases hz : σ[j]? with
          | none => rw [hz] at e3; simp at e3
          | some z => rw [hz] at e3; simp at e3; rw [e3]
        have hm : (x, some j) ∈ N'.zip fr := by
          have : (N'.zip fr)[i]? = some (x, some j) := by rw [List.getElem?_zip_eq_some]; exact ⟨e1, hfi⟩
          exact List.mem_of_getElem? this
        have hz := List.all_eq_true.mp c.from_ _ hm
        have hz : (X.N[j]? == some x && (scope.names.lookup x == some .free)) = true := hz
        have hz1 : X.N[j]? = some x ∧ scope.names.lookup x = some .free := by simpa using hz
        obtain ⟨m0, hn0, hl0⟩ := I.loc
        have hxf : (X.env.scope.names.lookup x = some .cell ∨ X.env.scope.names.lookup x = some .free) := by
          have hmem : (x, NameKind.free) ∈ scope.names := PySem.mem_of_lookup hz1.2
          have := List.all_eq_true.mp c.free _ hmem
          simpa using this
        have vis : Vis X.env.scope x := .inr hxf
        obtain ⟨u, ru, lk⟩ := hl0 j x v hz1.1 e4 vis
        refine ⟨u, ru, ?_⟩
        rcases lk with ⟨k, _⟩ | ⟨k, cc, ec, hcell⟩
        · have k : X.env.scope.names.lookup x = some .local := k
          rcases hxf with h | h
          · rw [h] at k; cases k
          · rw [h] at k; cases k
        · obtain ⟨c2, hc2⟩ := closOf_has (cells := X.env.cells) (x := x) scope.names [] hz1.2
          have := look x c2 hc2
          rw [ec] at this
          cases this
          refine .inr ⟨?_, cc, hc2, ?_⟩
          · rcases hv with h | h
            · -- local in the relabelled scope: impossible
              exfalso
              have hl : ∀ (names : List (Str × NameKind)), names.lookup x = some .free → (names.map fun (n, k) => if (k == NameKind.free && X.env.scope.kind == .function && X.env.kindOf n == some .cell) then (n, NameKind.cell) else (n, k)).lookup x ≠ some .local := by
                intro names
                induction names with
                | nil => intro h; simp at h
                | cons p r ih =>
                  obtain ⟨n, k⟩ := p
                  intro h hh
                  have hh : List.lookup x ((if (k == NameKind.free && X.env.scope.kind == .function && X.env.kindOf n == some .cell) = true then (n, NameKind.cell) else (n, k)) :: _) = _ := hh
                  rw [List.lookup_cons] at h
                  cases hx : x == n with
                  | true =>
                    rw [hx] at h
                    cases h
                    by_cases hq : (NameKind.free == NameKind.free && X.env.scope.kind == .function && X.env.kindOf n == some .cell) = true
                    · rw [if_pos hq] at hh; simp [List.lookup_cons, hx] at hh
                    · rw [if_neg hq] at hh; simp [List.lookup_cons, hx] at hh
                  | false =>
                    rw [hx] at h
                    by_cases hq : (k == NameKind.free && X.env.scope.kind == .function && X.env.kindOf n == some .cell) = true
                    · rw [if_pos hq] at hh; simp only [List.lookup_cons, hx] at hh; exact ih h hh
                    · rw [if_neg hq] at hh; simp only [List.lookup_cons, hx] at hh; exact ih h hh
              exact hl _ hz1.2 h
            · exact h
          · obtain ⟨o, ho, hd⟩ := hcell
            exact ⟨o, hk _ _ ho, hd⟩
  · show (fr.map _).length = N'.length
    rw [List.length_map, c.len]

/-- the block run: fin says what is wanted of the outer state behind it -/
theorem comp_block {pins : List (Addr × Obj)} {σ : St} {H2 : Hp} {s2 : Shared} {it : Addr} {fp : List Addr} {tn : Nat → Heap → Prop} {J : It} {Q : VK} {RR : Value → Addr → Result → Shared → Prop} {E : Value → Shared → Prop} (c : CompOk X scope N' fr own) (hc : X.calm = true)
    (hg : ∀ C fp s H, PG (compCx X scope N' C fp s H) tg g) (ho : GOwn own g) (ht : ∀ C fp s H, PTs (compCx X scope N' C fp s H) ifs ti) (he : ∀ C fp s H, PE (compCx X scope N' C fp s H) elt te)
    (I2 : Inv X pins σ H2 s2) (T : Turn X.prog X.w X.K tg J fp it tn) (st2 : tn 0 s2.heap) (f2 : ∀ b ∈ fp, FpOk X pins H2 b)
    (R : ∀ l, H2 l = none → ∃ W : Nat → Nat → List V → Hp → Prop, (∃ m, W 0 m [] (upd H2 l (.lst []))) ∧ ∀ i m ys H', W i m ys H' →
      (J.stop i H' ∧ Q (.ref l) H') ∨ (J.go i H' ∧ ∃ N : List V → Hp → Prop, (∀ zs H'', N zs H'' → ∃ m', m' < m ∧ W (i + 1) m' zs H'') ∧ ∀ x H2, J.yld i H' x H2 → g x (inner fr σ) H2 fun σ3 H3 => ti σ3 H3 fun b H4 => if b = true then
        te σ3 H4 fun y H5 => H5 l = some (.lst ys) ∧ ys.length < sizeLine ∧ N (ys ++ [y]) (upd H5 l (.lst (ys ++ [y]))) else N ys H4))
    (fin : ∀ l C s' H', Inv X pins σ H' s' → (∃ m, s'.heap.Ns C m) → H' C = none → s2.heap.objs.size ≤ C → Q (.ref l) H' → RR (.ref l) C (.ok .next) s') :
    wpAny (model X.prog X.w) X.A (newList []) (fun acc s₃ => wpAny (model X.prog X.w) X.A (newFunctionEnv scope X.env.globals (closOf X.env.cells scope.names []) [] X.env.qual none .none (some X.env)) (fun cenv s₄ =>
      codeAny (model X.prog X.w) X.A (.compStart (.ListComp elt [⟨tg, iter, ifs, 0⟩] scope pos) 0 (.ref it) acc { cenv with scope := relabel scope X.env }) (RR acc cenv.locals) s₄) E s₃) E s2 := by
  refine wpAny_newObj_type (wpAny_newFunctionEnv c.hcell (by intro y hy; simp at hy) (fun h₁ hns₁ hsb₁ => ?_) c.kind)
  dsimp only at hns₁ hsb₁ ⊢
  have I3 : Inv X pins σ (upd H2 s2.heap.objs.size (.lst [])) { s2 with heap := s2.heap.push { cls := .type "list", data := .seq ([] : List Value).toArray } } := I2.lnew (its := []) (t' := s2.toks) .nil (Nat.zero_le _)
  have hl := I2.fresh
  obtain ⟨W, ⟨m0, w0⟩, turn⟩ := R _ hl
  -- the block's context
  generalize hs3 : ({ s2 with heap := s2.heap.push { cls := .type "list", data := .seq ([] : List Value).toArray } } : Shared) = s3 at I3
  have hh3 : s2.heap.push { cls := .type "list", dict := none, data := .seq ([] : List Value).toArray } = s3.heap := by rw [← hs3]
  have hz3 : s3.heap.objs.size = s2.heap.objs.size + 1 := by rw [← hs3]; exact Heap.size_push ..
  have up23 : ∀ b o, s2.heap.get? b = some o → s3.heap.get? b = some o := fun b o e => by rw [← hh3]; exact Heap.get?_push_of_some _ e
  have objs : ∀ b ∈ fp, ∃ o, s2.heap.get? b = some o ∧ ∀ v, o.data ≠ .cell v := T.obj _ _ st2
  have lt2 : ∀ b ∈ fp, b < s2.heap.objs.size := fun b hb => by obtain ⟨o, e, _⟩ := objs b hb; exact Heap.lt_size e
  have f3 : ∀ b ∈ fp, FpOk X pins (upd H2 s2.heap.objs.size (.lst [])) b := fun b hb => ⟨by rw [upd_ne (Nat.ne_of_lt (lt2 b hb))]; exact (f2 b hb).1, (f2 b hb).2⟩
  have st3 : tn 0 s3.heap := T.keep _ _ _ st2 fun b _ o e => up23 b o e
  rw [hh3] at hns₁ hsb₁ ⊢
  have up34 : ∀ b o, s3.heap.get? b = some o → h₁.get? b = some o := fun b o e => hsb₁.extBut b o (Nat.ne_of_lt (Heap.lt_size e)) (Heap.get?_push_of_some _ e)
  have I4 : Inv (compCx X scope N' s3.heap.objs.size fp s3 (upd H2 s2.heap.objs.size (.lst []))) [] (inner fr σ) (upd H2 s2.heap.objs.size (.lst [])) { s3 with heap := h₁, toks := s2.toks + ([] : List (Str × Value)).length } :=
    comp_start c hc I3 f3 (fun b hb => by rw [hz3]; exact Nat.lt_succ_of_lt (lt2 b hb)) hns₁ up34
  generalize hXX : compCx X scope N' s3.heap.objs.size fp s3 (upd H2 s2.heap.objs.size (.lst [])) = X' at I4
  have hg' := hg s3.heap.objs.size fp s3 (upd H2 s2.heap.objs.size (.lst []))
  have ht' := ht s3.heap.objs.size fp s3 (upd H2 s2.heap.objs.size (.lst []))
  have he' := he s3.heap.objs.size fp s3 (upd H2 s2.heap.objs.size (.lst []))
  rw [hXX] at hg' ht' he'
  have eP : X'.prog = X.prog := by rw [← hXX]; rfl
  have eW : X'.w = X.w := by rw [← hXX]; rfl
  have eK : X'.K = X.K := by rw [← hXX]; rfl
  have eA : X'.A = X.A := by rw [← hXX]; rfl
  have eC : X'.calm = true := by rw [← hXX]; exact hc
  have eX : X'.xe = fun _ _ => False := by rw [← hXX]; rfl
  have eE : X'.env = compEnvC scope (closOf X.env.cells scope.names []) s3.heap.objs.size X.env := by rw [← hXX]; rfl
  have eN : X'.env.locals = s3.heap.objs.size := by rw [eE]; rfl
  have eF : X'.fs = frs X.stack := by rw [← hXX]; rfl
  have eEx : X'.ex = fp := by rw [← hXX]; rfl
  have ePn : X'.pn = [] := by rw [← hXX]; rfl
  have eS : X'.s₀ = s3 := by rw [← hXX]; rfl
  have eH : X'.H₀ = upd H2 s2.heap.objs.size (.lst []) := by rw [← hXX]; rfl
  have fpIn : ∀ {H' : Hp}, (∀ b ∈ fp, H' b = none) → ∀ b ∈ fp, FpOk X' [] H' b := fun {H'} hn b hb => by
    refine ⟨hn b hb, by rw [eN, hz3]; exact Nat.ne_of_lt (Nat.lt_succ_of_lt (lt2 b hb)), fun z => ?_, .inl (by rw [eEx]; exact hb), fun x cc e => ?_, fun p hp => by rw [ePn] at hp; simp at hp⟩
    · rw [eF] at z
      rcases List.mem_cons.mp (I3.stkSub b z) with e | e
      · exact (f3 b hb).2.1 e
      · exact (f3 b hb).2.2.1 e
    · rw [eE] at e
      exact (f3 b hb).2.2.2.2.1 x cc (closOf_look _ _ (c.hfree I3) (by intro c' e'; simp at e') e)
  have loop : ∀ s₅ : Shared, s₅ = { s3 with heap := h₁, toks := s2.toks + ([] : List (Str × Value)).length } →
      codeAny (model X.prog X.w) X.A (.compLoop (.ListComp elt [⟨tg, iter, ifs, 0⟩] scope pos) 0 (.ref it) (.ref s2.heap.objs.size) (compEnvC scope (closOf X.env.cells scope.names []) s3.heap.objs.size X.env)) (RR (.ref s2.heap.objs.size) s3.heap.objs.size) s₅ := by
    rintro s₅ rfl
    refine compLoop_any (fun n s' => ∃ i ys H', Inv X' [] (inner fr σ) H' s' ∧ tn i s'.heap ∧ (∀ b ∈ fp, H' b = none) ∧ W i n ys H') ?_ m0
      ⟨0, [], _, I4, T.keep _ _ _ st3 fun b _ o e => up34 b o e, fun b hb => (f3 b hb).1, w0⟩
    rintro n s6 ⟨i, ys, H6, I6, st6, fr6, w6⟩
    rcases turn i n ys H6 w6 with ⟨stop, q⟩ | ⟨go, NN, hNN, step⟩
    · have D := T.done X' eP eW eK eC i [] s6 _ H6 (fun _ _ => False) I6 (fpIn fr6) st6 stop
      rw [eA] at D
      refine thn D fun r s7 ⟨hr, I7⟩ => ?_
      subst hr
      have un := I7.base
      rw [eF, eEx, eS, eH] at un
      have os7 : s7.os = s3.os := by rw [I7.os, eS]
      have hok7 := I7.hok
      rw [eP, eW] at hok7
      have J3 : Inv X pins σ H6 s7 := I3.call' os7 un hok7 I7.bare fun b hb => ⟨(f3 b hb).2.2.2.1, (f3 b hb).2.1, (f3 b hb).2.2.2.2.1, (f3 b hb).2.2.2.2.2⟩
      obtain ⟨m7, hn7, _⟩ := I7.loc
      rw [eN] at hn7
      have fr7 := I7.free
      rw [eN] at fr7
      exact fin _ _ s7 H6 J3 ⟨m7, hn7⟩ fr7 (by rw [hz3]; exact Nat.le_succ _) q
    · have D := T.item X' eP eW eK eC i [] s6 _ H6 (fun _ _ => False) I6 (fpIn fr6) st6 go
      rw [eA] at D
      refine thn D fun r s7 ⟨u, hr, h7⟩ => ?_
      subst hr
      refine thn h7 fun _ s8 ⟨x, H8, I8, r8, y8, st8, fr8⟩ => ?_
      have I8' := I8.pinned (fpIn fr8) (T.obj _ _ st8)
      have q8 := ho _ _ _ _ (step x H8 y8)
      have A1 := hg' _ s8 _ H8 x u _ I8' r8 q8
      rw [eP, eW, eA, eE, eX] at A1
      refine thn A1 fun _ s9 ⟨σ9, H9, I9, q9, len9, own9⟩ => ?_
      have A2 := ht' _ s9 σ9 H9 _ I9 q9
      rw [eP, eW, eA, eE, eX] at A2
      refine thn A2 fun ok s10 ⟨H10, I10, q10⟩ => ?_
      -- back to the turn's start
      have weak : ∀ {H' : Hp} {s' : Shared}, Inv X' ([] ++ pinsAt fp s8.heap) σ9 H' s' → Inv X' ([] ++ pinsAt fp s8.heap) (inner fr σ) H' s' := fun {H' s'} I' => I'.weak len9.symm fun j v e => by
        by_cases hj : j ∈ own
        · exfalso
          have z := List.all_eq_true.mp c.own_ j hj
          have z : fr[j]? = some none := by simpa using z
          have e : (fr.map fun o => o.bind fun j => (σ[j]?).join)[j]? = some (some v) := e
          rw [List.getElem?_map, z] at e
          simp at e
        · rw [own9 j hj]; exact e
      have again : ∀ {H' : Hp} {s' : Shared}, Inv X' ([] ++ pinsAt fp s8.heap) σ9 H' s' → tn (i + 1) s'.heap ∧ (∀ b ∈ fp, H' b = none) ∧ Inv X' [] (inner fr σ) H' s' := fun {H' s'} I' => by
        refine ⟨T.keep _ _ _ st8 fun b hb o e => (I'.pin (b, o) (List.mem_append_right _ (List.mem_append_right _ (mem_pinsAt hb e)))).1, fun b hb => ?_, (weak I').unpinned⟩
        obtain ⟨o, e, d⟩ := T.obj _ _ st8 b hb
        exact (I'.pin (b, o) (List.mem_append_right _ (List.mem_append_right _ (mem_pinsAt hb e)))).2.1
      cases ok with
      | false =>
        rw [if_neg Bool.false_ne_true] at q10 ⊢
        obtain ⟨m', hm, w'⟩ := hNN _ _ q10
        obtain ⟨t1, t2, t3⟩ := again I10
        exact ⟨m', hm, i + 1, ys, H10, t3, t1, t2, w'⟩
      | true =>
        rw [if_pos rfl] at q10 ⊢
        have A3 := he' _ s10 σ9 H10 _ I10 q10
        rw [eP, eW, eA, eE, eX] at A3
        refine thn A3 fun yv s11 ⟨y, H11, I11, r11, hl11, hz11, q11⟩ => ?_
        have A4 := mt_append (X := X') _ s11 σ9 H11 (.ref s2.heap.objs.size) [y] (.ref s2.heap.objs.size) [yv] (fun _ H' => H' = upd H11 s2.heap.objs.size (.lst (ys ++ [y]))) I11 rfl (.cons r11 .nil) ⟨_, ys, y, rfl, rfl, hl11, hz11, rfl⟩
        rw [eP, eW, eA, eX] at A4
        refine thn A4 fun _ s12 ⟨_, H12, I12, _, e12⟩ => ?_
        subst e12
        obtain ⟨m', hm, w'⟩ := hNN _ _ q11
        obtain ⟨t1, t2, t3⟩ := again I12
        exact ⟨m', hm, i + 1, _, _, t3, t1, t2, w'⟩
  have e5 : ({ s2 with heap := h₁, toks := s2.toks + ([] : List (Str × Value)).length } : Shared) = { s3 with heap := h₁, toks := s2.toks + ([] : List (Str × Value)).length } := by rw [← hs3]
  exact codeAny_compStart_list (loop _ e5) (T.self _ 0 _ _ _ (T.keep _ _ _ st3 fun b _ o e => up34 b o e) (loop _ e5))

/-- [elt for tg in iter if c] -/
theorem pe_comp (c : CompOk X scope N' fr own) (hc : X.calm = true) (hi : PI X tg iter wi)
    (hg : ∀ C fp s H, PG (compCx X scope N' C fp s H) tg g) (ho : GOwn own g) (ht : ∀ C fp s H, PTs (compCx X scope N' C fp s H) ifs ti) (he : ∀ C fp s H, PE (compCx X scope N' C fp s H) elt te)
    (hs : ∀ x, foldedSetIterable iter X.env x = pure x := by intro _; rfl) : PE X (.ListComp elt [⟨tg, iter, ifs, 0⟩] scope pos) (tComp wi fr g ti te) := by
  intro pins s σ H Q I h
  rw [eval_ListComp]
  refine wpAny_comprehension_free (use := none) rfl hs (closureFor_eq (c.hfree I)) c.kind c.hnames (thn (hi pins s σ H _ I h) fun v s1 h1 => thn h1 fun itv s2 h2 => ?_)
  obtain ⟨it, fp, tn, J, H2, e, I2, T, st2, f2, R⟩ := h2
  subst e
  refine comp_block (RR := fun acc C => compPost (model X.prog X.w) X.A X.xe none (EP X pins σ Q) acc C) c hc hg ho ht he I2 T st2 f2 R ?_
  intro l C s' H' I' hn hC hle q
  obtain ⟨m, hn⟩ := hn
  refine ⟨m, hn, fun h' hs' => ⟨.ref l, H', ?_, rfl, q⟩⟩
  have cl : ∀ x cc, X.env.cells.lookup x = some cc → cc ≠ C := fun x cc e z => by
    obtain ⟨v, o, ho, _⟩ := I2.cell x cc e
    exact absurd (Nat.lt_of_lt_of_le (Heap.lt_size ho) (by rw [z]; exact hle)) (Nat.lt_irrefl _)
  exact I'.turned (t' := s'.toks) (fun b o hb e => hs'.extBut b o hb e) hC (Nat.ne_of_gt (Nat.lt_of_lt_of_le I2.lt hle)) (.inr (Nat.le_trans I2.sz hle)) cl fun p hp z =>
    absurd (Nat.lt_of_lt_of_le (Heap.lt_size (I2.pin p hp).1) (by rw [z]; exact hle)) (Nat.lt_irrefl _)

/-- y = [elt for tg in iter if c], where the stores are exchanged -/
theorem ps_comp {i : Nat} {y : Str} {py spos : Pos} (c : CompOk X scope N' fr own) (hc : X.calm = true) (hN : X.N.Nodup) (hy : X.N[i]? = some y) (hx : X.env.scope.names.lookup y = some .local) (hi : PI X tg iter wi)
    (hg : ∀ C fp s H, PG (compCx X scope N' C fp s H) tg g) (ho : GOwn own g) (ht : ∀ C fp s H, PTs (compCx X scope N' C fp s H) ifs ti) (he : ∀ C fp s H, PE (compCx X scope N' C fp s H) elt te)
    (hsw : swapsWith (.ListComp elt [⟨tg, iter, ifs, 0⟩] scope pos) (some (.Name y py)) spos.line X.env = pure true := by rfl)
    (hs : ∀ x, foldedSetIterable iter X.env x = pure x := by intro _; rfl) : PS X (.Assign [.Name y py] (.ListComp elt [⟨tg, iter, ifs, 0⟩] scope pos) spos) (tAsg (tComp wi fr g ti te) (gName i)) := by
  intro pins s σ H D I h
  rw [exec_Assign_Name_used _ _ _ _ hsw]
  refine wpAny_bind (wpAny_standAt (wpAny_bind ?_))
  show wpAny _ X.A (do let _ ← comprehension (.ListComp elt [⟨tg, iter, ifs, 0⟩] scope pos) scope X.env _ (newList []) false (eval iter X.env) (some (assign (.Name y py) X.env))) _ _ s
  refine wpAny_bind (wpAny_mono (wpAny_comprehension_free (use := some (assign (.Name y py) X.env)) (Q := fun _ s' => SP X pins D .next s') rfl hs (closureFor_eq (c.hfree I)) c.kind c.hnames
    (thn (hi pins s σ H _ I h) fun v s1 h1 => thn h1 fun itv s2 h2 => ?_)) (fun _ s' hq => wpAny_pure (wpAny_pure hq)) fun _ _ e => e)
  obtain ⟨it, fp, tn, J, H2, e, I2, T, st2, f2, R⟩ := h2
  subst e
  refine comp_block (Q := fun x H1 => gName i x σ H1 D.nx) (RR := fun acc C => compPost (model X.prog X.w) X.A X.xe (some (assign (.Name y py) X.env)) (fun _ s' => SP X pins D .next s') acc C) c hc hg ho ht he I2 T st2 f2 R ?_
  intro l C s' H' I' hn hC hle q
  obtain ⟨m, hn⟩ := hn
  have cl : ∀ x cc, X.env.cells.lookup x = some cc → cc ≠ C := fun x cc e z => by
    obtain ⟨v, o, ho, _⟩ := I2.cell x cc e
    exact absurd (Nat.lt_of_lt_of_le (Heap.lt_size ho) (by rw [z]; exact hle)) (Nat.lt_irrefl _)
  show wpAny _ X.A (assign (.Name y py) X.env (.ref l)) _ _ s'
  refine wpAny_assign_Name (store_ok2 I' hN hy (.inl hx) (v := .ref l) rfl (fun s5 I5 hsb => ?_) (.inr hx))
  obtain ⟨a, hsb, ha⟩ := hsb
  have hCa : C ≠ a := by
    rcases ha with e | e
    · rw [e]; exact Nat.ne_of_gt (Nat.lt_of_lt_of_le I2.lt hle)
    · exact Ne.symm (cl _ _ e)
  refine ⟨m, hn.sameBut hsb hCa, fun h' hs' => ⟨_, H', ?_, q⟩⟩
  exact I5.turned (t' := s5.toks) (fun b o hb e => hs'.extBut b o hb e) hC (Nat.ne_of_gt (Nat.lt_of_lt_of_le I2.lt hle)) (.inr (Nat.le_trans I2.sz hle)) cl fun p hp z =>
    absurd (Nat.lt_of_lt_of_le (Heap.lt_size (I2.pin p hp).1) (by rw [z]; exact hle)) (Nat.lt_irrefl _)

end
/-! ### the forms one uses -/
section
variable {fr : List (Option Nat)} {g : TG} {ti : TT} {te : TE} {σ : St} {H1 : Hp} {l : Addr} {Q : VK}
/-- one turn: Pv at i, the items so far -/
def CTurn (fr : List (Option Nat)) (g : TG) (ti : TT) (te : TE) (σ : St) (l : Addr) (x : V) (ys : List V) (H : Hp) (N : List V → Hp → Prop) : Prop :=
  g x (inner fr σ) H fun σ3 H3 => ti σ3 H3 fun b H4 => if b = true then te σ3 H4 fun y H5 => H5 l = some (.lst ys) ∧ ys.length < sizeLine ∧ N (ys ++ [y]) (upd H5 l (.lst (ys ++ [y]))) else N ys H4
theorem comp_list {K : PySem.W.Frag} {a : Addr} {xs : List V} (Pv : Nat → List V → Hp → Prop) (h0 : Pv 0 [] (upd H1 l (.lst []))) (hl : ∀ i ys H, i ≤ xs.length → Pv i ys H → SqL K H a xs)
    (hs : ∀ i x ys H, xs[i]? = some x → Pv i ys H → CTurn fr g ti te σ l x ys H (Pv (i + 1))) (hd : ∀ ys H, Pv xs.length ys H → Q (.ref l) H) : CGoal (Itl K a) fr g ti te σ H1 l Q := by
  refine ⟨fun i m ys H => m = xs.length - i ∧ i ≤ xs.length ∧ Pv i ys H, ⟨xs.length, by simp, Nat.zero_le _, h0⟩, ?_⟩
  rintro i m ys H ⟨rfl, hi, p⟩
  have q := hl i ys H hi p
  by_cases hlt : i < xs.length
  · refine .inr ⟨⟨xs, xs[i], q, by simp [hlt]⟩, Pv (i + 1), fun zs H' p' => ⟨xs.length - (i + 1), by omega, rfl, hlt, p'⟩, fun x H' y => ?_⟩
    obtain ⟨e, y⟩ := y
    subst e
    exact hs i x ys _ (y xs q) p
  · have e : i = xs.length := by omega
    subst e
    exact .inl ⟨⟨xs, q, Nat.le_refl _⟩, hd ys H p⟩
theorem comp_tup {K : PySem.W.Frag} {a : Addr} {xs : List V} (Pv : Nat → List V → Hp → Prop) (h0 : Pv 0 [] (upd H1 l (.lst []))) (hl : ∀ i ys H, i ≤ xs.length → Pv i ys H → SqT K H a xs)
    (hs : ∀ i x ys H, xs[i]? = some x → Pv i ys H → CTurn fr g ti te σ l x ys H (Pv (i + 1))) (hd : ∀ ys H, Pv xs.length ys H → Q (.ref l) H) : CGoal (Itt K a) fr g ti te σ H1 l Q := by
  refine ⟨fun i m ys H => m = xs.length - i ∧ i ≤ xs.length ∧ Pv i ys H, ⟨xs.length, by simp, Nat.zero_le _, h0⟩, ?_⟩
  rintro i m ys H ⟨rfl, hi, p⟩
  have q := hl i ys H hi p
  by_cases hlt : i < xs.length
  · refine .inr ⟨⟨xs, xs[i], q, by simp [hlt]⟩, Pv (i + 1), fun zs H' p' => ⟨xs.length - (i + 1), by omega, rfl, hlt, p'⟩, fun x H' y => ?_⟩
    obtain ⟨e, y⟩ := y
    subst e
    exact hs i x ys _ (y xs q) p
  · have e : i = xs.length := by omega
    subst e
    exact .inl ⟨⟨xs, q, Nat.le_refl _⟩, hd ys H p⟩
theorem comp_range {lo : Int} {n : Nat} (Pv : Nat → List V → Hp → Prop) (h0 : Pv 0 [] (upd H1 l (.lst [])))
    (hs : ∀ i ys H, i < n → Pv i ys H → CTurn fr g ti te σ l (.int (lo + i)) ys H (Pv (i + 1))) (hd : ∀ ys H, Pv n ys H → Q (.ref l) H) : CGoal (Itr lo n) fr g ti te σ H1 l Q := by
  refine ⟨fun i m ys H => m = n - i ∧ i ≤ n ∧ Pv i ys H, ⟨n, by simp, Nat.zero_le _, h0⟩, ?_⟩
  rintro i m ys H ⟨rfl, hi, p⟩
  by_cases hlt : i < n
  · refine .inr ⟨hlt, Pv (i + 1), fun zs H' p' => ⟨n - (i + 1), by omega, rfl, hlt, p'⟩, fun x H' y => ?_⟩
    obtain ⟨e, y⟩ := y
    subst e y
    exact hs i ys _ hlt p
  · have e : i = n := by omega
    subst e
    exact .inl ⟨Nat.le_refl _, hd ys H p⟩

end
end L2

set_option Elab.async false
set_option linter.all false
set_option maxRecDepth 100000
/-! MORE RULES over the hand layer: nested data compared, all, any, isinstance, list += list, tuple + tuple -/
namespace L2
open PySem PySem.Spec PyProof.Rows

/-! ### nested data -/
mutual
def DatV (K : PySem.W.Frag) (H : Hp) : PyData → V → Prop
  | .none, v => v = .non
  | .bool b, v => v = .bl b
  | .int i, v => v = .int i
  | .str x, v => v = .str x
  | .list ds, v => ∃ a ys, v = .ref a ∧ SqL K H a ys ∧ DatAll K H ds ys
  | .tuple ds, v => ∃ a ys, v = .ref a ∧ SqT K H a ys ∧ DatAll K H ds ys
  | .dict _, _ => False
def DatAll (K : PySem.W.Frag) (H : Hp) : List PyData → List V → Prop
  | [], ys => ys = []
  | d :: ds, ys => ∃ y r, ys = y :: r ∧ DatV K H d y ∧ DatAll K H ds r
end
section
variable {X : Cx} {pins : List (Addr × Obj)} {σ : St} {H : Hp} {s : Shared}
mutual
theorem reads_of (I : Inv X pins σ H s) : ∀ (d : PyData) (v : V) (u : Value), DatV X.K H d v → RelV v u → ∃ as, Reads s.heap u d as
  | .none, v, u, h, r => by
    simp only [DatV] at h; subst h; cases r; exact ⟨_, .none⟩
  | .bool b, v, u, h, r => by
    simp only [DatV] at h; subst h; cases r; exact ⟨_, .bool b⟩
  | .int i, v, u, h, r => by
    simp only [DatV] at h; subst h; obtain ⟨t, rfl⟩ := r; exact ⟨_, .int i t⟩
  | .str x, v, u, h, r => by
    simp only [DatV] at h; subst h; obtain ⟨t, rfl⟩ := r; exact ⟨_, .str x t⟩
  | .list ds, v, u, h, r => by
    simp only [DatV] at h
    obtain ⟨a, ys, rfl, hq, hd⟩ := h
    cases r
    obtain ⟨its, rv, ⟨o, n, e, c, _, dd⟩, _⟩ := I.list hq
    obtain ⟨as, hr⟩ := readsAll_of I ds ys its hd rv
    exact ⟨_, .list e c dd (by simpa using hr)⟩
  | .tuple ds, v, u, h, r => by
    simp only [DatV] at h
    obtain ⟨a, ys, rfl, hq, hd⟩ := h
    cases r
    obtain ⟨its, rv, ⟨o, e, c, n, dd⟩, _⟩ := I.tuple hq
    obtain ⟨as, hr⟩ := readsAll_of I ds ys its hd rv
    exact ⟨_, .tuple e c dd (by simpa using hr)⟩
  | .dict _, v, u, h, r => by simp only [DatV] at h
theorem readsAll_of (I : Inv X pins σ H s) : ∀ (ds : List PyData) (vs : List V) (us : List Value), DatAll X.K H ds vs → Vals vs us → ∃ as, ReadsAll s.heap us ds as
  | [], vs, us, h, r => by
    simp only [DatAll] at h; subst h; cases r; exact ⟨_, .nil⟩
  | d :: ds, vs, us, h, r => by
    simp only [DatAll] at h
    obtain ⟨y, rr, rfl, h1, h2⟩ := h
    cases r with
    | cons r1 r2 =>
      obtain ⟨as, q1⟩ := reads_of I d y _ h1 r1
      obtain ⟨bs, q2⟩ := readsAll_of I ds rr _ h2 r2
      exact ⟨_, .cons q1 q2⟩
end
end
/-- tuples stay; lists as told -/
def Keeps2 (K : PySem.W.Frag) (H H' : Hp) : Prop := (∀ a ys, SqL K H a ys → SqL K H' a ys) ∧ ∀ a ys, SqT K H a ys → SqT K H' a ys
mutual
theorem DatV.mono {K : PySem.W.Frag} {H H' : Hp} (k : Keeps2 K H H') : ∀ (d : PyData) (v : V), DatV K H d v → DatV K H' d v
  | .none, v, h => by simp only [DatV] at h ⊢; exact h
  | .bool b, v, h => by simp only [DatV] at h ⊢; exact h
  | .int i, v, h => by simp only [DatV] at h ⊢; exact h
  | .str x, v, h => by simp only [DatV] at h ⊢; exact h
  | .list ds, v, h => by
    simp only [DatV] at h ⊢
    obtain ⟨a, ys, e, hq, hd⟩ := h
    exact ⟨a, ys, e, k.1 a ys hq, DatAll.mono k ds ys hd⟩
  | .tuple ds, v, h => by
    simp only [DatV] at h ⊢
    obtain ⟨a, ys, e, hq, hd⟩ := h
    exact ⟨a, ys, e, k.2 a ys hq, DatAll.mono k ds ys hd⟩
  | .dict _, v, h => by simp only [DatV] at h
theorem DatAll.mono {K : PySem.W.Frag} {H H' : Hp} (k : Keeps2 K H H') : ∀ (ds : List PyData) (vs : List V), DatAll K H ds vs → DatAll K H' ds vs
  | [], vs, h => by simp only [DatAll] at h ⊢; exact h
  | d :: ds, vs, h => by
    simp only [DatAll] at h ⊢
    obtain ⟨y, r, e, h1, h2⟩ := h
    exact ⟨y, r, e, DatV.mono k d y h1, DatAll.mono k ds r h2⟩
end
theorem SqT.keep {K : PySem.W.Frag} {H H' : Hp} (k : ∀ b u, (H b = some (.tup u) → H' b = some (.tup u)) ∧ ∀ o, H b = some (.frz o (.tup u)) → H' b = some (.frz o (.tup u))) {a : Addr} {ys : List V} (h : SqT K H a ys) : SqT K H' a ys := by
  rcases h with (h | ⟨o, h⟩) | h
  · exact .inl (.inl ((k a ys).1 h))
  · exact .inl (.inr ⟨o, (k a ys).2 o h⟩)
  · exact .inr h
theorem Same.seqT {K : PySem.W.Frag} {H H' : Hp} (e : Same H H') {a : Addr} {xs : List V} (h : SqT K H a xs) : SqT K H' a xs := h.keep fun b u => ⟨fun q => e _ _ q, fun o q => e _ _ q⟩
theorem Same.keeps2 {K : PySem.W.Frag} {H H' : Hp} (e : Same H H') : Keeps2 K H H' := ⟨fun _ _ h => e.seq h, fun _ _ h => e.seqT h⟩

def rDEq (K : PySem.W.Frag) : R2 := fun x y H Q => ∃ dx dy, DatV K H dx x ∧ DatV K H dy y ∧ dx.canLay0 = true ∧ dy.canLay0 = true ∧ min dx.depth dy.depth ≤ 60 ∧ Q (.bl (PyData.eqv dx dy)) H
def rDNe (K : PySem.W.Frag) : R2 := fun x y H Q => ∃ dx dy, DatV K H dx x ∧ DatV K H dy y ∧ dx.canLay0 = true ∧ dy.canLay0 = true ∧ min dx.depth dy.depth ≤ 60 ∧ Q (.bl (!PyData.eqv dx dy)) H
section
variable {X : Cx}
theorem op_deq (hu : X.A.units + 64 < cLine) : OpR X (compareOp .Eq) (rDEq X.K) := by
  intro pins s σ H x y v u Q I rx ry h
  obtain ⟨dx, dy, h1, h2, c1, c2, hm, q⟩ := h
  obtain ⟨as, r1⟩ := reads_of I dx x v h1 rx
  obtain ⟨bs, r2⟩ := reads_of I dy y u h2 ry
  exact PySem.SeqAt.eqOverData X.prog X.w X.A X.xe s v u dx dy as bs _ r1 r2 c1 c2 (by omega) ⟨.bl _, H, I, rfl, q⟩
theorem op_dne (hu : X.A.units + 64 < cLine) : OpR X (compareOp .NotEq) (rDNe X.K) := by
  intro pins s σ H x y v u Q I rx ry h
  obtain ⟨dx, dy, h1, h2, c1, c2, hm, q⟩ := h
  obtain ⟨as, r1⟩ := reads_of I dx x v h1 rx
  obtain ⟨bs, r2⟩ := reads_of I dy y u h2 ry
  exact PySem.SeqAt.neOverData X.prog X.w X.A X.xe s v u dx dy as bs _ r1 r2 c1 c2 (by omega) ⟨.bl _, H, I, rfl, q⟩

/-! ### all, any over a list of truths -/
theorem Vals.bls {bs : List Bool} : ∀ {us : List Value}, Vals (bs.map V.bl) us → us = bs.map Value.bool := by
  induction bs with
  | nil => intro us r; cases r; rfl
  | cons b r ih =>
    intro us h
    cases h with
    | cons r1 r2 =>
      cases r1
      rw [ih r2]
      rfl
theorem range_all (bs : List Bool) : (List.range bs.length).all (fun i => bs.getD i false) = bs.all id := by
  rw [Bool.eq_iff_iff]
  simp only [List.all_eq_true, List.mem_range, id]
  refine ⟨fun h b hb => ?_, fun h i hi => ?_⟩
  · obtain ⟨i, hi, e⟩ := List.getElem_of_mem hb
    have := h i hi
    simpa [hi, e] using this
  · have := h bs[i] (List.getElem_mem hi)
    simpa [hi] using this
theorem range_any (bs : List Bool) : (List.range bs.length).any (fun i => bs.getD i false) = bs.any id := by
  rw [Bool.eq_iff_iff]
  simp only [List.any_eq_true, List.mem_range, id]
  refine ⟨fun ⟨i, hi, e⟩ => ?_, fun ⟨b, hb, e⟩ => ?_⟩
  · exact ⟨bs[i], List.getElem_mem hi, by simpa [hi] using e⟩
  · obtain ⟨i, hi, e2⟩ := List.getElem_of_mem hb
    exact ⟨i, hi, by simpa [hi, e2] using e⟩
theorem truth_bools {prog : Program} {w : World} {A : Around} (bs : List Bool) : TruthOf prog w A (fun i v => (bs.map Value.bool).toArray[i]? = some v) (fun i => bs.getD i false) := fun i v s Q E hP hQ => by
  have hi : i < bs.length := by
    by_cases h : i < bs.length
    · exact h
    · have hP' : (bs.map Value.bool)[i]? = some v := by simpa using hP
      rw [List.getElem?_eq_none_iff.mpr (by simp; omega)] at hP'
      cases hP'
  have e : v = .bool (bs.getD i false) := by
    have hP' : (bs.map Value.bool)[i]? = some v := by simpa using hP
    rw [List.getElem?_map, List.getElem?_eq_getElem hi] at hP'
    simp only [Option.map_some, Option.some.injEq] at hP'
    rw [← hP']
    simp [hi]
  subst e
  exact wpAny_truthy_bool hQ
theorem call_all_list (hc : X.calm = true) : CallR X (.builtin "all") (fun xs H Q => ∃ a bs, xs = [.ref a] ∧ SqL X.K H a (List.map V.bl bs) ∧ Q (.bl (bs.all id)) H) := by
  intro pins s σ H xs us Q I r h
  obtain ⟨a, bs, rfl, hq, q⟩ := h
  obtain ⟨u, rfl, ru⟩ := Vals.one r
  cases ru
  obtain ⟨its, rv, p, hz⟩ := I.list hq
  have e := Vals.bls rv
  subst e
  have hlt : a < s.heap.objs.size := by obtain ⟨o, _, eo, _⟩ := p; exact Heap.lt_size eo
  refine call_all_walk (wpAny_pyIter_list p.isList ?_)
  refine ⟨s.heap.objs.size, [s.heap.objs.size, a], [s.heap.objs.size], _, _, _, fun i => bs.getD i false, rfl, Walks.list (A := X.A.in1) (I.ok.hd hc) s.heap.objs.size a (Nat.ne_of_lt hlt) (bs.map Value.bool).toArray,
    ⟨⟨_, Heap.get?_push_size _ rfl, rfl, rfl⟩, p.isList.push _⟩, truth_bools bs, fun h' tk hk => ?_⟩
  have I1 : Inv X pins σ H { s with heap := h', toks := tk } := I.kept fun b o e => hk b o (fun z => by
    have z' : b = s.heap.objs.size := by simpa using z
    exact absurd (Heap.lt_size e) (by rw [z']; exact Nat.lt_irrefl _)) (Heap.get?_push_of_some _ e)
  refine ⟨.bl (bs.all id), H, I1, ?_, q⟩
  show Value.bool _ = Value.bool _
  rw [← range_all]
  simp
theorem call_any_list (hc : X.calm = true) : CallR X (.builtin "any") (fun xs H Q => ∃ a bs, xs = [.ref a] ∧ SqL X.K H a (List.map V.bl bs) ∧ Q (.bl (bs.any id)) H) := by
  intro pins s σ H xs us Q I r h
  obtain ⟨a, bs, rfl, hq, q⟩ := h
  obtain ⟨u, rfl, ru⟩ := Vals.one r
  cases ru
  obtain ⟨its, rv, p, hz⟩ := I.list hq
  have e := Vals.bls rv
  subst e
  have hlt : a < s.heap.objs.size := by obtain ⟨o, _, eo, _⟩ := p; exact Heap.lt_size eo
  refine call_any_walk (wpAny_pyIter_list p.isList ?_)
  refine ⟨s.heap.objs.size, [s.heap.objs.size, a], [s.heap.objs.size], _, _, _, fun i => bs.getD i false, rfl, Walks.list (A := X.A.in1) (I.ok.hd hc) s.heap.objs.size a (Nat.ne_of_lt hlt) (bs.map Value.bool).toArray,
    ⟨⟨_, Heap.get?_push_size _ rfl, rfl, rfl⟩, p.isList.push _⟩, truth_bools bs, fun h' tk hk => ?_⟩
  have I1 : Inv X pins σ H { s with heap := h', toks := tk } := I.kept fun b o e => hk b o (fun z => by
    have z' : b = s.heap.objs.size := by simpa using z
    exact absurd (Heap.lt_size e) (by rw [z']; exact Nat.lt_irrefl _)) (Heap.get?_push_of_some _ e)
  refine ⟨.bl (bs.any id), H, I1, ?_, q⟩
  show Value.bool _ = Value.bool _
  rw [← range_any]
  simp

/-! ### isinstance -/
/-- of plain values -/
def isiP : V → String → Option Bool
  | .int _, "int" => some true
  | .int _, "bool" => some false
  | .int _, "str" => some false
  | .int _, "tuple" => some false
  | .bl _, "bool" => some true
  | .bl _, "int" => some true
  | .bl _, "str" => some false
  | .bl _, "tuple" => some false
  | .str _, "str" => some true
  | .str _, "int" => some false
  | .str _, "bool" => some false
  | .str _, "tuple" => some false
  | _, _ => none
theorem call_isi : CallR X (.builtin "isinstance") (fun xs H Q => ∃ v T b, xs = [v, .ty T] ∧ isiP v T = some b ∧ Q (.bl b) H) := by
  intro pins s σ H xs us Q I r h
  obtain ⟨v, T, b, rfl, hb, q⟩ := h
  obtain ⟨u, w, rfl, ru, rw'⟩ := vals2 r
  cases rw'
  have fin : ∀ t, EP X pins σ Q (.bool b) { s with toks := t } := fun t => ⟨.bl b, H, I.tok t, rfl, q⟩
  unfold isiP at hb
  split at hb <;> cases hb
  · obtain ⟨t, rfl⟩ := ru; exact IsiPair.int_int (fin _)
  · obtain ⟨t, rfl⟩ := ru; exact IsiPair.int_bool (fin _)
  · obtain ⟨t, rfl⟩ := ru; exact IsiPair.int_str (fin _)
  · obtain ⟨t, rfl⟩ := ru; exact IsiPair.int_tuple (fin _)
  · cases ru; exact IsiPair.bool_bool (fin _)
  · cases ru; exact IsiPair.bool_int (fin _)
  · cases ru; exact IsiPair.bool_str (fin _)
  · cases ru; exact IsiPair.bool_tuple (fin _)
  · obtain ⟨t, rfl⟩ := ru; exact IsiPair.str_str (fin _)
  · obtain ⟨t, rfl⟩ := ru; exact IsiPair.str_int (fin _)
  · obtain ⟨t, rfl⟩ := ru; exact IsiPair.str_bool (fin _)
  · obtain ⟨t, rfl⟩ := ru; exact IsiPair.str_tuple (fin _)
/-- of a tuple -/
theorem call_isiT : CallR X (.builtin "isinstance") (fun xs H Q => ∃ a ys, xs = [.ref a, .ty "tuple"] ∧ SqT X.K H a ys ∧ Q (.bl true) H) := by
  intro pins s σ H xs us Q I r h
  obtain ⟨a, ys, rfl, hq, q⟩ := h
  obtain ⟨u, w, rfl, ru, rw'⟩ := vals2 r
  cases ru
  cases rw'
  obtain ⟨its, rv, p, hz⟩ := I.tuple hq
  exact IsiPair.isTuple_tuple (h₀ := s.heap) p (fun _ _ e => e) ⟨.bl true, H, I, rfl, q⟩

/-! ### list += list, tuple + tuple -/
theorem fills_list_iadd : fillsInplaceSlot (.type "list") "add" (Operator.Add == .Add) = pure false := by
  unfold fillsInplaceSlot
  show (typeLookup (.type "list") (dunderI "add") >>= fun fi => pure (fi.isSome && !isSeqSlot fi)) = pure false
  rw [PySem.F.slot_list_iadd.lookup]
  rfl
theorem seq_list_iadd : seqSlot? (.type "list") (dunderI "add") = pure (some (.builtin "list.__iadd__")) := PySem.seqSlot_of PySem.F.slot_list_iadd.lookup (by decide +kernel)
def ipCat : TIp := fun x y H Q => ∃ l b xs zs, x = .ref l ∧ y = .ref b ∧ H l = some (.lst xs) ∧ H b = some (.lst zs) ∧ xs.length + zs.length ≤ sizeLine ∧ Q (.ref l) (upd H l (.lst (xs ++ zs)))
theorem ip_cat : PIp X .Add ipCat := by
  intro pins s σ H x y v u Q I rx ry h
  obtain ⟨l, b, xs, zs, rfl, rfl, hH, hB, hz, q⟩ := h
  cases rx
  cases ry
  obtain ⟨z, its, n, r, hl, e⟩ := I.lstM hH
  obtain ⟨z2, its2, n2, r2, hl2, e2⟩ := I.lstM hB
  have hsz : its.toArray.size + its2.toArray.size ≤ sizeLine := by rw [List.size_toArray, List.size_toArray]; omega
  have hlong : ¬ (!its.toArray.isEmpty && Builtin.List.listTooLong (its.toArray.size + its2.toArray.size)) = true := by
    rw [notLongL hsz, Bool.and_false]
    exact Bool.false_ne_true
  have tl : s.TypeIs (.ref l) "list" := ⟨_, e, rfl⟩
  have tb : s.TypeIs (.ref b) "list" := ⟨_, e2, rfl⟩
  unfold inplaceOp
  refine wpAny_holding ?_
  refine wpAny_bind (wpAny_typeOf tl (wpAny_bind (wpAny_of_eq fills_list_iadd ?_)))
  show wpAny (model X.prog X.w) X.A (if false = true then _ else _) _ _ s
  rw [if_neg Bool.false_ne_true]
  refine wpAny_bind (wpAny_binaryOp1_none (nm := "add") tl tb noFill_list_add ?_)
  refine wpAny_bind (wpAny_of_eq seq_list_iadd ?_)
  refine wpAny_bind (wpAny_rule ?_)
  refine call_meets PySem.F.slot_list_iadd tl PySem.F.entry_list_iadd (PySem.F.args_list_iadd_2 _ _)
    (AutoSeq1.list___iadd___list_list_0 l its.toArray n b its2.toArray n2 hlong (by rw [List.size_toArray]; omega) (by omega)) ⟨e, e2, ?_⟩
  refine ⟨.ref l, _, I.lset (its' := its ++ its2) hH e (by simp) (r.append r2) ?_, rfl, q⟩
  rw [List.length_append]
  omega
/-- t + u, any -/
def rCatTA (K : PySem.W.Frag) : R2 := fun x y H Q => ∃ a b xs ys, x = .ref a ∧ y = .ref b ∧ SqT K H a xs ∧ SqT K H b ys ∧ xs.length + ys.length ≤ sizeLine ∧
  (xs = [] → Q (.ref b) H) ∧ (xs ≠ [] → ys = [] → Q (.ref a) H) ∧ (xs ≠ [] → ys ≠ [] → ∀ p, H p = none → Q (.ref p) (upd H p (.tup (xs ++ ys))))
theorem op_catTA : OpR X (binaryOp .Add) (rCatTA X.K) := by
  intro pins s σ H x y v u Q I rx ry h
  obtain ⟨a, b, xs, ys, rfl, rfl, hx, hy, hz, q1, q2, q3⟩ := h
  cases rx
  cases ry
  obtain ⟨its, r, pa, z1⟩ := I.tuple hx
  obtain ⟨its2, r2, pb, z2⟩ := I.tuple hy
  have l1 := r.length
  have l2 := r2.length
  by_cases hn : xs = []
  · subst hn
    cases r
    obtain ⟨⟨cls, dd, data, sl⟩, ho, hc, n, hd⟩ := id pa
    obtain ⟨⟨cls2, dd2, data2, sl2⟩, ho2, hc2, n2, hd2⟩ := id pb
    simp only at hc hd hc2 hd2
    subst hc hd hc2 hd2
    exact concat_meets ⟨_, ho, rfl⟩ ⟨_, ho2, rfl⟩ noFill_tuple_add seq_tuple_add PySem.F.slot_tuple_add PySem.F.entry_tuple_add (PySem.F.args_tuple_add_2 _ _)
      (tuple_addW0 a b _ its2.toArray n n2 dd dd2 sl sl2 rfl) ⟨ho, ho2, ⟨.ref b, H, I, rfl, q1 rfl⟩⟩
  · have hi : its ≠ [] := fun e => hn (by subst e; cases r; rfl)
    refine HT.cat_tup pa pb hi (fun e => ?_) (fun e => ?_) (by omega)
    · subst e; cases r2
      exact ⟨.ref a, H, I, rfl, q2 hn rfl⟩
    · have hy' : ys ≠ [] := fun e' => e (by subst e'; cases r2; rfl)
      refine ⟨.ref _, _, I.laid (t' := s.toks) (o := .tup (xs ++ ys)) (fun b ob q => Heap.get?_push_of_some _ q) (Nat.le_refl _) ?_, rfl, q3 hn hy' _ (I.hok.fresh (Nat.le_refl _))⟩
      exact ⟨by rw [List.length_append]; omega, its ++ its2, r.append r2, IsTup.new s.heap _⟩
end
end L2

set_option Elab.async false
set_option linter.all false
set_option maxRecDepth 100000
namespace L2
open PySem PySem.Spec PyProof.Rows

/-! ### lists of pairs as tables -/
section
variable {κ : Type} [DecidableEq κ]
def valV (kvs : List (κ × V)) (k : κ) : Option V := (kvs.find? fun kv => decide (kv.1 = k)).map (·.2)
/-- in its place, or at the end -/
def putK (kvs : List (κ × V)) (k : κ) (v : V) : List (κ × V) :=
  if (kvs.any fun kv => decide (kv.1 = k)) = true then kvs.map (fun kv => if kv.1 = k then (kv.1, v) else kv) else kvs ++ [(k, v)]
def dropK (kvs : List (κ × V)) (k : κ) : List (κ × V) := kvs.filter fun kv => decide (kv.1 ≠ k)

theorem valV_nil {k : κ} : valV ([] : List (κ × V)) k = none := rfl
theorem valV_pos {p : κ × V} {r : List (κ × V)} {k : κ} (e : p.1 = k) : valV (p :: r) k = some p.2 := by simp [valV, List.find?_cons, e]
theorem valV_neg {p : κ × V} {r : List (κ × V)} {k : κ} (e : ¬ p.1 = k) : valV (p :: r) k = valV r k := by simp [valV, List.find?_cons, e]
theorem valV_any (k : κ) : ∀ kvs : List (κ × V), (kvs.any fun kv => decide (kv.1 = k)) = (valV kvs k).isSome
  | [] => rfl
  | p :: r => by
    rw [List.any_cons]
    by_cases e : p.1 = k
    · simp only [valV_pos e, decide_eq_true e, Bool.true_or, Option.isSome_some]
    · rw [valV_neg e, decide_eq_false e, Bool.false_or]; exact valV_any k r
theorem valV_map (k j : κ) (y : V) : ∀ kvs : List (κ × V), valV (kvs.map fun kv => if kv.1 = k then (kv.1, y) else kv) j = (valV kvs j).map fun x => if j = k then y else x
  | [] => rfl
  | p :: r => by
    have ih := valV_map k j y r
    rw [List.map_cons]
    by_cases h : p.1 = k
    · rw [if_pos h]
      by_cases e : p.1 = j
      · rw [valV_pos (p := (p.1, y)) e, valV_pos e, Option.map_some, if_pos (e.symm.trans h)]
      · rw [valV_neg (p := (p.1, y)) e, valV_neg e, ih]
    · rw [if_neg h]
      by_cases e : p.1 = j
      · rw [valV_pos (p := p) e, valV_pos e, Option.map_some, if_neg (fun z => h (e.trans z))]
      · rw [valV_neg (p := p) e, valV_neg e, ih]
theorem valV_snoc (k j : κ) (y : V) : ∀ kvs : List (κ × V), valV kvs k = none → valV (kvs ++ [(k, y)]) j = if j = k then some y else valV kvs j
  | [], _ => by
    by_cases e : k = j
    · rw [if_pos e.symm]; exact valV_pos (p := (k, y)) e
    · rw [if_neg (fun z => e z.symm)]; exact valV_neg (p := (k, y)) e
  | p :: r, hn => by
    rw [List.cons_append]
    have hk : ¬ p.1 = k := fun z => by rw [valV_pos z] at hn; cases hn
    rw [valV_neg hk] at hn
    have ih := valV_snoc k j y r hn
    by_cases e : p.1 = j
    · rw [valV_pos e, valV_pos e, if_neg (fun z => hk (e.trans z))]
    · rw [valV_neg e, valV_neg e, ih]
theorem valV_put (kvs : List (κ × V)) (k j : κ) (y : V) : valV (putK kvs k y) j = if j = k then some y else valV kvs j := by
  unfold putK
  by_cases a : (kvs.any fun kv => decide (kv.1 = k)) = true
  · rw [if_pos a, valV_map]
    rw [valV_any] at a
    by_cases e : j = k
    · obtain ⟨x, hx⟩ := Option.isSome_iff_exists.mp a
      rw [if_pos e, e, hx, Option.map_some, if_pos rfl]
    · rw [if_neg e]
      cases valV kvs j with
      | none => rfl
      | some x => rw [Option.map_some, if_neg e]
  · rw [if_neg a]
    refine valV_snoc k j y kvs ?_
    rw [valV_any] at a
    cases q : valV kvs k with
    | none => rfl
    | some x => rw [q] at a; exact (a rfl).elim
theorem length_putK (kvs : List (κ × V)) (k : κ) (v : V) : (putK kvs k v).length ≤ kvs.length + 1 := by
  unfold putK
  split
  · rw [List.length_map]; omega
  · rw [List.length_append, List.length_cons, List.length_nil]; omega
theorem putK_new {kvs : List (κ × V)} {k : κ} (v : V) (h : valV kvs k = none) : putK kvs k v = kvs ++ [(k, v)] := by
  unfold putK
  rw [valV_any, h]
  exact if_neg (by decide)

theorem RelO.isSome_eq {o : Option V} {u : Option Value} (r : RelO o u) : o.isSome = u.isSome := by
  cases o with
  | none => cases u with
    | none => rfl
    | some _ => exact (show False from r).elim
  | some _ => cases u with
    | none => exact (show False from r).elim
    | some _ => rfl
theorem RelO.getD {o : Option V} {u : Option Value} {d : V} {d' : Value} (r : RelO o u) (rd : RelV d d') : RelV (o.getD d) (u.getD d') := by
  cases o with
  | none => cases u with
    | none => exact rd
    | some _ => exact (show False from r).elim
  | some _ => cases u with
    | none => exact (show False from r).elim
    | some _ => exact r

/-- raw tables of the same keys -/
theorem KV.val {kvs : List (κ × V)} {vs : List (κ × Value)} (r : KV kvs vs) (k : κ) : RelO (valV kvs k) (valueAt vs k) := by
  unfold KV at r
  induction r with
  | nil => exact True.intro
  | @cons p q ps qs h t ih =>
    obtain ⟨h1, h2⟩ := h
    by_cases e : p.1 = k
    · have e' : q.1 = k := h1.symm.trans e
      have b : valueAt (q :: qs) k = some q.2 := by simp [valueAt, List.find?_cons, e']
      rw [valV_pos e, b]; exact h2
    · have e' : ¬ q.1 = k := fun z => e (h1.trans z)
      have b : valueAt (q :: qs) k = valueAt qs k := by simp [valueAt, List.find?_cons, e']
      rw [valV_neg e, b]; exact ih
theorem KV.any {kvs : List (κ × V)} {vs : List (κ × Value)} (r : KV kvs vs) (k : κ) : (kvs.any fun kv => decide (kv.1 = k)) = vs.any fun kv => decide (kv.1 = k) := by
  unfold KV at r
  induction r with
  | nil => rfl
  | cons h t ih => rw [List.any_cons, List.any_cons, ih, h.1]
theorem KV.repl {kvs : List (κ × V)} {vs : List (κ × Value)} (r : KV kvs vs) (k : κ) {y : V} {u : Value} (ry : RelV y u) :
    KV (kvs.map fun kv => if kv.1 = k then (kv.1, y) else kv) (vs.map fun kv => if kv.1 = k then (kv.1, u) else kv) := by
  unfold KV at r ⊢
  induction r with
  | nil => exact .nil
  | @cons p q ps qs h t ih =>
    rw [List.map_cons, List.map_cons]
    refine .cons ?_ ih
    obtain ⟨h1, h2⟩ := h
    by_cases e : p.1 = k
    · rw [if_pos e, if_pos (h1.symm.trans e)]; exact ⟨h1, ry⟩
    · rw [if_neg e, if_neg (fun z => e (h1.trans z))]; exact ⟨h1, h2⟩
theorem KV.put {kvs : List (κ × V)} {vs : List (κ × Value)} (r : KV kvs vs) (k : κ) {y : V} {u : Value} (ry : RelV y u) : KV (putK kvs k y) (stored vs k u) := by
  unfold putK stored
  rw [r.any k]
  by_cases e : (vs.any fun kv => decide (kv.1 = k)) = true
  · rw [if_pos e, if_pos e]; exact r.repl k ry
  · rw [if_neg e, if_neg e]; exact Paired.snoc r ⟨rfl, ry⟩
theorem KV.drop {kvs : List (κ × V)} {vs : List (κ × Value)} (r : KV kvs vs) (k : κ) : KV (dropK kvs k) (without vs k) := by
  unfold KV at r ⊢
  unfold dropK without
  induction r with
  | nil => exact .nil
  | @cons p q ps qs h t ih =>
    obtain ⟨h1, h2⟩ := h
    rw [List.filter_cons, List.filter_cons]
    by_cases e : p.1 = k
    · have a : ¬ decide (p.1 ≠ k) = true := by simp [e]
      have b : ¬ decide (q.1 ≠ k) = true := by simp [h1.symm.trans e]
      rw [if_neg a, if_neg b]; exact ih
    · have e' : ¬ q.1 = k := fun z => e (h1.trans z)
      have a : decide (p.1 ≠ k) = true := by simp [e]
      have b : decide (q.1 ≠ k) = true := by simp [e']
      rw [if_pos a, if_pos b]; exact .cons ⟨h1, h2⟩ ih
theorem KV.keys {kvs : List (κ × V)} {vs : List (κ × Value)} (r : KV kvs vs) : kvs.map (·.1) = vs.map (·.1) := by
  unfold KV at r
  induction r with
  | nil => rfl
  | cons h t ih => rw [List.map_cons, List.map_cons, ih, h.1]
theorem KV.length {kvs : List (κ × V)} {vs : List (κ × Value)} (r : KV kvs vs) : kvs.length = vs.length := Paired.length r
theorem dropK_le (kvs : List (κ × V)) (k : κ) : (dropK kvs k).length ≤ kvs.length := List.length_filter_le _ _
end


/-! ### a tracked dict, its keys ints and texts or tuples of these -/
theorem kV_is {P : Program} {w : World} {k : Key} {u : Value} (r : RelV (kV k) u) : (mixKind P w).is k u = true := by
  cases k with
  | inl i => obtain ⟨t, e⟩ := (show ∃ t, u = Value.int i t from r); subst e; exact mixKind_int P w i t
  | inr x => obtain ⟨t, e⟩ := (show ∃ t, u = Value.str x t from r); subst e; exact mixKind_str P w x t
theorem kV_inj {a b : Key} (e : kV a = kV b) : a = b := by
  cases a with
  | inl i => cases b with
    | inl j => have e' : V.int i = V.int j := e; injection e' with e'; rw [e']
    | inr y => exact nomatch (show V.int i = V.str y from e)
  | inr x => cases b with
    | inl j => exact nomatch (show V.str x = V.int j from e)
    | inr y => have e' : V.str x = V.str y := e; injection e' with e'; rw [e']
theorem kVs_inj : ∀ {a b : List Key}, a.map kV = b.map kV → a = b
  | [], [], _ => rfl
  | [], _ :: _, e => by simp at e
  | _ :: _, [], e => by simp at e
  | x :: xs, y :: ys, e => by
    rw [List.map_cons, List.map_cons] at e
    injection e with e1 e2
    rw [kV_inj e1, kVs_inj e2]
theorem items_are {P : Program} {w : World} : ∀ {ks : List Key} {us : List Value}, Vals (ks.map kV) us → ItemsAre (mixKind P w) ks us
  | [], _, r => by rw [List.map_nil] at r; cases r; exact .nil
  | k :: ks, _, r => by
    rw [List.map_cons] at r
    cases r with
    | cons h t => exact .cons (kV_is h) (items_are t)

/-- raw entries of a dict with tuple keys -/
abbrev KT (H : Hp) : List (List Key × V) → List (List Key × Addr × Value) → Prop := Paired fun p q => p.1 = q.1 ∧ H q.2.1 = some (.tup (p.1.map kV)) ∧ RelV p.2 q.2.2
theorem KT.val {H : Hp} {kvs : List (List Key × V)} {xs : List (List Key × Addr × Value)} (r : KT H kvs xs) (k : List Key) : RelO (valV kvs k) ((atKey xs k).map (·.2)) := by
  induction r with
  | nil => exact True.intro
  | @cons p q ps qs h t ih =>
    obtain ⟨h1, _, h2⟩ := h
    by_cases e : p.1 = k
    · have e' : q.1 = k := h1.symm.trans e
      have b : atKey (q :: qs) k = some q.2 := by simp [atKey, List.find?_cons, e']
      rw [valV_pos e, b]; exact h2
    · have e' : ¬ q.1 = k := fun z => e (h1.trans z)
      have b : atKey (q :: qs) k = atKey qs k := by simp [atKey, List.find?_cons, e']
      rw [valV_neg e, b]; exact ih
theorem KT.repl {H : Hp} {kvs : List (List Key × V)} {xs : List (List Key × Addr × Value)} (r : KT H kvs xs) (k : List Key) {y : V} {u : Value} (ry : RelV y u) :
    KT H (kvs.map fun kv => if kv.1 = k then (kv.1, y) else kv) (xs.map (putAt k u)) := by
  induction r with
  | nil => exact .nil
  | @cons p q ps qs h t ih =>
    rw [List.map_cons, List.map_cons]
    refine .cons ?_ ih
    obtain ⟨h1, h2, h3⟩ := h
    unfold putAt
    by_cases e : p.1 = k
    · rw [if_pos e, if_pos (h1.symm.trans e)]; exact ⟨h1, h2, ry⟩
    · rw [if_neg e, if_neg (fun z => e (h1.trans z))]; exact ⟨h1, h2, h3⟩
theorem KT.put {H : Hp} {kvs : List (List Key × V)} {xs : List (List Key × Addr × Value)} (r : KT H kvs xs) (k : List Key) {b : Addr} {y : V} {u : Value} (hb : H b = some (.tup (k.map kV))) (ry : RelV y u) :
    KT H (putK kvs k y) (storedH xs k b u) := by
  have e : (kvs.any fun kv => decide (kv.1 = k)) = (atKey xs k).isSome := by
    rw [valV_any, (r.val k).isSome_eq, Option.isSome_map]
  unfold putK storedH
  rw [e]
  by_cases q : (atKey xs k).isSome = true
  · rw [if_pos q, if_pos q]; exact r.repl k ry
  · rw [if_neg q, if_neg q]; exact Paired.snoc r ⟨rfl, hb, ry⟩
theorem KT.keeps {H H' : Hp} {kvs : List (List Key × V)} {xs : List (List Key × Addr × Value)} (r : KT H kvs xs) (ht : ∀ b ys, H b = some (.tup ys) → H' b = some (.tup ys)) : KT H' kvs xs :=
  Paired.mapP r fun _ _ z => ⟨z.1, ht _ _ z.2.1, z.2.2⟩

section
variable {P : Program} {w : World} {H : Hp} {h : Heap} {a : Addr}
theorem rd_of {u : HO} (ok : HOk P w H h) (e : Rd H a u) : ObjOk P w H h a u := e.ok ok
theorem dk_rd {kvs : List (Key × V)} (ok : HOk P w H h) (e : Rd H a (.dK kvs)) : kvs.length ≤ sizeLine ∧ (a == sysModules) = false ∧ ∃ vs, KV kvs vs ∧ h.DictOf (mixKind P w) a vs :=
  show ObjOk P w H h a (.dK kvs) from rd_of ok e
theorem dk_of {kvs : List (Key × V)} (ok : HOk P w H h) (e : H a = some (.dK kvs)) : kvs.length ≤ sizeLine ∧ (a == sysModules) = false ∧ ∃ vs, KV kvs vs ∧ h.DictOf (mixKind P w) a vs := dk_rd ok (.inl e)
/-- a tracked tuple of ints and texts is a key -/
theorem key_of {ks : List Key} (ok : HOk P w H h) (e : H a = some (.tup (ks.map kV))) : (tupleKind (mixKind P w)).is h ks a := by
  obtain ⟨_, its, r, o, h1, h2, n, h3⟩ := (show ObjOk P w H h a (.tup (ks.map kV)) from ok a _ e)
  exact ⟨o, its.toArray, n, h1, h2, h3, by simpa using items_are r⟩
theorem dt_rd {kvs : List (List Key × V)} (ok : HOk P w H h) (e : Rd H a (.dT kvs)) : kvs.length ≤ sizeLine ∧ (a == sysModules) = false ∧
    ∃ xs, KT H kvs xs ∧ h.DictOfH (tupleKind (mixKind P w)) a xs := by
  obtain ⟨z, y, xs, r, o, es, ep, h1, h2, h3, h4, h5⟩ := (show ObjOk P w H h a (.dT kvs) from rd_of ok e)
  refine ⟨z, y, xs, r, o, es, ep, h1, h2, h3, h4, fun x hx => ?_, h5⟩
  have all : ∀ {l : List (List Key × V)} {m : List (List Key × Addr × Value)}, KT H l m → ∀ x ∈ m, (tupleKind (mixKind P w)).is h x.1 x.2.1 := by
    intro l m q
    induction q with
    | nil => intro x hx; exact nomatch hx
    | @cons p q ps qs hq t ih =>
      intro x hx
      rcases List.mem_cons.mp hx with e | hx
      · subst e
        exact key_of ok (by rw [← hq.1]; exact hq.2.1)
      · exact ih x hx
  exact all r x hx
theorem dt_of {kvs : List (List Key × V)} (ok : HOk P w H h) (e : H a = some (.dT kvs)) : kvs.length ≤ sizeLine ∧ (a == sysModules) = false ∧
    ∃ xs, KT H kvs xs ∧ h.DictOfH (tupleKind (mixKind P w)) a xs := dt_rd ok (.inl e)
end

/-- what the dict at a holds at the key y -/
def DGet (H : Hp) (a : Addr) (y : V) (r : Option V) : Prop :=
  (∃ kvs k, Rd H a (.dK kvs) ∧ y = kV k ∧ r = valV kvs k) ∨ ∃ kvs k b, Rd H a (.dT kvs) ∧ y = .ref b ∧ H b = some (.tup (k.map kV)) ∧ r = valV kvs k
/-- the heap behind a[y] = v -/
def DPut (H : Hp) (a : Addr) (y v : V) (H' : Hp) : Prop :=
  (∃ kvs k, H a = some (.dK kvs) ∧ y = kV k ∧ kvs.length < sizeLine ∧ H' = upd H a (.dK (putK kvs k v))) ∨
  ∃ kvs k b, H a = some (.dT kvs) ∧ y = .ref b ∧ H b = some (.tup (k.map kV)) ∧ kvs.length < sizeLine ∧ H' = upd H a (.dT (putK kvs k v))
theorem DGet.k {H : Hp} {a : Addr} {kvs : List (Key × V)} {k : Key} (e : H a = some (.dK kvs)) : DGet H a (kV k) (valV kvs k) := .inl ⟨kvs, k, .inl e, rfl, rfl⟩
theorem DGet.t {H : Hp} {a b : Addr} {kvs : List (List Key × V)} {k : List Key} (e : H a = some (.dT kvs)) (eb : H b = some (.tup (k.map kV))) : DGet H a (.ref b) (valV kvs k) := .inr ⟨kvs, k, b, .inl e, rfl, eb, rfl⟩
theorem DPut.k {H : Hp} {a : Addr} {kvs : List (Key × V)} {k : Key} {v : V} (e : H a = some (.dK kvs)) (hl : kvs.length < sizeLine) : DPut H a (kV k) v (upd H a (.dK (putK kvs k v))) := .inl ⟨kvs, k, e, rfl, hl, rfl⟩
theorem DPut.t {H : Hp} {a b : Addr} {kvs : List (List Key × V)} {k : List Key} {v : V} (e : H a = some (.dT kvs)) (eb : H b = some (.tup (k.map kV))) (hl : kvs.length < sizeLine) :
    DPut H a (.ref b) v (upd H a (.dT (putK kvs k v))) := .inr ⟨kvs, k, b, e, rfl, eb, hl, rfl⟩


section
variable {X : Cx} {pins : List (Addr × Obj)} {σ : St} {H : Hp} {s : Shared} {a : Addr} {y v : V} {u r : Value} {o : Option V} {A : Around} {E : Value → Shared → Prop}

theorem Inv.big (I : Inv X pins σ H s) : sysModules < s.heap.objs.size := by
  have h : mainGlobals < s.heap.objs.size := (I.mod.glob.keeps I.bk).lt
  exact Nat.lt_trans (by decide) h

/-- d[y], there -/
theorem d_getItem {Q : Value → Shared → Prop} (hu : A.units + 1 < cLine) (I : Inv X pins σ H s) (g : DGet H a y (some v)) (ry : RelV y u) (h : ∀ w' s', Inv X pins σ H s' → RelV v w' → Q w' s') :
    wpAny (model X.prog X.w) A (getItem (.ref a) u) Q E s := by
  rcases g with ⟨kvs, k, e, ey, l⟩ | ⟨kvs, k, b, e, ey, eb, l⟩
  · subst ey
    obtain ⟨z, hd, vs, rel, dd⟩ := dk_rd I.hok e
    obtain ⟨w', hw, rw'⟩ := RelO.some_of (v := v) (o := valueAt vs k) (by rw [l]; exact rel.val k)
    exact wpAny_getItem_of (kV_is ry) dd.mapOf hw (h w' _ (I.tok _) rw')
  · subst ey
    cases (show u = Value.ref b from ry)
    obtain ⟨z, hd, xs, rel, dd⟩ := dt_rd I.hok e
    obtain ⟨w', hw, rw'⟩ := RelO.some_of (v := v) (o := (atKey xs k).map (·.2)) (by rw [l]; exact rel.val k)
    obtain ⟨p, hp, hp2⟩ := Option.map_eq_some_iff.mp hw
    refine wpAny_getItem_heap (tupleKind_room_in1 hu) (key_of I.hok eb) dd hp ?_
    rw [hp2]
    exact h w' _ (I.tok _) rw'
/-- y in d -/
theorem d_in {Q : Value → Shared → Prop} (hu : A.units + 1 < cLine) (I : Inv X pins σ H s) (g : DGet H a y o) (ry : RelV y u) (h : ∀ s', Inv X pins σ H s' → Q (.bool o.isSome) s') :
    wpAny (model X.prog X.w) A (compareOp .In u (.ref a)) Q E s := by
  rcases g with ⟨kvs, k, e, ey, l⟩ | ⟨kvs, k, b, e, ey, eb, l⟩
  · subst ey
    obtain ⟨z, hd, vs, rel, dd⟩ := dk_rd I.hok e
    refine wpAny_in_of (kV_is ry) hd dd.mapOf ?_
    rw [← (rel.val k).isSome_eq, ← l]
    exact h _ (I.tok _)
  · subst ey
    cases (show u = Value.ref b from ry)
    obtain ⟨z, hd, xs, rel, dd⟩ := dt_rd I.hok e
    refine wpAny_in_heap (tupleKind_room_in1 hu) (key_of I.hok eb) hd dd ?_
    have q := (rel.val k).isSome_eq
    rw [Option.isSome_map] at q
    rw [← q, ← l]
    exact h _ (I.tok _)
theorem d_notIn {Q : Value → Shared → Prop} (hu : A.units + 1 < cLine) (I : Inv X pins σ H s) (g : DGet H a y o) (ry : RelV y u) (h : ∀ s', Inv X pins σ H s' → Q (.bool (!o.isSome)) s') :
    wpAny (model X.prog X.w) A (compareOp .NotIn u (.ref a)) Q E s := by
  rcases g with ⟨kvs, k, e, ey, l⟩ | ⟨kvs, k, b, e, ey, eb, l⟩
  · subst ey
    obtain ⟨z, hd, vs, rel, dd⟩ := dk_rd I.hok e
    refine wpAny_notIn_of (kV_is ry) hd dd.mapOf ?_
    rw [← (rel.val k).isSome_eq, ← l]
    exact h _ (I.tok _)
  · subst ey
    cases (show u = Value.ref b from ry)
    obtain ⟨z, hd, xs, rel, dd⟩ := dt_rd I.hok e
    refine wpAny_notIn_heap (tupleKind_room_in1 hu) (key_of I.hok eb) hd dd ?_
    have q := (rel.val k).isSome_eq
    rw [Option.isSome_map] at q
    rw [← q, ← l]
    exact h _ (I.tok _)
/-- a dict's object is replaced -/
theorem d_write {h' : Heap} {t' : Nat} {ob : HO} (I : Inv X pins σ H s) (mu : Mut (H a)) (hs : Heap.SameBut a s.heap h') (he : ∃ q, h'.get? a = some q) (new : ObjOk X.prog X.w (upd H a ob) h' a ob) :
    Inv X pins σ (upd H a ob) { s with heap := h', toks := t' } :=
  I.write (x := a) (e := a) mu (.inl rfl) (fun b q hb z => (hs.2 b hb).trans z) he new
theorem dk_new {P : Program} {w : World} {H' : Hp} {h' : Heap} {kvs : List (Key × V)} {vs : List (Key × Value)} (z : kvs.length ≤ sizeLine) (hd : (a == sysModules) = false) (rel : KV kvs vs) (dd : h'.DictOf (mixKind P w) a vs) :
    ObjOk P w H' h' a (.dK kvs) := ⟨z, hd, vs, rel, dd⟩
/-- d[y] = v -/
theorem d_setItem {H' : Hp} {Q : Unit → Shared → Prop} (hu : A.units + 1 < cLine) (I : Inv X pins σ H s) (g : DPut H a y v H') (ry : RelV y u) (rv : RelV v r) (h : ∀ s', Inv X pins σ H' s' → Q () s') :
    wpAny (model X.prog X.w) A (setItem (.ref a) u r) Q E s := by
  rcases g with ⟨kvs, k, e, ey, l, eH⟩ | ⟨kvs, k, b, e, ey, eb, l, eH⟩
  · subst ey eH
    obtain ⟨z, hd, vs, rel, dd⟩ := dk_of I.hok e
    have hz : vs.length ≤ sizeLine := by rw [← rel.length]; exact z
    have hl : (putK kvs k v).length ≤ sizeLine := by have := length_putK kvs k v; omega
    refine wpAny_setItem_pairs (hsz := hz) (kV_is ry) dd fun h' dd' hs => h _ ?_
    have he : ∃ q, h'.get? a = some q := let ⟨q, _, _, hq, _⟩ := dd'; ⟨q, hq⟩
    exact d_write I (by rw [e]; exact True.intro) hs he (dk_new hl hd (rel.put k rv) dd')
  · subst ey eH
    cases (show u = Value.ref b from ry)
    obtain ⟨z, hd, xs, rel, dd⟩ := dt_of I.hok e
    have hz : xs.length ≤ sizeLine := by rw [← Paired.length rel]; exact z
    have hl : (putK kvs k v).length ≤ sizeLine := by have := length_putK kvs k v; omega
    refine wpAny_setItem_heap (hsz := hz) (tupleKind_room_in1 hu) (key_of I.hok eb) dd fun h' dd' hs => h _ ?_
    obtain ⟨q, es, ep, hq, h2, h3, h4, _, h5⟩ := dd'
    refine d_write I (by rw [e]; exact True.intro) hs ⟨q, hq⟩ ⟨hl, hd, _, (rel.put k eb rv).keeps fun c ys ec => ?_, q, es, ep, hq, h2, h3, h4, h5⟩
    rw [upd_ne (ne_of ec e (fun z => nomatch z))]
    exact ec
end

section
variable {X : Cx} {pins : List (Addr × Obj)} {σ : St} {H : Hp} {s : Shared} {a : Addr} {kvs : List (Key × V)} {k : Key} {u : Value} {A : Around} {E : Value → Shared → Prop}
/-- del d[k] -/
theorem d_delItem {Q : Unit → Shared → Prop} (I : Inv X pins σ H s) (e : H a = some (.dK kvs)) (ry : RelV (kV k) u) (l : (valV kvs k).isSome = true) (h : ∀ s', Inv X pins σ (upd H a (.dK (dropK kvs k))) s' → Q () s') :
    wpAny (model X.prog X.w) A (delItem (.ref a) u) Q E s := by
  obtain ⟨z, hd, vs, rel, dd⟩ := dk_of I.hok e
  refine wpAny_delItem_slot dd.typeIs (by decide) PySem.F.slot_dict_delitem
    (call_meetsIn PySem.F.slot_dict_delitem dd.typeIs PySem.F.entry_dict_delitem (PySem.F.args_dict_delitem_2 _ _) (meets_dict_delitem_pairs (mixKind X.prog X.w) a (kV_is ry)) ⟨vs, dd, by rw [← rel.length]; exact z, by rw [← (rel.val k).isSome_eq]; exact l, fun h' dd' hs => h _ ?_⟩)
  have he : ∃ q, h'.get? a = some q := let ⟨q, _, _, hq, _⟩ := dd'; ⟨q, hq⟩
  exact d_write I (by rw [e]; exact True.intro) hs he (dk_new (Nat.le_trans (dropK_le kvs k) z) hd (rel.drop k) dd')
/-- d.pop(k[, x]), there -/
theorem d_pop {v : V} {more : List Value} {Q : Value → Shared → Prop} (I : Inv X pins σ H s) (e : H a = some (.dK kvs)) (ry : RelV (kV k) u) (l : valV kvs k = some v) (hm : more = [] ∨ ∃ x, more = [x])
    (h : ∀ w' s', Inv X pins σ (upd H a (.dK (dropK kvs k))) s' → RelV v w' → Q w' s') : wpAny (model X.prog X.w) A (call (.builtin "dict.pop") (.ref a :: u :: more)) Q E s := by
  obtain ⟨z, hd, vs, rel, dd⟩ := dk_of I.hok e
  obtain ⟨w', hw, rw'⟩ := RelO.some_of (v := v) (o := valueAt vs k) (by rw [← l]; exact rel.val k)
  have hp : (keyPart u).isSome = true := by
    cases k with
    | inl i => obtain ⟨t, q⟩ := (show ∃ t, u = Value.int i t from ry); subst q; rfl
    | inr x => obtain ⟨t, q⟩ := (show ∃ t, u = Value.str x t from ry); subst q; rfl
  have ha : argsOk "dict.pop" ⟨.ref a :: u :: more, []⟩ := by
    rcases hm with q | ⟨x, q⟩
    · subst q; exact PySem.F.args_dict_pop_2 _ _
    · subst q; exact PySem.F.args_dict_pop_3 _ _ _
  refine call_meetsIn PySem.F.slot_dict_pop dd.typeIs PySem.F.entry_dict_pop ha (meets_dict_pop_there (mixKind X.prog X.w) a (kV_is ry) more hm hp)
    ⟨vs, w', dd, by rw [← rel.length]; exact z, hw, fun h' dd' hs => h w' _ ?_ rw'⟩
  have he : ∃ q, h'.get? a = some q := let ⟨q, _, _, hq, _⟩ := dd'; ⟨q, hq⟩
  exact d_write I (by rw [e]; exact True.intro) hs he (dk_new (Nat.le_trans (dropK_le kvs k) z) hd (rel.drop k) dd')
/-- d.pop(k, x), not there -/
theorem d_popD {r : Value} {Q : Value → Shared → Prop} (I : Inv X pins σ H s) (e : H a = some (.dK kvs)) (ry : RelV (kV k) u) (l : valV kvs k = none) (h : ∀ s', Inv X pins σ H s' → Q r s') :
    wpAny (model X.prog X.w) A (call (.builtin "dict.pop") [.ref a, u, r]) Q E s := by
  obtain ⟨z, hd, vs, rel, dd⟩ := dk_of I.hok e
  have hn : valueAt vs k = none := RelO.none_of (by rw [← l]; exact rel.val k)
  have hp : (keyPart u).isSome = true := by
    cases k with
    | inl i => obtain ⟨t, q⟩ := (show ∃ t, u = Value.int i t from ry); subst q; rfl
    | inr x => obtain ⟨t, q⟩ := (show ∃ t, u = Value.str x t from ry); subst q; rfl
  exact call_meetsIn PySem.F.slot_dict_pop dd.typeIs PySem.F.entry_dict_pop (PySem.F.args_dict_pop_3 _ _ _) (meets_dict_pop_default (mixKind X.prog X.w) a (kV_is ry) hd hp r) ⟨vs, dd, hn, h _ (I.tok _)⟩
/-- d.clear() -/
theorem d_clear {Q : Value → Shared → Prop} (I : Inv X pins σ H s) (e : H a = some (.dK kvs)) (h : ∀ s', Inv X pins σ (upd H a (.dK [])) s' → Q .none s') : wpAny (model X.prog X.w) A (call (.builtin "dict.clear") [.ref a]) Q E s := by
  obtain ⟨z, hd, vs, rel, dd⟩ := dk_of I.hok e
  refine call_meetsIn PySem.F.slot_dict_clear dd.typeIs PySem.F.entry_dict_clear (PySem.F.args_dict_clear_1 _) (meets_dict_clear (mixKind X.prog X.w) a) ⟨vs, dd, by rw [← rel.length]; exact z, fun h' dd' hs => h _ ?_⟩
  have he : ∃ q, h'.get? a = some q := let ⟨q, _, _, hq, _⟩ := dd'; ⟨q, hq⟩
  exact d_write (t' := s.toks) I (by rw [e]; exact True.intro) hs he (dk_new (Nat.zero_le _) hd .nil dd')
/-- len(d) -/
theorem d_len {Q : Value → Shared → Prop} (I : Inv X pins σ H s) (e : Rd H a (.dK kvs)) (h : ∀ t s', Inv X pins σ H s' → Q (.int kvs.length t) s') : wpAny (model X.prog X.w) A (call (.builtin "len") [.ref a]) Q E s := by
  obtain ⟨z, hd, vs, rel, dd⟩ := dk_rd I.hok e
  refine call_len_dict hd dd (by rw [← rel.length]; rw [sizeLine_eq] at z; omega) ?_
  rw [← rel.length]
  exact h _ _ (I.tok _)
/-- if d -/
theorem d_truth {Q : Bool → Shared → Prop} (I : Inv X pins σ H s) (e : Rd H a (.dK kvs)) (h : ∀ s', Inv X pins σ H s' → Q (!kvs.isEmpty) s') : wpAny (model X.prog X.w) A (truthy (.ref a)) Q E s := by
  obtain ⟨z, hd, vs, rel, dd⟩ := dk_rd I.hok e
  refine wpAny_truthy_dict hd dd (by rw [← rel.length]; rw [sizeLine_eq] at z; omega) ?_
  have q : kvs.isEmpty = vs.isEmpty := by cases rel <;> rfl
  rw [← q]
  exact h _ (I.tok _)
end


/-! ### readings and rules -/
/-- the element of a subscription, not a slice -/
def NoSl (i : Expr) : Prop := ∀ ov iv, subscripted i false ov iv = operate [ov, iv] (getItem ov iv)
theorem subD_of {prog : Program} {w : World} {A : Around} {E : Value → Shared → Prop} {s : Shared} {env : Env} {value slice : Expr} {pos : Pos} {T id : String} {Q : Value → Shared → Prop}
    (hl : typeLookup (.type T) "__getitem__" = pure (some (.builtin id))) (hs : NoSl slice)
    (h : wpAny (model prog w) A (eval value env) (fun o s₁ => wpAny (model prog w) A (eval slice env) (fun i s₂ => s₂.TypeIs o T ∧ wpAny (model prog w) A (getItem o i) Q E s₂) E s₁) E s) :
    wpAny (model prog w) A (eval (.Subscript value slice pos) env) Q E s := by
  refine Subscript_ (wpAny_mono h (fun o s₁ h₁ => wpAny_mono h₁ (fun i s₂ h₂ => ?_) fun _ _ x => x) fun _ _ x => x)
  obtain ⟨hT, h₂⟩ := h₂
  unfold subscriptTail
  refine wpAny_bind ?_
  rw [getitemInPython_of_ne hT.not_modules]
  refine wpAny_bind (wpAny_specialOf hT hl ?_)
  have fin : wpAny (model prog w) A (subscripted slice false o i) (fun r s₃ => wpAny (model prog w) A (letTemporaryGo value o r >>= fun _ => pure r) Q E s₃) E s₂ := by
    rw [hs o i]
    exact wpAny_operating (wpAny_mono h₂ (fun r s₃ h₃ => wpAny_bind (wpAny_letTemporaryGo (wpAny_pure h₃))) fun _ _ x => x)
  first
    | exact wpAny_pure (wpAny_bind fin)
    | exact wpAny_bind (wpAny_pure (wpAny_bind fin))
    | exact wpAny_bind fin

theorem dict_typeIs {X : Cx} {pins : List (Addr × Obj)} {σ : St} {H : Hp} {s : Shared} {a : Addr} {y : V} {o : Option V} (I : Inv X pins σ H s) (g : DGet H a y o) : s.TypeIs (.ref a) "dict" := by
  rcases g with ⟨kvs, k, e, _, _⟩ | ⟨kvs, k, b, e, _, _, _⟩
  · obtain ⟨_, _, vs, _, dd⟩ := dk_rd I.hok e
    exact dd.typeIs
  · obtain ⟨_, _, xs, _, dd⟩ := dt_rd I.hok e
    exact dd.typeIs
theorem dict_noDict {X : Cx} {pins : List (Addr × Obj)} {σ : St} {H : Hp} {s : Shared} {a : Addr} {y : V} {o : Option V} (I : Inv X pins σ H s) (g : DGet H a y o) :
    ∀ b, Value.ref a = .ref b → ∃ ob, s.heap.get? b = some ob ∧ ob.dict = none := fun b q => by
  cases q
  rcases g with ⟨kvs, k, e, _, _⟩ | ⟨kvs, k, b, e, _, _, _⟩
  · obtain ⟨_, _, vs, _, ob, _, _, h1, h2, _⟩ := dk_rd I.hok e
    exact ⟨ob, h1, h2.2.1⟩
  · obtain ⟨_, _, xs, _, ob, _, _, h1, h2, _⟩ := dt_rd I.hok e
    exact ⟨ob, h1, h2.2.1⟩

/-- d[y] -/
def tDGet (td ty : TE) : TE := fun σ H Q => td σ H fun x H1 => ty σ H1 fun y H2 => ∃ a v, x = .ref a ∧ DGet H2 a y (some v) ∧ Q v H2
/-- y in d, y not in d -/
def tDIn (ty td : TE) : TE := fun σ H Q => ty σ H fun y H1 => td σ H1 fun x H2 => ∃ a o, x = .ref a ∧ DGet H2 a y o ∧ Q (.bl o.isSome) H2
def tDNotIn (ty td : TE) : TE := fun σ H Q => ty σ H fun y H1 => td σ H1 fun x H2 => ∃ a o, x = .ref a ∧ DGet H2 a y o ∧ Q (.bl (!o.isSome)) H2
/-- d[y] = v -/
def sDPut (td ty tv : TE) : TS := fun D σ H => tv σ H fun v H1 => td σ H1 fun x H2 => ty σ H2 fun y H3 => ∃ a H4, x = .ref a ∧ DPut H3 a y v H4 ∧ D.nx σ H4
/-- d[y] op= v -/
def sDAug (td ty tv : TE) (rd : V → V → Hp → VK → Prop) : TS := fun D σ H => td σ H fun x H1 => ty σ H1 fun y H2 => ∃ a v, x = .ref a ∧ DGet H2 a y (some v) ∧
  tv σ H2 fun y2 H3 => rd v y2 H3 fun z H4 => ∃ H5, DPut H4 a y z H5 ∧ D.nx σ H5
/-- del d[y] -/
def sDDel (td ty : TE) : TS := fun D σ H => td σ H fun x H1 => ty σ H1 fun y H2 => ∃ a kvs k, x = .ref a ∧ H2 a = some (.dK kvs) ∧ y = kV k ∧ (valV kvs k).isSome = true ∧ D.nx σ (upd H2 a (.dK (dropK kvs k)))

section
variable {X : Cx} {o i e value : Expr} {pos pos' tpos : Pos} {td ty tv : TE}
theorem pe_dget (hu : X.A.units + 1 < cLine) (ho : PE X o td) (hi : PE X i ty) (hs : NoSl i) : PE X (.Subscript o i pos) (tDGet td ty) := by
  intro pins s σ H Q I h
  refine subD_of PySem.F.slot_dict_getitem.lookup hs (thn (ho pins s σ H _ I h) fun u s1 ⟨x, H1, I1, rx, q1⟩ => thn (hi pins s1 σ H1 _ I1 q1) fun iv s2 ⟨y, H2, I2, ry, a, v, ex, g, q2⟩ => ?_)
  subst ex
  obtain rfl : u = Value.ref a := rx
  exact ⟨dict_typeIs I2 g, d_getItem hu I2 g ry fun w' s3 I3 rw' => ⟨v, H2, I3, rw', q2⟩⟩
theorem pc_din (hu : X.A.units + 1 < cLine) (hi : PE X i ty) (ho : PE X o td) : PC X .In i o (tDIn ty td) := by
  intro pins s σ H Q I h
  refine thn (hi pins s σ H _ I h) fun iv s1 ⟨y, H1, I1, ry, q1⟩ => thn (ho pins s1 σ H1 _ I1 q1) fun u s2 ⟨x, H2, I2, rx, a, ov, ex, g, q2⟩ => ?_
  subst ex
  obtain rfl : u = Value.ref a := rx
  exact d_in hu I2 g ry fun s3 I3 => ⟨.bl ov.isSome, H2, I3, rfl, q2⟩
theorem pc_dnotin (hu : X.A.units + 1 < cLine) (hi : PE X i ty) (ho : PE X o td) : PC X .NotIn i o (tDNotIn ty td) := by
  intro pins s σ H Q I h
  refine thn (hi pins s σ H _ I h) fun iv s1 ⟨y, H1, I1, ry, q1⟩ => thn (ho pins s1 σ H1 _ I1 q1) fun u s2 ⟨x, H2, I2, rx, a, ov, ex, g, q2⟩ => ?_
  subst ex
  obtain rfl : u = Value.ref a := rx
  exact d_notIn hu I2 g ry fun s3 I3 => ⟨.bl (!ov.isSome), H2, I3, rfl, q2⟩
theorem ps_dput (hu : X.A.units + 1 < cLine) (ho : PE X o td) (hi : PE X i ty) (hv : PE X value tv) (hs : swapsWith value (some (.Subscript o i pos')) pos.line X.env = pure false) :
    PS X (.Assign [.Subscript o i pos'] value pos) (sDPut td ty tv) := by
  intro pins s σ H D I h
  refine wpAny_Assign_Subscript (thn (hv pins s σ H _ I h) fun r s1 ⟨v, H1, I1, rv, q1⟩ => thn (ho pins s1 σ H1 _ I1 q1) fun u s2 ⟨x, H2, I2, rx, q2⟩ => thn (hi pins s2 σ H2 _ I2 q2) fun iv s3 ⟨y, H3, I3, ry, a, H4, ex, g, q3⟩ => ?_) hs
  subst ex
  obtain rfl : u = Value.ref a := rx
  exact d_setItem hu I3 g ry rv fun s4 I4 => ⟨σ, H4, I4, q3⟩
theorem ps_daug {op : Operator} {rd : V → V → Hp → VK → Prop} (hu : X.A.units + 1 < cLine) (ho : PE X o td) (hi : PE X i ty) (hv : PE X value tv) (hop : InOp X op rd)
    (ha : ∀ ov iv new, augStore i ov iv new = (do holding [new, ov, iv] (setItem ov iv new); release [new, ov, iv] []; pure .next)) : PS X (.AugAssign (.Subscript o i tpos) op value pos) (sDAug td ty tv rd) := by
  intro pins s σ H D I h
  refine wpAny_AugAssign_SubscriptAny (thn (ho pins s σ H _ I h) fun u s1 ⟨x, H1, I1, rx, q1⟩ => thn (hi pins s1 σ H1 _ I1 q1) fun iv s2 ⟨y, H2, I2, ry, a, v, ex, g, q2⟩ => ?_) ha
  subst ex
  obtain rfl : u = Value.ref a := rx
  refine d_getItem hu I2 g ry fun w' s3 I3 rw' => thn (hv pins s3 σ H2 _ I3 q2) fun w2 s4 ⟨y2, H3, I4, ry2, q3⟩ => thn (hop pins s4 σ H3 v y2 w' w2 _ I4 rw' ry2 q3) fun w3 s5 ⟨z, H4, I5, rz, H5, g5, q4⟩ => ?_
  exact d_setItem hu I5 g5 ry rz fun s6 I6 => ⟨σ, H5, I6, q4⟩
theorem ps_ddel (ho : PE X o td) (hi : PE X i ty) : PS X (.Delete [.Subscript o i tpos] pos) (sDDel td ty) := by
  intro pins s σ H D I h
  refine wpAny_Delete (wpAny_deleteEach_cons (wpAny_delete_Subscript (thn (ho pins s σ H _ I h) fun u s1 ⟨x, H1, I1, rx, q1⟩ => thn (hi pins s1 σ H1 _ I1 q1) fun iv s2 ⟨y, H2, I2, ry, a, kvs, k, ex, e, ey, l, q2⟩ => ?_)))
  subst ex ey
  obtain rfl : u = Value.ref a := rx
  exact d_delItem I2 e ry l fun s3 I3 => wpAny_deleteEach_nil ⟨σ, _, I3, q2⟩
end


/-! ### displays -/
theorem dk_empty {P : Program} {w : World} {H : Hp} (h : Heap) (hb : sysModules < h.objs.size) : ObjOk P w H (h.push { cls := .type "dict", data := .dict #[] }) h.objs.size (.dK []) :=
  ⟨Nat.zero_le _, beq_eq_false_iff_ne.mpr (Ne.symm (Nat.ne_of_lt hb)), [], .nil, Heap.DictOf.new h⟩
theorem dt_empty {P : Program} {w : World} {H : Hp} (h : Heap) (hb : sysModules < h.objs.size) : ObjOk P w H (h.push { cls := .type "dict", data := .dict #[] }) h.objs.size (.dT []) :=
  ⟨Nat.zero_le _, beq_eq_false_iff_ne.mpr (Ne.symm (Nat.ne_of_lt hb)), [], .nil, _, #[], 0, Heap.get?_push_size _ rfl, ⟨rfl, rfl, rfl⟩, rfl, rfl, List.nodup_nil⟩
/-- {}, to be a dict of the kind that is wanted -/
def tDNewK : TE := fun _ H Q => ∀ p, H p = none → Q (.ref p) (upd H p (.dK []))
def tDNewT : TE := fun _ H Q => ∀ p, H p = none → Q (.ref p) (upd H p (.dT []))
section
variable {X : Cx} {pos : Pos}
theorem pe_dnewK : PE X (.Dict [] [] pos) tDNewK := fun pins s σ H Q I h =>
  wpAny_Dict_empty ⟨.ref s.heap.objs.size, _, I.laid (a := s.heap.objs.size) (o := .dK []) (t' := s.toks) (fun _ _ q => Heap.get?_push_of_some _ q) (Nat.le_refl _) (dk_empty s.heap I.big), rfl, h _ (I.hok.fresh (Nat.le_refl _))⟩
theorem pe_dnewT : PE X (.Dict [] [] pos) tDNewT := fun pins s σ H Q I h =>
  wpAny_Dict_empty ⟨.ref s.heap.objs.size, _, I.laid (a := s.heap.objs.size) (o := .dT []) (t' := s.toks) (fun _ _ q => Heap.get?_push_of_some _ q) (Nat.le_refl _) (dt_empty s.heap I.big), rfl, h _ (I.hok.fresh (Nat.le_refl _))⟩
end

/-- the pairs of a display, from the left -/
def tPairs : List (TE × TE) → St → Hp → (List (V × V) → Hp → Prop) → Prop
  | [], _, H, Q => Q [] H
  | (tk, tv) :: r, σ, H, Q => tk σ H fun x H1 => tv σ H1 fun y H2 => tPairs r σ H2 fun ps H3 => Q ((x, y) :: ps) H3
abbrev VV : List (V × V) → List (Value × Value) → Prop := Paired fun p q => RelV p.1 q.1 ∧ RelV p.2 q.2
def PPs (X : Cx) (pos : Pos) (keys : List (Option Expr)) (values : List Expr) (trs : List (TE × TE)) : Prop :=
  ∀ (pins : List (Addr × Obj)) (s : Shared) (σ : St) (H : Hp) (Q : List (V × V) → Hp → Prop), Inv X pins σ H s → tPairs trs σ H Q →
    wpAny (model X.prog X.w) X.A (evalPairs (pairTrees keys values X.env pos)) (fun vs s' => ∃ ps H', Inv X pins σ H' s' ∧ VV ps vs ∧ Q ps H') X.xe s
theorem pps_nil {X : Cx} {pos : Pos} : PPs X pos [] [] [] := fun pins s σ H Q I h => pairTrees_nil_walk ⟨[], H, I, .nil, h⟩
theorem pps_cons {X : Cx} {pos : Pos} {k v : Expr} {ks : List (Option Expr)} {vs : List Expr} {tk tv : TE} {trs : List (TE × TE)} (hk : PE X k tk) (hv : PE X v tv) (hr : PPs X pos ks vs trs) :
    PPs X pos (some k :: ks) (v :: vs) ((tk, tv) :: trs) := fun pins s σ H Q I h =>
  pairTrees_cons_walk (thn (hk pins s σ H _ I h) fun u s1 ⟨x, H1, I1, rx, q1⟩ => thn (hv pins s1 σ H1 _ I1 q1) fun w2 s2 ⟨y, H2, I2, ry, q2⟩ =>
    thn (hr pins s2 σ H2 _ I2 q2) fun ws s3 ⟨ps, H3, I3, rel, q3⟩ => ⟨(x, y) :: ps, H3, I3, .cons ⟨rx, ry⟩ rel, q3⟩)

def mergeK (kvs more : List (Key × V)) : List (Key × V) := more.foldl (fun acc kv => putK acc kv.1 kv.2) kvs
theorem KV.merge : ∀ {more : List (Key × V)} {rs : List (Key × Value)} {kvs : List (Key × V)} {vs : List (Key × Value)}, KV more rs → KV kvs vs → KV (mergeK kvs more) (merged vs rs) := by
  intro more rs kvs vs r
  unfold KV at r
  induction r generalizing kvs vs with
  | nil => intro q; exact q
  | @cons p q ps qs h t ih =>
    intro r0
    have e : KV (putK kvs p.1 p.2) (stored vs q.1 q.2) := by
      have := r0.put p.1 h.2
      rw [← h.1]; exact this
    exact ih e
theorem length_mergeK : ∀ (more kvs : List (Key × V)), (mergeK kvs more).length ≤ kvs.length + more.length
  | [], kvs => by show kvs.length ≤ kvs.length + 0; omega
  | p :: r, kvs => by
    have h1 := length_mergeK r (putK kvs p.1 p.2)
    have h2 := length_putK kvs p.1 p.2
    show (mergeK (putK kvs p.1 p.2) r).length ≤ _
    rw [List.length_cons]; omega
theorem carries_of {P : Program} {w : World} : ∀ {kvs : List (Key × V)} {ws : List (Value × Value)}, VV (kvs.map fun kv => (kV kv.1, kv.2)) ws → ∃ rs, Carries (mixKind P w) ws rs ∧ KV kvs rs
  | [], _, r => by rw [List.map_nil] at r; cases r; exact ⟨[], True.intro, .nil⟩
  | p :: kvs, _, r => by
    rw [List.map_cons] at r
    cases r with
    | @cons a b as bs h t =>
      obtain ⟨rs, c, q⟩ := carries_of (P := P) (w := w) t
      obtain ⟨b1, b2⟩ := b
      exact ⟨(p.1, b2) :: rs, ⟨kV_is h.1, rfl, c⟩, .cons ⟨rfl, h.2⟩ q⟩
/-- {k: v, ..} with keys ints and texts; the new dict stands empty while the pairs are made -/
def tDisp (trs : List (TE × TE)) : TE := fun σ H Q => ∀ p, H p = none → tPairs trs σ (upd H p (.dK [])) fun ps H2 => H2 p = some (.dK []) ∧ ∃ kvs : List (Key × V), ps = kvs.map (fun kv => (kV kv.1, kv.2)) ∧ kvs.length ≤ 15 ∧ Q (.ref p) (upd H2 p (.dK (mergeK [] kvs)))
theorem pe_disp {X : Cx} {pos : Pos} {keys : List (Option Expr)} {values : List Expr} {trs : List (TE × TE)} (h : PPs X pos keys values trs) (hall : keys.all (·.isSome) = true) (hl : keys.length = values.length) (h0 : keys ≠ [])
    (h15 : keys.length ≤ 15) : PE X (.Dict keys values pos) (tDisp trs) := by
  intro pins s σ H Q I q
  have hn := I.hok.fresh (Nat.le_refl s.heap.objs.size)
  have I1 := I.laid (a := s.heap.objs.size) (o := .dK []) (h' := s.heap.push { cls := .type "dict", data := .dict #[] }) (t' := s.toks) (fun _ _ q => Heap.get?_push_of_some _ q) (Nat.le_refl _) (dk_empty s.heap I.big)
  refine wpAny_Dict_walk (knd := mixKind X.prog X.w) hall hl h0 h15 (thn (h pins _ σ _ _ I1 (q _ hn)) fun ws s2 ⟨ps, H2, I2, rel, e, kvs, ep, lk, q2⟩ => ?_)
  subst ep
  obtain ⟨rs, c, rk⟩ := carries_of (P := X.prog) (w := X.w) rel
  obtain ⟨z, hd, vs0, r0, dd⟩ := dk_of I2.hok e
  cases r0
  refine ⟨rs, c, dd, fun h' dd' hs => ⟨.ref s.heap.objs.size, _, ?_, rfl, q2⟩⟩
  have hz : (mergeK [] kvs).length ≤ sizeLine := by
    have h1 := length_mergeK kvs []
    rw [List.length_nil] at h1
    rw [sizeLine_eq]; omega
  have he : ∃ q, h'.get? s.heap.objs.size = some q := let ⟨q, _, _, hq, _⟩ := dd'; ⟨q, hq⟩
  exact d_write I2 (by rw [e]; exact True.intro) hs he (dk_new hz hd (rk.merge .nil) dd')


/-! ### methods -/
/-- a method call o.m(e) of a built-in, with one argument: what must be seen of the text -/
structure M1 (X : Cx) (o : Expr) (m : Str) (apos : Pos) (e : Expr) (cpos : Pos) : Prop where
  base : attributeBase o m X.env (eval o X.env) = eval o X.env
  few : ((backTo cpos (starEach [e] X.env)).all (fun x => !x.1) && (backToKw cpos (keywordEach [] X.env)).all (fun x => x.1.isSome)
    && decide (([e] : List Expr).length + ([] : List Keyword).length + (if ([] : List Keyword).isEmpty then 0 else 1) < 30)) = true
  line : (apos.endLine == cpos.line) = true
  trees : backTo cpos (starEach [e] X.env) = [(false, eval e X.env)]
structure M2 (X : Cx) (o : Expr) (m : Str) (apos : Pos) (e f : Expr) (cpos : Pos) : Prop where
  base : attributeBase o m X.env (eval o X.env) = eval o X.env
  few : ((backTo cpos (starEach [e, f] X.env)).all (fun x => !x.1) && (backToKw cpos (keywordEach [] X.env)).all (fun x => x.1.isSome)
    && decide (([e, f] : List Expr).length + ([] : List Keyword).length + (if ([] : List Keyword).isEmpty then 0 else 1) < 30)) = true
  line : (apos.endLine == cpos.line) = true
  trees : backTo cpos (starEach [e, f] X.env) = [(false, eval e X.env), (false, eval f X.env)]

/-- a is a dict, whatever its keys -/
def IsD (H : Hp) (a : Addr) : Prop := (∃ kvs, Rd H a (.dK kvs)) ∨ ∃ kvs, Rd H a (.dT kvs)
theorem isD_at {X : Cx} {pins : List (Addr × Obj)} {σ : St} {H : Hp} {s : Shared} {a : Addr} (I : Inv X pins σ H s) (d : IsD H a) :
    s.TypeIs (.ref a) "dict" ∧ (∀ b, Value.ref a = .ref b → ∃ ob, s.heap.get? b = some ob ∧ ob.dict = none) ∧ (a == sysModules) = false := by
  rcases d with ⟨kvs, e⟩ | ⟨kvs, e⟩
  · obtain ⟨_, hd, vs, _, dd⟩ := dk_rd I.hok e
    refine ⟨dd.typeIs, fun b q => ?_, hd⟩
    cases q
    obtain ⟨ob, _, _, h1, h2, _⟩ := dd
    exact ⟨ob, h1, h2.2.1⟩
  · obtain ⟨_, hd, xs, _, dd⟩ := dt_rd I.hok e
    refine ⟨dd.typeIs, fun b q => ?_, hd⟩
    cases q
    obtain ⟨ob, _, _, h1, h2, _⟩ := dd
    exact ⟨ob, h1, h2.2.1⟩

section
variable {X : Cx} {pins : List (Addr × Obj)} {σ : St} {H : Hp} {s : Shared} {a : Addr} {y d : V} {u r : Value} {o : Option V} {A : Around} {E : Value → Shared → Prop}
/-- d.get(y) -/
theorem d_get1 {Q : Value → Shared → Prop} (hu : A.units + 1 < cLine) (I : Inv X pins σ H s) (g : DGet H a y o) (ry : RelV y u) (h : ∀ w' s', Inv X pins σ H s' → RelV (o.getD .non) w' → Q w' s') :
    wpAny (model X.prog X.w) A (call (.builtin "dict.get") [.ref a, u]) Q E s := by
  rcases g with ⟨kvs, k, e, ey, l⟩ | ⟨kvs, k, b, e, ey, eb, l⟩
  · subst ey
    obtain ⟨z, hd, vs, rel, dd⟩ := dk_rd I.hok e
    refine call_meetsIn PySem.F.slot_dict_get dd.typeIs PySem.F.entry_dict_get (PySem.F.args_dict_get_2 _ _) (meets_dict_get (mixKind X.prog X.w) a (kV_is ry) hd) ⟨_, dd.mapOf, h _ _ (I.tok _) ?_⟩
    rw [l]
    exact (rel.val k).getD rfl
  · subst ey
    cases (show u = Value.ref b from ry)
    obtain ⟨z, hd, xs, rel, dd⟩ := dt_rd I.hok e
    refine call_meetsIn PySem.F.slot_dict_get dd.typeIs PySem.F.entry_dict_get (PySem.F.args_dict_get_2 _ _) (meetsH_dict_get (tupleKind (mixKind X.prog X.w)) a b hd) ⟨tupleKind_room_in1 hu, k, xs, key_of I.hok eb, dd, h _ _ (I.tok _) ?_⟩
    rw [l]
    exact (rel.val k).getD rfl
/-- d.get(y, x) -/
theorem d_get2 {Q : Value → Shared → Prop} (hu : A.units + 1 < cLine) (I : Inv X pins σ H s) (g : DGet H a y o) (ry : RelV y u) (rd : RelV d r) (h : ∀ w' s', Inv X pins σ H s' → RelV (o.getD d) w' → Q w' s') :
    wpAny (model X.prog X.w) A (call (.builtin "dict.get") [.ref a, u, r]) Q E s := by
  rcases g with ⟨kvs, k, e, ey, l⟩ | ⟨kvs, k, b, e, ey, eb, l⟩
  · subst ey
    obtain ⟨z, hd, vs, rel, dd⟩ := dk_rd I.hok e
    refine call_meetsIn PySem.F.slot_dict_get dd.typeIs PySem.F.entry_dict_get (PySem.F.args_dict_get_3 _ _ _) (meets_dict_get_default (mixKind X.prog X.w) a (kV_is ry) hd r) ⟨_, dd.mapOf, h _ _ (I.tok _) ?_⟩
    rw [l]
    exact (rel.val k).getD rd
  · subst ey
    cases (show u = Value.ref b from ry)
    obtain ⟨z, hd, xs, rel, dd⟩ := dt_rd I.hok e
    refine call_meetsIn PySem.F.slot_dict_get dd.typeIs PySem.F.entry_dict_get (PySem.F.args_dict_get_3 _ _ _) (meetsH_dict_get_default (tupleKind (mixKind X.prog X.w)) a b hd r) ⟨tupleKind_room_in1 hu, k, xs, key_of I.hok eb, dd, h _ _ (I.tok _) ?_⟩
    rw [l]
    exact (rel.val k).getD rd
end

def tDGet1 (td ty : TE) : TE := fun σ H Q => td σ H fun x H1 => ∃ a, x = .ref a ∧ IsD H1 a ∧ ty σ H1 fun y H2 => ∃ o, DGet H2 a y o ∧ Q (o.getD .non) H2
def tDGet2 (td ty tx : TE) : TE := fun σ H Q => td σ H fun x H1 => ∃ a, x = .ref a ∧ IsD H1 a ∧ ty σ H1 fun y H2 => tx σ H2 fun z H3 => ∃ o, DGet H3 a y o ∧ Q (o.getD z) H3
/-- d.pop(k): there; d.pop(k, x): there or not -/
def tDPop1 (td ty : TE) : TE := fun σ H Q => td σ H fun x H1 => ∃ a, x = .ref a ∧ IsD H1 a ∧ ty σ H1 fun y H2 => ∃ kvs k v, H2 a = some (.dK kvs) ∧ y = kV k ∧ valV kvs k = some v ∧ Q v (upd H2 a (.dK (dropK kvs k)))
def tDPop2 (td ty tx : TE) : TE := fun σ H Q => td σ H fun x H1 => ∃ a, x = .ref a ∧ IsD H1 a ∧ ty σ H1 fun y H2 => tx σ H2 fun z H3 => ∃ kvs k, H3 a = some (.dK kvs) ∧ y = kV k ∧
  (∀ v, valV kvs k = some v → Q v (upd H3 a (.dK (dropK kvs k)))) ∧ (valV kvs k = none → Q z H3)
section
variable {X : Cx} {o e f : Expr} {apos cpos : Pos} {td ty tx : TE}
theorem pe_dget1 (hu : X.A.units + 1 < cLine) (ho : PE X o td) (he : PE X e ty) (m : M1 X o "get" apos e cpos) : PE X (.Call (.Attribute o "get" apos) [e] [] cpos) (tDGet1 td ty) := by
  intro pins s σ H Q I h
  refine wpAny_Call_method m.base m.few m.line PySem.F.plainAttrs_dict PySem.F.slot_dict_get PySem.F.type_dict_get (thn (ho pins s σ H _ I h) fun u s1 ⟨x, H1, I1, rx, a, ex, d, q1⟩ => ?_)
  subst ex
  obtain rfl : u = Value.ref a := rx
  obtain ⟨t1, t2, _⟩ := isD_at I1 d
  refine ⟨t1, t2, ?_⟩
  rw [m.trees]
  refine Calls.callWith_builtin rfl (Calls.evalArgs_plain (Calls.spliced_cons (thn (he pins s1 σ H1 _ I1 q1) fun iv s2 ⟨y, H2, I2, ry, ov, g, q2⟩ => Calls.spliced_nil ?_)))
  exact d_get1 hu I2 g ry fun w' s3 I3 rw' => ⟨_, H2, I3, rw', q2⟩
theorem pe_dget2 (hu : X.A.units + 1 < cLine) (ho : PE X o td) (he : PE X e ty) (hf : PE X f tx) (m : M2 X o "get" apos e f cpos) : PE X (.Call (.Attribute o "get" apos) [e, f] [] cpos) (tDGet2 td ty tx) := by
  intro pins s σ H Q I h
  refine wpAny_Call_method m.base m.few m.line PySem.F.plainAttrs_dict PySem.F.slot_dict_get PySem.F.type_dict_get (thn (ho pins s σ H _ I h) fun u s1 ⟨x, H1, I1, rx, a, ex, d, q1⟩ => ?_)
  subst ex
  obtain rfl : u = Value.ref a := rx
  obtain ⟨t1, t2, _⟩ := isD_at I1 d
  refine ⟨t1, t2, ?_⟩
  rw [m.trees]
  refine Calls.callWith_builtin rfl (Calls.evalArgs_plain (Calls.spliced_cons (thn (he pins s1 σ H1 _ I1 q1) fun iv s2 ⟨y, H2, I2, ry, q2⟩ =>
    Calls.spliced_cons (thn (hf pins s2 σ H2 _ I2 q2) fun fv s3 ⟨z, H3, I3, rz, ov, g, q3⟩ => Calls.spliced_nil ?_))))
  exact d_get2 hu I3 g ry rz fun w' s4 I4 rw' => ⟨_, H3, I4, rw', q3⟩
theorem pe_dpop1 (ho : PE X o td) (he : PE X e ty) (m : M1 X o "pop" apos e cpos) : PE X (.Call (.Attribute o "pop" apos) [e] [] cpos) (tDPop1 td ty) := by
  intro pins s σ H Q I h
  refine wpAny_Call_method m.base m.few m.line PySem.F.plainAttrs_dict PySem.F.slot_dict_pop PySem.F.type_dict_pop (thn (ho pins s σ H _ I h) fun u s1 ⟨x, H1, I1, rx, a, ex, d, q1⟩ => ?_)
  subst ex
  obtain rfl : u = Value.ref a := rx
  obtain ⟨t1, t2, _⟩ := isD_at I1 d
  refine ⟨t1, t2, ?_⟩
  rw [m.trees]
  refine Calls.callWith_builtin rfl (Calls.evalArgs_plain (Calls.spliced_cons (thn (he pins s1 σ H1 _ I1 q1) fun iv s2 ⟨y, H2, I2, ry, kvs, k, v, ea, ey, l, q2⟩ => Calls.spliced_nil ?_)))
  subst ey
  exact d_pop I2 ea ry l (.inl rfl) fun w' s3 I3 rw' => ⟨v, _, I3, rw', q2⟩
theorem pe_dpop2 (ho : PE X o td) (he : PE X e ty) (hf : PE X f tx) (m : M2 X o "pop" apos e f cpos) : PE X (.Call (.Attribute o "pop" apos) [e, f] [] cpos) (tDPop2 td ty tx) := by
  intro pins s σ H Q I h
  refine wpAny_Call_method m.base m.few m.line PySem.F.plainAttrs_dict PySem.F.slot_dict_pop PySem.F.type_dict_pop (thn (ho pins s σ H _ I h) fun u s1 ⟨x, H1, I1, rx, a, ex, d, q1⟩ => ?_)
  subst ex
  obtain rfl : u = Value.ref a := rx
  obtain ⟨t1, t2, _⟩ := isD_at I1 d
  refine ⟨t1, t2, ?_⟩
  rw [m.trees]
  refine Calls.callWith_builtin rfl (Calls.evalArgs_plain (Calls.spliced_cons (thn (he pins s1 σ H1 _ I1 q1) fun iv s2 ⟨y, H2, I2, ry, q2⟩ =>
    Calls.spliced_cons (thn (hf pins s2 σ H2 _ I2 q2) fun fv s3 ⟨z, H3, I3, rz, kvs, k, ea, ey, q3, q4⟩ => Calls.spliced_nil ?_))))
  subst ey
  cases l : valV kvs k with
  | some v => exact d_pop I3 ea ry l (.inr ⟨fv, rfl⟩) fun w' s4 I4 rw' => ⟨v, _, I4, rw', q3 v l⟩
  | none => exact d_popD I3 ea ry l fun s4 I4 => ⟨z, H3, I4, rz, q4 l⟩
end

/-! ### dict(d): a copy -/
section
variable {X : Cx} {pins : List (Addr × Obj)} {σ : St} {H : Hp} {s : Shared} {a : Addr} {kvs : List (Key × V)} {A : Around} {E : Value → Shared → Prop}
theorem d_copyOf {Q : Value → Shared → Prop} (I : Inv X pins σ H s) (e : Rd H a (.dK kvs)) (h : ∀ p s', H p = none → Inv X pins σ (upd H p (.dK kvs)) s' → Q (.ref p) s') : wpAny (model X.prog X.w) A (call (.type "dict") [.ref a]) Q E s := by
  obtain ⟨z, hd, vs, rel, dd⟩ := dk_rd I.hok e
  refine kt_call_dict hd dd (by rw [← rel.length]; exact z) fun h' dd' hs => ?_
  refine h _ _ (I.hok.fresh (Nat.le_refl _)) (I.laid (a := s.heap.objs.size) (o := .dK kvs) (t' := s.toks) (fun b q hq => ?_) (Nat.le_refl _) (dk_new z (beq_eq_false_iff_ne.mpr (Ne.symm (Nat.ne_of_lt I.big))) rel dd'))
  exact (hs.2 b (Nat.ne_of_lt (Heap.lt_size hq))).trans (Heap.get?_push_of_some _ hq)
end


section
variable {X : Cx} {pins : List (Addr × Obj)} {σ : St} {H : Hp} {s : Shared} {a : Addr} {y : V} {u : Value} {A : Around} {E : Value → Shared → Prop}
/-- d[y], not there: a KeyError -/
theorem d_missing {Q : Value → Shared → Prop} (hu : A.units + 1 < cLine) (hh : A.handled = none) (I : Inv X pins σ H s) (g : DGet H a y none) (ry : RelV y u)
    (h : ∀ h' e t', Heap.NewExc s.heap h' e "KeyError" → E (.ref e) { s with heap := h', toks := t' }) : wpAny (model X.prog X.w) A (getItem (.ref a) u) Q E s := by
  rcases g with ⟨kvs, k, e, ey, l⟩ | ⟨kvs, k, b, e, ey, eb, l⟩
  · subst ey
    obtain ⟨z, hd, vs, rel, dd⟩ := dk_rd I.hok e
    have hn : valueAt vs k = none := RelO.none_of (by rw [l]; exact rel.val k)
    exact wpAny_getItem_missing_of (kV_is ry) hd hh dd.mapOf hn fun h' ex ne => h h' ex _ ne
  · subst ey
    cases (show u = Value.ref b from ry)
    obtain ⟨z, hd, xs, rel, dd⟩ := dt_rd I.hok e
    have hn : (atKey xs k).map (·.2) = none := RelO.none_of (by rw [l]; exact rel.val k)
    exact wpAny_getItem_missing_heap (tupleKind_room_in1 hu) (key_of I.hok eb) hd hh dd (Option.map_eq_none_iff.mp hn) fun h' ex ne => h h' ex _ ne
end
end L2
namespace L2
open PySem PySem.Spec PyProof.Rows
/-! ### a dict's pairs: keys that differ -/
section
variable {κ : Type} [DecidableEq κ]
theorem valV_not {kvs : List (κ × V)} {k : κ} (h : valV kvs k = none) : ¬ k ∈ kvs.map (·.1) := by
  intro m
  obtain ⟨p, hp, e⟩ := List.mem_map.mp m
  have q : (kvs.any fun kv => decide (kv.1 = k)) = true := List.any_eq_true.mpr ⟨p, hp, decide_eq_true e⟩
  rw [valV_any, h] at q
  exact absurd q (by simp)
theorem valV_in {kvs : List (κ × V)} {k : κ} {v : V} (h : valV kvs k = some v) : k ∈ kvs.map (·.1) := by
  have q : (kvs.any fun kv => decide (kv.1 = k)) = true := by
    rw [valV_any, h]
    all_goals rfl
  obtain ⟨p, hp, e⟩ := List.any_eq_true.mp q
  exact List.mem_map.mpr ⟨p, hp, of_decide_eq_true e⟩
theorem nd_snoc : ∀ {l : List κ} {k : κ}, l.Nodup → ¬ k ∈ l → (l ++ [k]).Nodup
  | [], k, _, _ => by simp
  | a :: r, k, h, hk => by
    obtain ⟨h1, h2⟩ := List.nodup_cons.mp h
    show (a :: (r ++ [k])).Nodup
    refine List.nodup_cons.mpr ⟨fun m => ?_, nd_snoc h2 fun m => hk (List.mem_cons.mpr (Or.inr m))⟩
    rcases List.mem_append.mp m with q | q
    · exact h1 q
    · exact hk (List.mem_cons.mpr (Or.inl (List.mem_singleton.mp q).symm))
theorem nd_putK {kvs : List (κ × V)} {k : κ} (v : V) (hn : (kvs.map (·.1)).Nodup) (h : valV kvs k = none) : ((putK kvs k v).map (·.1)).Nodup := by
  rw [putK_new v h, List.map_append]
  exact nd_snoc hn (valV_not h)
theorem dropK_pos {p : κ × V} {r : List (κ × V)} {k : κ} (e : p.1 = k) : dropK (p :: r) k = dropK r k := by
  unfold dropK
  rw [List.filter_cons, if_neg (by simp [e])]
theorem dropK_neg {p : κ × V} {r : List (κ × V)} {k : κ} (e : ¬ p.1 = k) : dropK (p :: r) k = p :: dropK r k := by
  unfold dropK
  rw [List.filter_cons, if_pos (by simp [e])]
theorem dropK_no : ∀ {kvs : List (κ × V)} {k : κ}, ¬ k ∈ kvs.map (·.1) → dropK kvs k = kvs
  | [], _, _ => rfl
  | p :: r, k, h => by
    have h' : ¬ k ∈ r.map (·.1) := fun m => by
      obtain ⟨q, hq, e⟩ := List.mem_map.mp m
      exact h (List.mem_map.mpr ⟨q, List.mem_cons.mpr (Or.inr hq), e⟩)
    rw [dropK_neg fun e => h (List.mem_map.mpr ⟨p, List.mem_cons.mpr (Or.inl rfl), e⟩), dropK_no h']
theorem dropK_mem {kvs : List (κ × V)} {k : κ} {p : κ × V} (h : p ∈ dropK kvs k) : p ∈ kvs := (List.mem_filter.mp h).1
theorem nd_dropK : ∀ {kvs : List (κ × V)} {k : κ}, (kvs.map (·.1)).Nodup → ((dropK kvs k).map (·.1)).Nodup
  | [], _, _ => List.nodup_nil
  | p :: r, k, h => by
    have h : (p.1 :: r.map (·.1)).Nodup := h
    obtain ⟨h1, h2⟩ := List.nodup_cons.mp h
    by_cases e : p.1 = k
    · rw [dropK_pos e]
      exact nd_dropK h2
    · rw [dropK_neg e]
      show (p.1 :: (dropK r k).map (·.1)).Nodup
      refine List.nodup_cons.mpr ⟨fun m => h1 ?_, nd_dropK h2⟩
      obtain ⟨q, hq, eq⟩ := List.mem_map.mp m
      exact List.mem_map.mpr ⟨q, dropK_mem hq, eq⟩
theorem dropK_len : ∀ {kvs : List (κ × V)} {k : κ}, (kvs.map (·.1)).Nodup → k ∈ kvs.map (·.1) → (dropK kvs k).length + 1 = kvs.length
  | [], _, _, m => by simp at m
  | p :: r, k, h, m => by
    have h : (p.1 :: r.map (·.1)).Nodup := h
    have m : k = p.1 ∨ k ∈ r.map (·.1) := List.mem_cons.mp m
    obtain ⟨h1, h2⟩ := List.nodup_cons.mp h
    by_cases e : p.1 = k
    · subst e
      rw [dropK_pos rfl, dropK_no h1]
      all_goals rfl
    · have m' : k ∈ r.map (·.1) := m.resolve_left fun z => e z.symm
      have q := dropK_len h2 m'
      rw [dropK_neg e, List.length_cons, List.length_cons]
      omega
end
end L2

set_option Elab.async false
set_option linter.all false
set_option maxRecDepth 100000
/-! TEXTS over the hand layer: text * int, <=, a walk over a text, sorted of a dict of texts -/
namespace L2
open PySem PySem.Spec PyProof.Rows
section
variable {X : Cx}
theorem op_mul_str : OpR X (binaryOp .Mult) (fun x y H Q => ∃ i n, x = .str i ∧ y = .int n ∧ i.length ≤ 1000 ∧ 0 ≤ n ∧ n ≤ 1000 ∧ Q (.str (Txt.mul i n)) H) := by
  intro pins s σ H x y v u Q I rx ry h
  obtain ⟨i, n, rfl, rfl, h1, h2, h3, q⟩ := h
  obtain ⟨t, rfl⟩ := rx
  obtain ⟨t', rfl⟩ := ry
  exact SB.mul (PyProof.Rows.mulOk_of 1000 1000 h1 (by omega) (by omega) (by decide) (by decide)) fun t2 k => ⟨.str _, H, I.tok k, ⟨t2, rfl⟩, q⟩
theorem op_le_str : OpR X (compareOp .LtE) (fun x y H Q => ∃ i j, x = .str i ∧ y = .str j ∧ Q (.bl (!decide (j.cps.toList < i.cps.toList))) H) := by
  intro pins s σ H x y v u Q I rx ry h
  obtain ⟨i, j, rfl, rfl, q⟩ := h
  obtain ⟨t, rfl⟩ := rx
  obtain ⟨t', rfl⟩ := ry
  exact PySem.P.le_str ⟨.bl _, H, I, rfl, q⟩

end
end L2

set_option Elab.async false
set_option linter.all false
set_option maxRecDepth 100000
namespace L2
open PySem PySem.Spec PyProof.Rows
/-! ### dict(pairs) -/
theorem miss_keys_list : typeLookup (.type "list") "keys" = pure none := by rw [typeLookup_type, builtinLookup_eq_fast]; kernel_rfl
theorem miss_keys_tuple : typeLookup (.type "tuple") "keys" = pure none := by rw [typeLookup_type, builtinLookup_eq_fast]; kernel_rfl
theorem entry_dict_update_loop : entryFor table "dict.update.loop" = some Builtin.«dict.update.loop» := entryFor_of_tree (by kernel_rfl)
theorem plain_dict_update_loop : plainId "dict.update.loop" = true := by decide +kernel
section
variable {prog : Program} {w : World} {A : Around} {E : Value → Shared → Prop} {s : Shared}
theorem nokeys_list {a : Addr} {o : Obj} {xs : Array Value} {k : Nat} {Q : Option Value → Shared → Prop} (hx : s.heap.get? a = some o) (hc : o.cls = .type "list") (hdat : o.data = .seq xs k) (hd : o.dict = none) (hA : A.handled = none)
    (h : ∀ h' tk, (∀ b ob, s.heap.get? b = some ob → h'.get? b = some ob) → Q none { s with heap := h', toks := tk }) : wpAny (model prog w) A (getAttr? (.ref a) "keys") Q E s := by
  obtain ⟨c, dct, dat, sl⟩ := o
  simp only at hc hdat hd
  subst hc hdat hd
  obtain ⟨hp, g, d, tk, os⟩ := s
  have hT : ∀ tk', (⟨hp, g, d, tk', os⟩ : Shared).TypeIs (.ref a) "list" := fun _ => ⟨_, hx, rfl⟩
  have f1 := sub_AttributeError
  have f3 := PySem.F.slot_list_getattribute.lookup
  have f4 := PySem.F.slot_list_getattribute.bind (.ref a)
  have f5 := am_list_getattr_none
  unfold getAttr? getAttrBy? getAttrBy
  repeat (any_goals (first | assumption | exact hT _ | ((with_reducible show wpAny _ _ (call (Value.builtin "list.__getattribute__") _ _) _ _ _); refine call_meets PySem.F.slot_list_getattribute (hT _) am_entry_list_getattribute (PySem.F.args_list_getattribute_2 _ _) (meets_getattribute_miss_list a xs k sl "keys" _ miss_keys_list (by decide +kernel) (by size_fits)) ⟨hx, hA, fun h' tk' e hx' => ?_⟩) | wp_step))
  obtain ⟨t', u', he⟩ := hx'.there
  show wpAny _ _ (getattributeRaised _ _ _ _ _ _ _) _ _ _
  unfold getattributeRaised
  repeat (any_goals (first | assumption | wp_step))
  exact h _ _ hx'.keeps
theorem nokeys_tuple {a : Addr} {o : Obj} {xs : Array Value} {k : Nat} {Q : Option Value → Shared → Prop} (hx : s.heap.get? a = some o) (hc : o.cls = .type "tuple") (hdat : o.data = .seq xs k) (hd : o.dict = none) (hA : A.handled = none)
    (h : ∀ h' tk, (∀ b ob, s.heap.get? b = some ob → h'.get? b = some ob) → Q none { s with heap := h', toks := tk }) : wpAny (model prog w) A (getAttr? (.ref a) "keys") Q E s := by
  obtain ⟨c, dct, dat, sl⟩ := o
  simp only at hc hdat hd
  subst hc hdat hd
  obtain ⟨hp, g, d, tk, os⟩ := s
  have hT : ∀ tk', (⟨hp, g, d, tk', os⟩ : Shared).TypeIs (.ref a) "tuple" := fun _ => ⟨_, hx, rfl⟩
  have f1 := sub_AttributeError
  have f3 := PySem.F.slot_tuple_getattribute.lookup
  have f4 := PySem.F.slot_tuple_getattribute.bind (.ref a)
  have f5 := am_tuple_getattr_none
  unfold getAttr? getAttrBy? getAttrBy
  repeat (any_goals (first | assumption | exact hT _ | ((with_reducible show wpAny _ _ (call (Value.builtin "tuple.__getattribute__") _ _) _ _ _); refine call_meets PySem.F.slot_tuple_getattribute (hT _) am_entry_tuple_getattribute (PySem.F.args_tuple_getattribute_2 _ _) (meets_getattribute_miss_tuple a xs k sl "keys" _ miss_keys_tuple (by decide +kernel) (by size_fits)) ⟨hx, hA, fun h' tk' e hx' => ?_⟩) | wp_step))
  obtain ⟨t', u', he⟩ := hx'.there
  show wpAny _ _ (getattributeRaised _ _ _ _ _ _ _) _ _ _
  unfold getattributeRaised
  repeat (any_goals (first | assumption | wp_step))
  exact h _ _ hx'.keeps
end
end L2

set_option Elab.async false
set_option linter.all false
set_option maxRecDepth 100000
/-! zip of two lists, walked by a pair of names -/
namespace L2
open PySem PySem.Spec PyProof.Rows
def Itz (K : PySem.W.Frag) (a b : Addr) : It :=
  ⟨fun i H => ∃ xs ys x y, SqL K H a xs ∧ SqL K H b ys ∧ xs[i]? = some x ∧ ys[i]? = some y,
   fun i H v H' => ∃ T x y, v = .ref T ∧ H T = none ∧ H' = upd H T (.tup [x, y]) ∧ ∀ xs ys, SqL K H a xs → SqL K H b ys → xs[i]? = some x ∧ ys[i]? = some y,
   fun i H => ∃ xs ys, SqL K H a xs ∧ SqL K H b ys ∧ (xs.length ≤ i ∨ ys.length ≤ i)⟩
def ZipSt (z TI TO i1 i2 a b : Addr) (i : Nat) (h : Heap) : Prop := IsZip h z TI TO .none ∧ IsPair h TI (.ref i1) (.ref i2) ∧ (∃ p q, IsPair h TO p q) ∧ h.IsListIter i1 a i ∧ h.IsListIter i2 b i
section
variable {X : Cx} {pins : List (Addr × Obj)} {σ : St} {H : Hp} {s : Shared}
/-- some of the iterator's own objects have turned, and a tuple is new -/
theorem Inv.turnedN {h' : Heap} {t' : Nat} {ch : List Addr} {N : Addr} {xs : List V} {us : List Value} (I : Inv X pins σ H s) (hf : ∀ b ∈ ch, FpOk X pins H b) (k : ∀ b o, b ∉ ch → s.heap.get? b = some o → h'.get? b = some o)
    (hN : s.heap.objs.size ≤ N) (hz : xs.length ≤ sizeLine) (r : Vals xs us) (hT : IsTup h' N us.toArray) : Inv X pins σ (upd H N (.tup xs)) { s with heap := h', toks := t' } := by
  have nch : ∀ b u, H b = some u → b ∉ ch := fun b u e z => by rw [(hf b z).1] at e; cases e
  have fr : H N = none := I.hok.fresh hN
  have ne : ∀ b o, s.heap.get? b = some o → b ≠ N := fun b o e z => by
    have := Heap.lt_size e
    rw [z] at this
    exact absurd this (Nat.not_lt.mpr hN)
  refine I.step (g' := s.gens) (d' := s.drawn) (ch := ch) (fun b hb => ?_) (fun b o _ _ hc e _ => k b o hc e) (fun b o _ _ hc e _ => ⟨o.slots, k b o hc e⟩) (fun b o _ e n => by rw [upd_ne (ne b o e)]; exact n)
    (fun b o hc e => ⟨o, k b o hc e⟩) (fun b ys e => by rw [upd_ne (ne_of_none e fr)]; exact e) (fun b o u e => by rw [upd_ne (ne_of_none e fr)]; exact e) (fun b ps e => ⟨#[], by rw [upd_ne (ne_of_none e fr), e]; simp⟩) (fun m hm => ?_) (fun b u e => ?_) I.bare
  · obtain ⟨f0, f1, f2, f3, f4, f5⟩ := hf b hb
    exact ⟨f3, f1, f4, f5⟩
  · obtain ⟨o, es, ep, ho, rr⟩ := hm
    exact ⟨o, es, ep, k _ o (fun z => (hf _ z).2.1 rfl) ho, rr⟩
  · by_cases hb : b = N
    · subst hb
      rw [upd_same] at e
      cases e
      exact ⟨hz, us, r, hT⟩
    · rw [upd_ne hb] at e
      refine (I.hok b u e).stay (fun c v hc q => k c v ?_ q) (fun c q => by rw [upd_ne (ne_of_none q fr)]; exact q) fun c ys q => by rw [upd_ne (ne_of_none q fr)]; exact q
      rcases hc with z | z
      · rw [z]; exact nch b u e
      · exact nch c _ z
end
theorem sub4 {z TI TO i1 i2 c : Addr} (hc : c ∈ [z, TO, i1, i2]) : c ∈ [z, TI, TO, i1, i2] := by
  simp only [List.mem_cons, List.not_mem_nil, or_false] at hc ⊢
  rcases hc with h | h | h | h
  · exact .inl h
  · exact .inr (.inr (.inl h))
  · exact .inr (.inr (.inr (.inl h)))
  · exact .inr (.inr (.inr (.inr h)))
theorem turn_zip {P : Program} {w : World} {K : PySem.W.Frag} {elts : List Expr} {x1 : Nat} {pos : Pos} (z TI TO i1 i2 a b : Addr) (D : ZipApart z TI TO i1 i2 a b) :
    Turn P w K (.Tuple elts x1 pos) (Itz K a b) [z, TI, TO, i1, i2] z (ZipSt z TI TO i1 i2 a b) where
  mem := by simp
  obj := fun i h st c hc => by
    obtain ⟨hz, hTI, ⟨p, q, hTO⟩, ⟨o1, e1, _, d1⟩, ⟨o2, e2, _, d2⟩⟩ := st
    simp only [List.mem_cons, List.not_mem_nil, or_false] at hc
    rcases hc with rfl | rfl | rfl | rfl | rfl
    · exact ⟨_, hz, fun v y => by cases y⟩
    · exact ⟨_, hTI, fun v y => by cases y⟩
    · exact ⟨_, hTO, fun v y => by cases y⟩
    · exact ⟨o1, e1, fun v y => by rw [d1] at y; cases y⟩
    · exact ⟨o2, e2, fun v y => by rw [d2] at y; cases y⟩
  keep := fun i h h' st k => by
    obtain ⟨hz, hTI, ⟨p, q, hTO⟩, h1, h2⟩ := st
    exact ⟨k z (by simp) _ hz, k TI (by simp) _ hTI, ⟨p, q, k TO (by simp) _ hTO⟩, h1.at fun o e => k i1 (by simp) o e, h2.at fun o e => k i2 (by simp) o e⟩
  item := by
    intro X hP hw hK hc i pins s σ H E I hf st hg
    subst hP hw hK
    obtain ⟨xs, ys, x, y, ha, hb, hx, hy⟩ := hg
    obtain ⟨hz, hTI, ⟨p, q, hTO⟩, h1, h2⟩ := st
    obtain ⟨its1, rv1, p1, z1⟩ := I.list ha
    obtain ⟨its2, rv2, p2, z2⟩ := I.list hb
    obtain ⟨u1, hu1, ru1⟩ := rv1.get hx
    obtain ⟨u2, hu2, ru2⟩ := rv2.get hy
    refine wpAny_pyNext_zip_item D hz hTI hTO h1 h2 p1.isList p2.isList (by simpa using hu1) (by simpa using hu2) fun h' a1 a2 a3 a4 a5 a6 a7 => ⟨_, rfl, wpAny_letOwnedTupleGo_zip (s := { s with heap := h' }) a1 fun h2' b1 sb => ?_⟩
    have hNz : s.heap.objs.size ≠ z := Nat.ne_of_gt (Heap.lt_size hz)
    have kk : ∀ c o, c ∉ [z, TO, i1, i2] → s.heap.get? c = some o → h2'.get? c = some o := fun c o hc e => by
      simp only [List.mem_cons, List.not_mem_nil, or_false, not_or] at hc
      exact sb.extBut c o hc.1 (a7 c o hc.1 hc.2.1 hc.2.2.1 hc.2.2.2 e)
    have fr : ∀ c ∈ [z, TI, TO, i1, i2], c ≠ s.heap.objs.size := fun c hc => by
      simp only [List.mem_cons, List.not_mem_nil, or_false] at hc
      obtain ⟨o1, e1, _⟩ := h1
      obtain ⟨o2, e2, _⟩ := h2
      rcases hc with rfl | rfl | rfl | rfl | rfl
      · exact Ne.symm hNz
      · exact Nat.ne_of_lt (Heap.lt_size hTI)
      · exact Nat.ne_of_lt (Heap.lt_size hTO)
      · exact Nat.ne_of_lt (Heap.lt_size e1)
      · exact Nat.ne_of_lt (Heap.lt_size e2)
    refine ⟨.ref s.heap.objs.size, upd H s.heap.objs.size (.tup [x, y]), (show Inv X pins σ (upd H s.heap.objs.size (.tup [x, y])) { s with heap := h2', toks := s.toks } from I.turnedN (t' := s.toks) (ch := [z, TO, i1, i2]) (us := [u1, u2]) (fun c hc => hf c (sub4 hc)) kk (Nat.le_refl _) (by show 2 ≤ sizeLine; decide) (.cons ru1 (.cons ru2 .nil)) ⟨_, sb.extBut _ _ hNz a5, rfl, _, rfl⟩), rfl,
      ⟨s.heap.objs.size, x, y, rfl, I.hok.fresh (Nat.le_refl _), rfl, fun xs' ys' hx' hy' => by rw [I.list_inj hx' ha, I.list_inj hy' hb]; exact ⟨hx, hy⟩⟩, ⟨b1, sb.extBut _ _ D.TIz (a7 _ _ D.TIz D.TITO D.TIi1 D.TIi2 hTI), ⟨_, _, sb.extBut _ _ D.TOz a2⟩, a3.extBut sb.extBut D.i1z, a4.extBut sb.extBut D.i2z⟩, fun c hc => ?_⟩
    rw [upd_ne (fr c hc)]
    exact (hf c hc).1
  done := by
    intro X hP hw hK hc i pins s σ H E I hf st hg
    subst hP hw hK
    obtain ⟨xs, ys, ha, hb, hend⟩ := hg
    obtain ⟨hz, hTI, ⟨p, q, hTO⟩, h1, h2⟩ := st
    obtain ⟨its1, rv1, p1, z1⟩ := I.list ha
    obtain ⟨its2, rv2, p2, z2⟩ := I.list hb
    have l1 := rv1.length
    have l2 := rv2.length
    refine wpAny_pyNext_zip_end (I.ok.hd hc) D hz hTI hTO h1 h2 p1.isList p2.isList ?_ fun h' k => ⟨rfl, ?_⟩
    · rcases hend with e | e
      · left; simp; omega
      · right; simp; omega
    · have kk : ∀ c o, c ∉ [z, TO, i1, i2] → s.heap.get? c = some o → h'.get? c = some o := fun c o hc e => by
        simp only [List.mem_cons, List.not_mem_nil, or_false, not_or] at hc
        exact k c o hc.1 hc.2.1 hc.2.2.1 hc.2.2.2 e
      have hf2 : ∀ c ∈ [z, TO, i1, i2], FpOk X pins H c := fun c hc => hf c (by
        simp only [List.mem_cons, List.not_mem_nil, or_false] at hc ⊢
        rcases hc with h | h | h | h
        · exact .inl h
        · exact .inr (.inr (.inl h))
        · exact .inr (.inr (.inr (.inl h)))
        · exact .inr (.inr (.inr (.inr h))))
      have nch : ∀ b u, H b = some u → b ∉ [z, TO, i1, i2] := fun b u e z => by rw [(hf2 b z).1] at e; cases e
      refine I.step (g' := s.gens) (d' := s.drawn) (t' := s.toks) (ch := [z, TO, i1, i2]) (fun b hb => ?_) (fun b o _ _ hc e _ => kk b o hc e) (fun b o _ _ hc e _ => ⟨o.slots, kk b o hc e⟩) (fun _ _ _ _ n => n)
        (fun b o hc e => ⟨o, kk b o hc e⟩) (fun _ _ e => e) (fun _ _ _ e => e) (fun b ps e => ⟨#[], by rw [e]; simp⟩) (fun m hm => ?_) (fun b u e => ?_) I.bare
      · obtain ⟨f0, f1, f2, f3, f4, f5⟩ := hf2 b hb
        exact ⟨f3, f1, f4, f5⟩
      · obtain ⟨o, es, ep, ho, rr⟩ := hm
        exact ⟨o, es, ep, kk _ o (fun z => (hf2 _ z).2.1 rfl) ho, rr⟩
      · refine (I.hok b u e).stay (fun c v hc q => kk c v ?_ q) (fun _ q => q) fun _ _ q => q
        rcases hc with z | z
        · rw [z]; exact nch b u e
        · exact nch c _ z
  self := fun _ _ _ _ _ st h => wpAny_pyIter_zip st.1 h
theorem bt_zip : bootBuiltins "zip" = some (.type "zip") := by decide +kernel
def iZip (K : PySem.W.Frag) (ta : TA) : TI := fun σ H R => ta σ H fun vs H1 => ∃ a b, vs = [.ref a, .ref b] ∧ (∃ xs, SqL K H1 a xs) ∧ (∃ ys, SqL K H1 b ys) ∧ R (Itz K a b) H1
section
variable {X : Cx}
theorem pi_zip {elts : List Expr} {x1 : Nat} {tpos : Pos} {a b : Expr} {ta : TA} {p pos : Pos} (hg : Gl X "zip") (hm : X.mg "zip" = none) (ha : PA X [a, b] ta) (hs : starEach [a, b] X.env = [(false, eval a X.env), (false, eval b X.env)] := by rfl) (hs2 : starEach [b] X.env = [(false, eval b X.env)] := by rfl) :
    PI X (.Tuple elts x1 tpos) (.Call (.Name "zip" p) [a, b] [] pos) (iZip X.K ta) := by
  intro pins s σ H R I h
  refine Call_ (ld_blt I hg hm bt_zip (PyProof.Rows.callWith_type1 (thn (ha pos pins s σ H _ I h) fun us s1 ⟨vs, H1, I1, r1, q1⟩ => ?_) (by rw [hs, hs2]) (by rw [hs2]; rfl)))
  obtain ⟨a, b, e, ⟨xs, hx⟩, ⟨ys, hy⟩, q⟩ := q1
  subst e
  cases r1 with
  | cons r rr =>
    cases rr with
    | cons r' rr =>
      cases rr
      cases r
      cases r'
      obtain ⟨its1, rv1, p1, z1⟩ := I1.list hx
      obtain ⟨its2, rv2, p2, z2⟩ := I1.list hy
      have lt1 : a < s1.heap.objs.size := by obtain ⟨_, e, _⟩ := p1.isList; exact Heap.lt_size e
      have lt2 : b < s1.heap.objs.size := by obtain ⟨_, e, _⟩ := p2.isList; exact Heap.lt_size e
      refine call_zip_2 p1.isList p2.isList fun h' hz hTI hTO hi1 hi2 hsz hk => ?_
      refine wpAny_pyIter_zip (s := { s1 with heap := h' }) hz ⟨s1.heap.objs.size + 4, [s1.heap.objs.size + 4, s1.heap.objs.size + 2, s1.heap.objs.size + 3, s1.heap.objs.size, s1.heap.objs.size + 1], _, _, H1, rfl, I1.kept (t' := s1.toks) hk, turn_zip _ _ _ _ _ a b (zipApart_new lt1 lt2), ⟨hz, hTI, ⟨_, _, hTO⟩, hi1, hi2⟩, fun c hc => ?_, q⟩
      have hge : s1.heap.objs.size ≤ c := by
        simp only [List.mem_cons, List.not_mem_nil, or_false] at hc
        rcases hc with h | h | h | h | h
        · rw [h]; exact Nat.le_add_right _ _
        · rw [h]; exact Nat.le_add_right _ _
        · rw [h]; exact Nat.le_add_right _ _
        · rw [h]; exact Nat.le_refl _
        · rw [h]; exact Nat.le_add_right _ _
      exact I1.fpOk hge (I1.hok.fresh hge)
end
theorem for_zip {K : PySem.W.Frag} {a b : Addr} {xs ys : List V} {g : TG} {tb : TS} {D : Ends} {σ : St} {H : Hp} (Pv : Nat → St → Hp → Prop) (h0 : Pv 0 σ H) (hl : ∀ i σ H, Pv i σ H → SqL K H a xs ∧ SqL K H b ys)
    (hs : ∀ i x y σ H T, xs[i]? = some x → ys[i]? = some y → Pv i σ H → H T = none → g (.ref T) σ (upd H T (.tup [x, y])) fun σ2 H2 => tb { D with nx := Pv (i + 1), ct := Pv (i + 1), bk := D.nx } σ2 H2) (hd : ∀ σ H, Pv (min xs.length ys.length) σ H → D.nx σ H) :
    ∃ W : Nat → Nat → St → Hp → Prop, (∃ m, W 0 m σ H) ∧ ∀ i m σ H, W i m σ H →
      ((Itz K a b).stop i H ∧ D.nx σ H) ∨ ((Itz K a b).go i H ∧ ∃ N : St → Hp → Prop, (∀ σ' H', N σ' H' → ∃ m', m' < m ∧ W (i + 1) m' σ' H') ∧ ∀ x H', (Itz K a b).yld i H x H' → g x σ H' fun σ2 H2 => tb { D with nx := N, ct := N, bk := D.nx } σ2 H2) := by
  refine ⟨fun i m σ H => m = min xs.length ys.length - i ∧ i ≤ min xs.length ys.length ∧ Pv i σ H, ⟨min xs.length ys.length, by simp, Nat.zero_le _, h0⟩, ?_⟩
  rintro i m σ H ⟨rfl, hi, p⟩
  obtain ⟨qa, qb⟩ := hl i σ H p
  by_cases hlt : i < min xs.length ys.length
  · have h1 : i < xs.length := by omega
    have h2 : i < ys.length := by omega
    refine .inr ⟨⟨xs, ys, xs[i], ys[i], qa, qb, by simp [h1], by simp [h2]⟩, Pv (i + 1), fun σ' H' p' => ⟨min xs.length ys.length - (i + 1), by omega, rfl, hlt, p'⟩, fun x H' y => ?_⟩
    obtain ⟨T, x', y', rfl, hT, rfl, hxy⟩ := y
    obtain ⟨e1, e2⟩ := hxy xs ys qa qb
    exact hs i x' y' σ _ T e1 e2 p hT
  · have e : i = min xs.length ys.length := by omega
    subst e
    exact .inl ⟨⟨xs, ys, qa, qb, by omega⟩, hd σ H p⟩
theorem comp_zip {K : PySem.W.Frag} {a b : Addr} {xs ys : List V} {fr : List (Option Nat)} {g : TG} {ti : TT} {te : TE} {σ : St} {H1 : Hp} {l : Addr} {Q : VK} (Pv : Nat → List V → Hp → Prop) (h0 : Pv 0 [] (upd H1 l (.lst []))) (hl : ∀ i zs H, Pv i zs H → SqL K H a xs ∧ SqL K H b ys)
    (hs : ∀ i x y zs H T, xs[i]? = some x → ys[i]? = some y → Pv i zs H → H T = none → CTurn fr g ti te σ l (.ref T) zs (upd H T (.tup [x, y])) (Pv (i + 1))) (hd : ∀ zs H, Pv (min xs.length ys.length) zs H → Q (.ref l) H) : CGoal (Itz K a b) fr g ti te σ H1 l Q := by
  refine ⟨fun i m zs H => m = min xs.length ys.length - i ∧ i ≤ min xs.length ys.length ∧ Pv i zs H, ⟨min xs.length ys.length, by simp, Nat.zero_le _, h0⟩, ?_⟩
  rintro i m zs H ⟨rfl, hi, p⟩
  obtain ⟨qa, qb⟩ := hl i zs H p
  by_cases hlt : i < min xs.length ys.length
  · have h1 : i < xs.length := by omega
    have h2 : i < ys.length := by omega
    refine .inr ⟨⟨xs, ys, xs[i], ys[i], qa, qb, by simp [h1], by simp [h2]⟩, Pv (i + 1), fun zs' H' p' => ⟨min xs.length ys.length - (i + 1), by omega, rfl, hlt, p'⟩, fun x H' y => ?_⟩
    obtain ⟨T, x', y', rfl, hT, rfl, hxy⟩ := y
    obtain ⟨e1, e2⟩ := hxy xs ys qa qb
    exact hs i x' y' zs _ T e1 e2 p hT
  · have e : i = min xs.length ys.length := by omega
    subst e
    exact .inl ⟨⟨xs, ys, qa, qb, by omega⟩, hd zs H p⟩
end L2

set_option Elab.async false
set_option linter.all false
set_option maxRecDepth 100000
/-! enumerate of a list, walked by a pair of names; isinstance of none, lists, tuples, dicts; text += text -/
namespace L2
open PySem PySem.Spec PyProof.Rows
def Ite (K : PySem.W.Frag) (a : Addr) : It :=
  ⟨fun i H => ∃ xs x, SqL K H a xs ∧ xs[i]? = some x,
   fun i H v H' => ∃ T x, v = .ref T ∧ H T = none ∧ H' = upd H T (.tup [.int (i : Int), x]) ∧ ∀ xs, SqL K H a xs → xs[i]? = some x,
   fun i H => ∃ xs, SqL K H a xs ∧ xs.length ≤ i⟩
def EnSt (e it a : Addr) (i : Nat) (h : Heap) : Prop := (∃ old, IsEnum h e it (i : Int) old) ∧ h.IsListIter it a i
theorem turn_enum {P : Program} {w : World} {K : PySem.W.Frag} {elts : List Expr} {x1 : Nat} {pos : Pos} (e it a : Addr) (hne : e ≠ it) : Turn P w K (.Tuple elts x1 pos) (Ite K a) [e, it] e (EnSt e it a) where
  mem := by simp
  obj := fun i h st c hc => by
    obtain ⟨⟨old, he⟩, ⟨o1, e1, _, d1⟩⟩ := st
    simp only [List.mem_cons, List.not_mem_nil, or_false] at hc
    rcases hc with rfl | rfl
    · exact ⟨_, he, fun v y => by cases y⟩
    · exact ⟨o1, e1, fun v y => by rw [d1] at y; cases y⟩
  keep := fun i h h' st k => by
    obtain ⟨⟨old, he⟩, h1⟩ := st
    exact ⟨⟨old, k e (by simp) _ he⟩, h1.at fun o q => k it (by simp) o q⟩
  item := by
    intro X hP hw hK hc i pins s σ H E I hf st hg
    subst hP hw hK
    obtain ⟨xs, x, ha, hx⟩ := hg
    obtain ⟨⟨old, he⟩, h1⟩ := st
    obtain ⟨its1, rv1, p1, z1⟩ := I.list ha
    obtain ⟨u1, hu1, ru1⟩ := rv1.get hx
    refine wpAny_pyNext_enum_item he h1 p1.isList (by simpa using hu1) hne fun h' a1 a2 a3 a4 a5 => ⟨_, rfl, wpAny_letOwnedTupleGo_enum (s := { s with heap := h', toks := s.toks + 1 }) a1 fun h2' b1 sb => ?_⟩
    have hNe : s.heap.objs.size ≠ e := Nat.ne_of_gt (Heap.lt_size he)
    have hNi : s.heap.objs.size ≠ it := by obtain ⟨o1, e1, _⟩ := h1; exact Nat.ne_of_gt (Heap.lt_size e1)
    have kk : ∀ c o, c ∉ [e, it] → s.heap.get? c = some o → h2'.get? c = some o := fun c o hc q => by
      simp only [List.mem_cons, List.not_mem_nil, or_false, not_or] at hc
      exact sb.extBut c o hc.1 (a5 c o hc.1 hc.2 q)
    refine ⟨.ref s.heap.objs.size, upd H s.heap.objs.size (.tup [.int (i : Int), x]), (show Inv X pins σ (upd H s.heap.objs.size (.tup [.int (i : Int), x])) { s with heap := h2', toks := s.toks + 1 } from I.turnedN (t' := s.toks + 1) (ch := [e, it]) (us := [.int (i : Int) s.toks, u1]) hf kk (Nat.le_refl _) (by show 2 ≤ sizeLine; decide) (.cons ⟨_, rfl⟩ (.cons ru1 .nil)) ⟨_, sb.extBut _ _ hNe a3, rfl, _, rfl⟩), rfl,
      ⟨s.heap.objs.size, x, rfl, I.hok.fresh (Nat.le_refl _), rfl, fun xs' hx' => by rw [I.list_inj hx' ha]; exact hx⟩, ⟨⟨_, b1⟩, a2.extBut sb.extBut (Ne.symm hne)⟩, fun c hc => ?_⟩
    have hcN : c ≠ s.heap.objs.size := by
      simp only [List.mem_cons, List.not_mem_nil, or_false] at hc
      rcases hc with rfl | rfl
      · exact Ne.symm hNe
      · exact Ne.symm hNi
    rw [upd_ne hcN]
    exact (hf c hc).1
  done := by
    intro X hP hw hK hc i pins s σ H E I hf st hg
    subst hP hw hK
    obtain ⟨xs, ha, hend⟩ := hg
    obtain ⟨⟨old, he⟩, h1⟩ := st
    obtain ⟨its1, rv1, p1, z1⟩ := I.list ha
    have l1 := rv1.length
    obtain ⟨f0, f1, f2, f3, f4, f5⟩ := hf it (by simp)
    exact wpAny_pyNext_enum_end (I.ok.hd hc) he h1 p1.isList (by simp; omega) fun h' eb => ⟨rfl, I.turned (t' := s.toks) (fun b o hb e => eb b o hb e) f0 f1 f3 f4 f5⟩
  self := fun _ _ _ _ _ st h => by
    obtain ⟨⟨old, he⟩, _⟩ := st
    exact wpAny_pyIter_enum he h
theorem bt_enum : bootBuiltins "enumerate" = some (.type "enumerate") := by decide +kernel
def iEnum (K : PySem.W.Frag) (ta : TA) : TI := fun σ H R => ta σ H fun vs H1 => ∃ a, vs = [.ref a] ∧ (∃ xs, SqL K H1 a xs) ∧ R (Ite K a) H1
section
variable {X : Cx}
theorem pi_enum {elts : List Expr} {x1 : Nat} {tpos : Pos} {a : Expr} {ta : TA} {p pos : Pos} (hg : Gl X "enumerate") (hm : X.mg "enumerate" = none) (ha : PA X [a] ta) (hs : starEach [a] X.env = [(false, eval a X.env)] := by rfl) :
    PI X (.Tuple elts x1 tpos) (.Call (.Name "enumerate" p) [a] [] pos) (iEnum X.K ta) := by
  intro pins s σ H R I h
  refine Call_ (ld_blt I hg hm bt_enum (PyProof.Rows.callWith_type1 (thn (ha pos pins s σ H _ I h) fun us s1 ⟨vs, H1, I1, r1, q1⟩ => ?_) hs rfl))
  obtain ⟨a, e, ⟨xs, hx⟩, q⟩ := q1
  subst e
  cases r1 with
  | cons r rr =>
    cases rr
    cases r
    obtain ⟨its1, rv1, p1, z1⟩ := I1.list hx
    refine call_enumerate_list p1.isList fun h' he hi hsz hk => ?_
    refine wpAny_pyIter_enum (s := { s1 with heap := h' }) he ⟨s1.heap.objs.size + 1, [s1.heap.objs.size + 1, s1.heap.objs.size], _, _, H1, rfl, I1.kept (t' := s1.toks) hk, turn_enum _ _ a (Nat.ne_of_gt (Nat.lt_succ_self _)), ⟨⟨_, he⟩, hi⟩, fun c hc => ?_, q⟩
    have hge : s1.heap.objs.size ≤ c := by
      simp only [List.mem_cons, List.not_mem_nil, or_false] at hc
      rcases hc with h | h
      · rw [h]; exact Nat.le_add_right _ _
      · rw [h]; exact Nat.le_refl _
    exact I1.fpOk hge (I1.hok.fresh hge)
end
theorem for_enum {K : PySem.W.Frag} {a : Addr} {xs : List V} {g : TG} {tb : TS} {D : Ends} {σ : St} {H : Hp} (Pv : Nat → St → Hp → Prop) (h0 : Pv 0 σ H) (hl : ∀ i σ H, Pv i σ H → SqL K H a xs)
    (hs : ∀ i x σ H T, xs[i]? = some x → Pv i σ H → H T = none → g (.ref T) σ (upd H T (.tup [.int (i : Int), x])) fun σ2 H2 => tb { D with nx := Pv (i + 1), ct := Pv (i + 1), bk := D.nx } σ2 H2) (hd : ∀ σ H, Pv xs.length σ H → D.nx σ H) :
    ∃ W : Nat → Nat → St → Hp → Prop, (∃ m, W 0 m σ H) ∧ ∀ i m σ H, W i m σ H →
      ((Ite K a).stop i H ∧ D.nx σ H) ∨ ((Ite K a).go i H ∧ ∃ N : St → Hp → Prop, (∀ σ' H', N σ' H' → ∃ m', m' < m ∧ W (i + 1) m' σ' H') ∧ ∀ x H', (Ite K a).yld i H x H' → g x σ H' fun σ2 H2 => tb { D with nx := N, ct := N, bk := D.nx } σ2 H2) := by
  refine ⟨fun i m σ H => m = xs.length - i ∧ i ≤ xs.length ∧ Pv i σ H, ⟨xs.length, by simp, Nat.zero_le _, h0⟩, ?_⟩
  rintro i m σ H ⟨rfl, hi, p⟩
  have qa := hl i σ H p
  by_cases hlt : i < xs.length
  · refine .inr ⟨⟨xs, xs[i], qa, by simp [hlt]⟩, Pv (i + 1), fun σ' H' p' => ⟨xs.length - (i + 1), by omega, rfl, hlt, p'⟩, fun x H' y => ?_⟩
    obtain ⟨T, x', rfl, hT, rfl, hxy⟩ := y
    exact hs i x' σ _ T (hxy xs qa) p hT
  · have e : i = xs.length := by omega
    subst e
    exact .inl ⟨⟨xs, qa, Nat.le_refl _⟩, hd σ H p⟩
/-! ### isinstance of what is no scalar -/
section
variable {X : Cx}
theorem call_isiL : CallR X (.builtin "isinstance") (fun xs H Q => ∃ a ys T, xs = [.ref a, .ty T] ∧ SqL X.K H a ys ∧ ((T = "list" ∧ Q (.bl true) H) ∨ ((T = "tuple" ∨ T = "str" ∨ T = "int" ∨ T = "bool" ∨ T = "dict") ∧ Q (.bl false) H))) := by
  intro pins s σ H xs us Q I r h
  obtain ⟨a, ys, T, rfl, hq, h⟩ := h
  obtain ⟨u, w, rfl, ru, rw'⟩ := vals2 r
  cases ru
  cases rw'
  obtain ⟨its, rv, p, hz⟩ := I.list hq
  obtain ⟨o, ho, hc, _⟩ := p.isList
  rcases h with ⟨rfl, q⟩ | ⟨h, q⟩
  · exact IsiPair.list_list ho hc ⟨.bl true, H, I, rfl, q⟩
  · have fin : ∀ t, EP X pins σ Q (.bool false) { s with toks := t } := fun t => ⟨.bl false, H, I.tok t, rfl, q⟩
    rcases h with rfl | rfl | rfl | rfl | rfl
    · exact IsiPair.list_tuple ho hc (fin _)
    · exact IsiPair.list_str ho hc (fin _)
    · exact IsiPair.list_int ho hc (fin _)
    · exact IsiPair.list_bool ho hc (fin _)
    · exact IsiPair.list_dict ho hc (fin _)
theorem call_isiTf : CallR X (.builtin "isinstance") (fun xs H Q => ∃ a ys T, xs = [.ref a, .ty T] ∧ SqT X.K H a ys ∧ ((T = "tuple" ∧ Q (.bl true) H) ∨ ((T = "list" ∨ T = "str" ∨ T = "int" ∨ T = "bool" ∨ T = "dict") ∧ Q (.bl false) H))) := by
  intro pins s σ H xs us Q I r h
  obtain ⟨a, ys, T, rfl, hq, h⟩ := h
  obtain ⟨u, w, rfl, ru, rw'⟩ := vals2 r
  cases ru
  cases rw'
  obtain ⟨its, rv, ⟨o, ho, hc, _⟩, hz⟩ := I.tuple hq
  rcases h with ⟨rfl, q⟩ | ⟨h, q⟩
  · exact IsiPair.tuple_tuple ho hc ⟨.bl true, H, I, rfl, q⟩
  · have fin : ∀ t, EP X pins σ Q (.bool false) { s with toks := t } := fun t => ⟨.bl false, H, I.tok t, rfl, q⟩
    rcases h with rfl | rfl | rfl | rfl | rfl
    · exact IsiPair.tuple_list ho hc (fin _)
    · exact IsiPair.tuple_str ho hc (fin _)
    · exact IsiPair.tuple_int ho hc (fin _)
    · exact IsiPair.tuple_bool ho hc (fin _)
    · exact IsiPair.tuple_dict ho hc (fin _)
end
end L2

set_option Elab.async false
set_option linter.all false
set_option maxRecDepth 100000
/-! a universe of found values: none, truths, ints, texts, tuples, and lists and dicts of which nothing is asked -/
namespace L2
open PySem PySem.Spec PyProof.Rows
inductive D where
  | non
  | bl (b : Bool)
  | int (i : Int)
  | str (s : Str)
  | tup (ds : List D)
  | lst
  | dic
mutual
def DV (K : PySem.W.Frag) (H : Hp) : D → V → Prop
  | .non, v => v = .non
  | .bl b, v => v = .bl b
  | .int i, v => v = .int i
  | .str x, v => v = .str x ∧ x.length ≤ 1000
  | .tup ds, v => ∃ a ys, v = .ref a ∧ SqT K H a ys ∧ DAll K H ds ys ∧ ds.length ≤ 100
  | .lst, v => ∃ a ys, v = .ref a ∧ H a = some (.lst ys)
  | .dic, v => ∃ a, v = .ref a ∧ H a = some (.dK [])
def DAll (K : PySem.W.Frag) (H : Hp) : List D → List V → Prop
  | [], ys => ys = []
  | d :: ds, ys => ∃ y r, ys = y :: r ∧ DV K H d y ∧ DAll K H ds r
end
structure DKeep (K : PySem.W.Frag) (H H' : Hp) : Prop where
  tup : ∀ a ys, SqT K H a ys → SqT K H' a ys
  lst : ∀ a ys, H a = some (.lst ys) → ∃ zs, H' a = some (.lst zs)
  dic : ∀ a, H a = some (.dK []) → H' a = some (.dK [])
section
variable {K : PySem.W.Frag} {H H' : Hp}
theorem DKeep.same (g : Same H H') : DKeep K H H' := ⟨fun _ _ h => g.seqT h, fun _ _ h => ⟨_, g _ _ h⟩, fun _ h => g _ _ h⟩
theorem DKeep.trans {H1 : Hp} (a : DKeep K H H1) (b : DKeep K H1 H') : DKeep K H H' := ⟨fun x y h => b.tup x y (a.tup x y h), fun x y h => (a.lst x y h).elim fun z hz => b.lst x z hz, fun x h => b.dic x (a.dic x h)⟩
/-- all but a list at st, which stays a list -/
theorem DKeep.but {st : Addr} {vs ws : List V} (g : ∀ b o, b ≠ st → H b = some o → H' b = some o) (hs : H st = some (.lst vs)) (hs' : H' st = some (.lst ws)) : DKeep K H H' :=
  ⟨fun a ys h => h.keep fun b u => ⟨fun q => g b _ (ne_of q hs (by intro z; cases z)) q, fun o q => g b _ (ne_of q hs (by intro z; cases z)) q⟩,
   fun a ys h => by
    by_cases e : a = st
    · subst e; exact ⟨ws, hs'⟩
    · exact ⟨ys, g a _ e h⟩,
   fun a h => g a _ (ne_of h hs (by intro z; cases z)) h⟩
/-- a list is changed -/
theorem DKeep.put {l : Addr} {vs ws : List V} (hl : H l = some (.lst vs)) : DKeep K H (upd H l (.lst ws)) := DKeep.but (fun b o hb h => by rw [upd_ne hb]; exact h) hl upd_same
mutual
theorem DV.mono (k : DKeep K H H') : ∀ (d : D) (v : V), DV K H d v → DV K H' d v
  | .non, v, h => by simp only [DV] at h ⊢; exact h
  | .bl b, v, h => by simp only [DV] at h ⊢; exact h
  | .int i, v, h => by simp only [DV] at h ⊢; exact h
  | .str x, v, h => by simp only [DV] at h ⊢; exact h
  | .tup ds, v, h => by
    simp only [DV] at h ⊢
    obtain ⟨a, ys, e, hq, hd, hl⟩ := h
    exact ⟨a, ys, e, k.tup a ys hq, DAll.mono k ds ys hd, hl⟩
  | .lst, v, h => by
    simp only [DV] at h ⊢
    obtain ⟨a, ys, e, hq⟩ := h
    obtain ⟨zs, hz⟩ := k.lst a ys hq
    exact ⟨a, zs, e, hz⟩
  | .dic, v, h => by
    simp only [DV] at h ⊢
    obtain ⟨a, e, hq⟩ := h
    exact ⟨a, e, k.dic a hq⟩
theorem DAll.mono (k : DKeep K H H') : ∀ (ds : List D) (vs : List V), DAll K H ds vs → DAll K H' ds vs
  | [], vs, h => by simp only [DAll] at h ⊢; exact h
  | d :: ds, vs, h => by
    simp only [DAll] at h ⊢
    obtain ⟨y, r, e, h1, h2⟩ := h
    exact ⟨y, r, e, DV.mono k d y h1, DAll.mono k ds r h2⟩
end
theorem DAll.length : ∀ {ds : List D} {vs : List V}, DAll K H ds vs → vs.length = ds.length
  | [], vs, h => by simp only [DAll] at h; subst h; rfl
  | d :: ds, vs, h => by
    simp only [DAll] at h
    obtain ⟨y, r, e, _, h2⟩ := h
    subst e
    rw [List.length_cons, List.length_cons, DAll.length h2]
theorem DAll.get : ∀ {ds : List D} {vs : List V} {i : Nat} {v : V}, DAll K H ds vs → vs[i]? = some v → ∃ d, ds[i]? = some d ∧ DV K H d v
  | [], vs, i, v, h, e => by simp only [DAll] at h; subst h; simp at e
  | d :: ds, vs, i, v, h, e => by
    simp only [DAll] at h
    obtain ⟨y, r, e1, h1, h2⟩ := h
    subst e1
    cases i with
    | zero => simp at e; subst e; exact ⟨d, rfl, h1⟩
    | succ i =>
      obtain ⟨d', h3, h4⟩ := DAll.get (i := i) h2 (by simpa using e)
      exact ⟨d', by simpa using h3, h4⟩
theorem DAll.append : ∀ {ds es : List D} {vs us : List V}, DAll K H ds vs → DAll K H es us → DAll K H (ds ++ es) (vs ++ us)
  | [], es, vs, us, h, h' => by simp only [DAll] at h; subst h; exact h'
  | d :: ds, es, vs, us, h, h' => by
    simp only [DAll] at h
    obtain ⟨y, r, e, h1, h2⟩ := h
    subst e
    simp only [List.cons_append, DAll]
    exact ⟨y, r ++ us, rfl, h1, DAll.append h2 h'⟩
end
/-- whether it is of the type -/
def isiD : D → String → Bool
  | .tup _, T => T == "tuple"
  | .str _, T => T == "str"
  | .int _, T => T == "int"
  | .bl _, T => T == "bool" || T == "int"
  | _, _ => false
section
variable {X : Cx}
theorem call_isiD : CallR X (.builtin "isinstance") (fun xs H Q => ∃ (v : V) (d : D) (T : String), xs = [v, .ty T] ∧ DV X.K H d v ∧ (T = "tuple" ∨ T = "str" ∨ T = "int" ∨ T = "bool") ∧ Q (.bl (isiD d T)) H) := by
  intro pins s σ H xs us Q I r h
  obtain ⟨v, d, T, rfl, hd, hT, q⟩ := h
  obtain ⟨u, w, rfl, ru, rw'⟩ := vals2 r
  cases rw'
  have fin : ∀ t b, isiD d T = b → EP X pins σ Q (.bool b) { s with toks := t } := fun t b e => ⟨.bl b, H, I.tok t, rfl, e ▸ q⟩
  have fin0 : ∀ b, isiD d T = b → EP X pins σ Q (.bool b) s := fun b e => ⟨.bl b, H, I, rfl, e ▸ q⟩
  cases d with
  | non =>
    simp only [DV] at hd
    subst hd
    cases ru
    rcases hT with rfl | rfl | rfl | rfl
    · exact IsiPair.NoneType_tuple (fin _ _ rfl)
    · exact IsiPair.NoneType_str (fin _ _ rfl)
    · exact IsiPair.NoneType_int (fin _ _ rfl)
    · exact IsiPair.NoneType_bool (fin _ _ rfl)
  | bl b =>
    simp only [DV] at hd
    subst hd
    cases ru
    rcases hT with rfl | rfl | rfl | rfl
    · exact IsiPair.bool_tuple (fin _ _ rfl)
    · exact IsiPair.bool_str (fin _ _ rfl)
    · exact IsiPair.bool_int (fin0 _ rfl)
    · exact IsiPair.bool_bool (fin0 _ rfl)
  | int i =>
    simp only [DV] at hd
    subst hd
    obtain ⟨t, rfl⟩ := ru
    rcases hT with rfl | rfl | rfl | rfl
    · exact IsiPair.int_tuple (fin _ _ rfl)
    · exact IsiPair.int_str (fin _ _ rfl)
    · exact IsiPair.int_int (fin0 _ rfl)
    · exact IsiPair.int_bool (fin _ _ rfl)
  | str x =>
    simp only [DV] at hd
    obtain ⟨rfl, _⟩ := hd
    obtain ⟨t, rfl⟩ := ru
    rcases hT with rfl | rfl | rfl | rfl
    · exact IsiPair.str_tuple (fin _ _ rfl)
    · exact IsiPair.str_str (fin0 _ rfl)
    · exact IsiPair.str_int (fin _ _ rfl)
    · exact IsiPair.str_bool (fin _ _ rfl)
  | tup ds =>
    simp only [DV] at hd
    obtain ⟨a, ys, rfl, hq, _⟩ := hd
    cases ru
    obtain ⟨its, rv, ⟨o, ho, hc, _⟩, hz⟩ := I.tuple hq
    rcases hT with rfl | rfl | rfl | rfl
    · exact IsiPair.tuple_tuple ho hc (fin0 _ rfl)
    · exact IsiPair.tuple_str ho hc (fin _ _ rfl)
    · exact IsiPair.tuple_int ho hc (fin _ _ rfl)
    · exact IsiPair.tuple_bool ho hc (fin _ _ rfl)
  | lst =>
    simp only [DV] at hd
    obtain ⟨a, ys, rfl, hq⟩ := hd
    cases ru
    obtain ⟨its, rv, p, hz⟩ := I.list (SqL.of hq)
    obtain ⟨o, ho, hc, _⟩ := p.isList
    rcases hT with rfl | rfl | rfl | rfl
    · exact IsiPair.list_tuple ho hc (fin _ _ rfl)
    · exact IsiPair.list_str ho hc (fin _ _ rfl)
    · exact IsiPair.list_int ho hc (fin _ _ rfl)
    · exact IsiPair.list_bool ho hc (fin _ _ rfl)
  | dic =>
    simp only [DV] at hd
    obtain ⟨a, rfl, hq⟩ := hd
    cases ru
    obtain ⟨_, _, vs, _, hm⟩ := dk_of I.hok hq
    obtain ⟨o, ho, hc⟩ := hm.typeIs (s := s)
    rcases hT with rfl | rfl | rfl | rfl
    · exact IsiPair.dict_tuple ho hc (fin _ _ rfl)
    · exact IsiPair.dict_str ho hc (fin _ _ rfl)
    · exact IsiPair.dict_int ho hc (fin _ _ rfl)
    · exact IsiPair.dict_bool ho hc (fin _ _ rfl)
end
/-! ### displays of constants, nested -/
def okL : List D → Bool
  | [.int _] => false
  | _ => true
mutual
def ceN : Nat → Expr → Option D
  | 0, _ => none
  | n + 1, e => match e with
    | .Constant (.str x) _ _ => if x.length ≤ 1000 then some (.str x) else none
    | .Constant .none _ _ => some .non
    | .Constant (.bool b) _ _ => some (.bl b)
    | .Constant (.int i) _ _ => some (.int i)
    | .Tuple es _ _ => match ceL n es with
      | some ds => if ds.length ≤ 100 then some (.tup ds) else none
      | none => none
    | .List es _ => match ceL n es with
      | some ds => if okL ds && decide (ds.length ≤ 100) then some .lst else none
      | none => none
    | .Dict [] [] _ => some .dic
    | _ => none
def ceL : Nat → List Expr → Option (List D)
  | 0, _ => none
  | _ + 1, [] => some []
  | n + 1, e :: es => match ceN n e, ceL n es with
    | some d, some ds => some (d :: ds)
    | _, _ => none
end
/-- a display that makes what it says -/
def tMk (K : PySem.W.Frag) (d : D) : TE := fun _ H Q => ∀ v H', Same H H' → DV K H' d v → Q v H'
def tMks (K : PySem.W.Frag) (ds : List D) : TA := fun _ H Q => ∀ vs H', Same H H' → DAll K H' ds vs → Q vs H'
section
variable {X : Cx}
theorem PE.imp' {e : Expr} {t t' : TE} (h : PE X e t) (k : ∀ σ H Q, t' σ H Q → t σ H Q) : PE X e t' := fun pins s σ H Q I q => h pins s σ H Q I (k σ H Q q)
theorem PA.imp' {es : List Expr} {t t' : TA} (h : PA X es t) (k : ∀ σ H Q, t' σ H Q → t σ H Q) : PA X es t' := fun pos pins s σ H Q I q => h pos pins s σ H Q I (k σ H Q q)
theorem same_upd {H : Hp} {p : Addr} (h : H p = none) (o : HO) : Same H (upd H p o) := fun b u q => by rw [upd_ne (ne_of_none q h)]; exact q
end
end L2

set_option Elab.async false
set_option linter.all false
set_option maxRecDepth 100000
namespace L2
open PySem PySem.Spec PyProof.Rows
section
variable {X : Cx}
theorem one_int {K : PySem.W.Frag} {H : Hp} {ds : List D} {vs : List V} (h : DAll K H ds vs) (hn : okL ds = true) : ∀ n, vs ≠ [.int n] := fun n e => by
  subst e
  match ds, h, hn with
  | [], h, _ => simp only [DAll] at h; cases h
  | d :: ds, h, hn =>
    simp only [DAll] at h
    obtain ⟨y, r, e, h1, h2⟩ := h
    cases e
    match ds, h2, hn with
    | [], _, hn =>
      cases d with
      | int i => cases hn
      | non => simp only [DV] at h1; cases h1
      | bl b => simp only [DV] at h1; cases h1
      | str x => simp only [DV] at h1; cases h1.1
      | tup es => simp only [DV] at h1; obtain ⟨_, _, e, _⟩ := h1; cases e
      | lst => simp only [DV] at h1; obtain ⟨_, _, e, _⟩ := h1; cases e
      | dic => simp only [DV] at h1; obtain ⟨_, e, _⟩ := h1; cases e
    | d2 :: ds, h2, _ =>
      simp only [DAll] at h2
      obtain ⟨_, _, e, _⟩ := h2
      cases e
theorem DAll.len100 {K : PySem.W.Frag} {H : Hp} {ds : List D} {vs : List V} (h : DAll K H ds vs) (hl : ds.length ≤ 100) : vs.length ≤ sizeLine := by
  rw [DAll.length h, sizeLine_eq]
  omega
theorem pe_ce : ∀ (n : Nat), (∀ e d, ceN n e = some d → PE X e (tMk X.K d)) ∧ (∀ es ds, ceL n es = some ds → PA X es (tMks X.K ds))
  | 0 => ⟨fun e d h => (by simp [ceN] at h), fun es ds h => (by simp [ceL] at h)⟩
  | n + 1 => by
    obtain ⟨ihE, ihL⟩ := pe_ce n
    refine ⟨fun e d h => ?_, fun es ds h => ?_⟩
    · simp only [ceN] at h
      split at h
      · split at h
        · cases h
          rename_i hx
          exact pe_str.imp' fun σ H Q q => q _ _ (fun _ _ h => h) (by unfold DV; exact ⟨rfl, hx⟩)
        · cases h
      · cases h
        exact pe_non.imp' fun σ H Q q => q _ _ (fun _ _ h => h) (by simp only [DV])
      · cases h
        exact pe_bl.imp' fun σ H Q q => q _ _ (fun _ _ h => h) (by simp only [DV])
      · cases h
        exact pe_int.imp' fun σ H Q q => q _ _ (fun _ _ h => h) (by simp only [DV])
      · split at h
        · rename_i ds hds
          split at h
          · rename_i hl
            cases h
            refine (pe_tup (ihL _ _ hds)).imp' fun σ H Q q vs H1 g hd => ⟨hd.len100 hl, fun p hp => q _ _ (fun b o ho => same_upd hp _ _ _ (g _ _ ho)) ?_⟩
            simp only [DV]
            exact ⟨p, vs, rfl, SqT.of upd_same, DAll.mono (DKeep.same (same_upd hp _)) _ _ hd, hl⟩
          · cases h
        · cases h
      · split at h
        · rename_i ds hds
          split at h
          · rename_i hl
            cases h
            rw [Bool.and_eq_true, decide_eq_true_iff] at hl
            refine (pe_lst (ihL _ _ hds)).imp' fun σ H Q q vs H1 g hd => ⟨hd.len100 hl.2, fun p hp => q _ _ (fun b o ho => same_upd hp _ _ _ (g _ _ ho)) ?_⟩
            simp only [DV]
            exact ⟨p, vs, rfl, upd_same⟩
          · cases h
        · cases h
      · cases h
        refine pe_dnewK.imp' fun σ H Q q p hp => q _ _ (same_upd hp _) ?_
        simp only [DV]
        exact ⟨p, rfl, upd_same⟩
      · cases h
    · cases es with
      | nil =>
        simp only [ceL] at h
        cases h
        exact pa_nil.imp' fun σ H Q q => q _ _ (fun _ _ h => h) (by simp only [DAll])
      | cons e es =>
        simp only [ceL] at h
        split at h
        · rename_i d ds hd hds
          cases h
          have hs : starEach (e :: es) X.env = (false, eval e X.env) :: starEach es X.env := by
            cases e <;> first | rfl | (cases n <;> simp [ceN] at hd)
          refine (pa_cons (ihE _ _ hd) (ihL _ _ hds) hs).imp' fun σ H Q q v H1 g1 h1 vs H2 g2 h2 => q _ _ (fun b o ho => g2 _ _ (g1 _ _ ho)) ?_
          simp only [DAll]
          exact ⟨v, vs, rfl, DV.mono (DKeep.same g2) _ _ h1, h2⟩
        · cases h
end
end L2

set_option Elab.async false
set_option linter.all false
set_option maxRecDepth 100000
namespace L2
open PySem PySem.Spec PyProof.Rows
section
variable {prog : Program} {w : World} {A : Around} {E : Value → Shared → Prop} {s : Shared}
theorem whole_tup {t sl : Addr} {items : Array Value} {vl vu : Value} {lo hi : Option Int} {Q : Value → Shared → Prop} (ht : IsTup s.heap t items) (hs : s.heap.IsSliceOf sl vl vu .none) (pl : IsPart vl lo) (pu : IsPart vu hi)
    (hw : HT.sIx items.size 0 lo = 0 ∧ HT.sIx items.size items.size hi = items.size) (h : Q (.ref t) s) : wpAny (model prog w) A (getItem (.ref t) (.ref sl)) Q E s := by
  obtain ⟨os, hos, hcs, hds⟩ := id hs
  have hTs : s.TypeIs (.ref sl) "slice" := ⟨os, hos, hcs⟩
  unfold getItem
  try with_reducible refine wpAny_holding ?_
  first | refine wpAny_bind (wpAny_pure ?_) | skip
  refine wpAny_bind (wpAny_sequenceKey ht.typeIs (by decide) ?_)
  refine wpAny_bind (wpAny_callSpecial?_slot (name := Str.ofString "__getitem__") ht.typeIs PyProof.Rows.slot_tuple_getitem
    (wpAny_call_entry PyProof.Rows.slot_tuple_getitem ht.typeIs entry_tuple_getitem ?_ (args_tuple_getitem _ _)))
  show wpAny _ _ (Builtin.Tuple.tupleItemsOf (.ref t) >>= _) _ _ s
  refine wpAny_bind (tupleItemsOf_ ht ?_)
  refine wpAny_bind (wpAny_typeOf hTs ?_)
  rw [if_pos (by decide)]
  refine wpAny_bind (HT.sliceApplied_gen hs pl pu ?_)
  have hyes : (((HT.sIx items.size 0 lo : Nat) : Int) == 0 && (1 : Int) == 1 && (HT.sIx items.size items.size hi - HT.sIx items.size 0 lo) == items.size) = true := by
    rw [hw.1, hw.2]
    simp
  show wpAny _ _ (if (((HT.sIx items.size 0 lo : Nat) : Int) == 0 && (1 : Int) == 1 && (HT.sIx items.size items.size hi - HT.sIx items.size 0 lo) == items.size) = true then _ else _) _ _ s
  rw [if_pos hyes]
  refine wpAny_bind ?_
  unfold Builtin.Tuple.tupleIsExact
  refine wpAny_bind (wpAny_typeOf ht.typeIs (wpAny_pure ?_))
  rw [if_pos (by decide)]
  refine wpAny_bind (wpAny_rule ?_)
  exact wpAny_pure ⟨_, rfl, wpAny_pure h⟩
end
section
variable {X : Cx}
def rSlW (K : PySem.W.Frag) : V → Option Int → Option Int → Hp → VK → Prop := fun x lo hi H Q => ∃ a xs, x = .ref a ∧ SqT K H a xs ∧ (HT.sIx xs.length 0 lo = 0 ∧ HT.sIx xs.length xs.length hi = xs.length) ∧ Q (.ref a) H
theorem sl_tupW : SlR X (rSlW X.K) := by
  intro pins s σ H x v vl vu lo hi sl Q I rx hs pl pu h
  obtain ⟨a, xs, rfl, hx, hw, q⟩ := h
  cases rx
  obtain ⟨its, r, ht, hz⟩ := I.tuple hx
  have hlen : its.toArray.size = xs.length := by rw [List.size_toArray]; exact r.length.symm
  refine ⟨"tuple", _, PyProof.Rows.slot_tuple_getitem.lookup, ht.typeIs, ?_⟩
  exact whole_tup ht hs pl pu (by rw [hlen]; exact hw) ⟨.ref a, H, I, rfl, q⟩
/-- t[1:], of any tuple -/
def rTail (K : PySem.W.Frag) : V → Option Int → Option Int → Hp → VK → Prop := fun x lo hi H Q => ∃ a xs, x = .ref a ∧ lo = some 1 ∧ hi = none ∧ SqT K H a xs ∧ ∀ p H', Same H H' → SqT K H' p xs.tail → Q (.ref p) H'
theorem sIx_tail (n : Nat) : HT.sIx n 0 (some 1) = min 1 n ∧ HT.sIx n n none = n := by
  constructor
  · unfold HT.sIx
    simp
    try omega
  · rfl
theorem sl_tail : SlR X (rTail X.K) := by
  intro pins s σ H x v vl vu lo hi sl Q I rx hs pl pu h
  obtain ⟨a, xs, rfl, rfl, rfl, hx, q⟩ := h
  obtain ⟨e1, e2⟩ := sIx_tail xs.length
  cases xs with
  | nil => exact sl_tupW pins s σ H _ v vl vu _ _ sl Q I rx hs pl pu ⟨a, [], rfl, hx, ⟨by rw [e1]; rfl, e2⟩, q a H (fun _ _ h => h) hx⟩
  | cons y ys =>
    refine sl_tup pins s σ H _ v vl vu _ _ sl Q I rx hs pl pu ⟨a, y :: ys, rfl, hx, ?_, fun p hp => q p _ (same_upd hp _) ?_⟩
    · rw [e1, List.length_cons]
      intro z
      have := z.1
      omega
    · refine SqT.of ?_
      have : cutV (y :: ys) (some 1) none = ys := by
        unfold cutV
        rw [e1, e2, List.length_cons]
        have : min 1 (ys.length + 1) = 1 := by omega
        rw [this]
        simp
      rw [this]
      exact upd_same
end
end L2

set_option Elab.async false
set_option linter.all false
set_option maxRecDepth 100000
/-! comprehensions of truths: what each turn tells is known ahead -/
namespace L2
open PySem PySem.Spec PyProof.Rows
section
variable {K : PySem.W.Frag} {a : Addr} {xs : List V} {fr : List (Option Nat)} {g : TG} {ti : TT} {te : TE} {σ : St} {H1 : Hp} {l : Addr} {Q : VK}
theorem bl_snoc {bs : List Bool} {i : Nat} {b : Bool} (h : bs[i]? = some b) : List.map V.bl (bs.take i) ++ [V.bl b] = List.map V.bl (bs.take (i + 1)) := by
  rw [List.take_add_one, h, List.map_append]; rfl
theorem sz1000 {n : Nat} (h : n ≤ 1000) : n < sizeLine := small1000 h
/-- what a turn ends with -/
def BEnd (l : Addr) (ys : List V) (H : Hp) (b : Bool) (N : List V → Hp → Prop) : Prop := ∀ H5, Same H H5 → H5 l = some (.lst ys) ∧ ys.length < sizeLine ∧ N (ys ++ [V.bl b]) (upd H5 l (.lst (ys ++ [V.bl b])))
theorem bools_end {bs : List Bool} (hl1 : H1 l = none) (hb : bs.length ≤ 1000) {i : Nat} {b : Bool} {ys : List V} {H : Hp} (eb : bs[i]? = some b) (hP : Same H1 H ∧ H l = some (.lst ys) ∧ ys = List.map V.bl (bs.take i)) :
    BEnd l ys H b (fun zs H' => Same H1 H' ∧ H' l = some (.lst zs) ∧ zs = List.map V.bl (bs.take (i + 1))) := by
  obtain ⟨g, hl, rfl⟩ := hP
  refine fun H5 s5 => ⟨s5 _ _ hl, ?_, fun z o ho => ?_, upd_same, bl_snoc eb⟩
  · rw [List.length_map, List.length_take]
    exact sz1000 (by omega)
  · rw [upd_ne (ne_of_none ho hl1)]
    exact s5 _ _ (g _ _ ho)
theorem bools_start (hl1 : H1 l = none) {bs : List Bool} : Same H1 (upd H1 l (.lst [])) ∧ upd H1 l (.lst []) l = some (.lst []) ∧ ([] : List V) = List.map V.bl (bs.take 0) :=
  ⟨fun z o ho => by rw [upd_ne (ne_of_none ho hl1)]; exact ho, upd_same, rfl⟩
theorem comp_boolsT (bs : List Bool) (hl1 : H1 l = none) (hx : SqT K H1 a xs) (hn : xs.length = bs.length) (hb : bs.length ≤ 1000)
    (hs : ∀ (i : Nat) x b ys H N, xs[i]? = some x → bs[i]? = some b → Same H1 H → BEnd l ys H b N → CTurn fr g ti te σ l x ys H N)
    (hd : ∀ H, Same H1 H → SqL K H l (List.map V.bl bs) → Q (.ref l) H) : CGoal (Itt K a) fr g ti te σ H1 l Q := by
  refine comp_tup (xs := xs) (fun i ys H => Same H1 H ∧ H l = some (.lst ys) ∧ ys = List.map V.bl (bs.take i)) (bools_start hl1) (fun i ys H _ h => h.1.seqT hx) (fun i x ys H hxi hP => ?_) (fun ys H hP => ?_)
  · obtain ⟨hi, _⟩ := List.getElem?_eq_some_iff.mp hxi
    have eb : bs[i]? = some bs[i] := List.getElem?_eq_getElem (by omega)
    exact hs i x _ ys H _ hxi eb hP.1 (bools_end hl1 hb eb hP)
  · obtain ⟨g, hl, rfl⟩ := hP
    rw [hn, List.take_length] at hl
    exact hd H g (SqL.of hl)
theorem comp_boolsL (bs : List Bool) (hl1 : H1 l = none) (hx : SqL K H1 a xs) (hn : xs.length = bs.length) (hb : bs.length ≤ 1000)
    (hs : ∀ (i : Nat) x b ys H N, xs[i]? = some x → bs[i]? = some b → Same H1 H → BEnd l ys H b N → CTurn fr g ti te σ l x ys H N)
    (hd : ∀ H, Same H1 H → SqL K H l (List.map V.bl bs) → Q (.ref l) H) : CGoal (Itl K a) fr g ti te σ H1 l Q := by
  refine comp_list (xs := xs) (fun i ys H => Same H1 H ∧ H l = some (.lst ys) ∧ ys = List.map V.bl (bs.take i)) (bools_start hl1) (fun i ys H _ h => h.1.seq hx) (fun i x ys H hxi hP => ?_) (fun ys H hP => ?_)
  · obtain ⟨hi, _⟩ := List.getElem?_eq_some_iff.mp hxi
    have eb : bs[i]? = some bs[i] := List.getElem?_eq_getElem (by omega)
    exact hs i x _ ys H _ hxi eb hP.1 (bools_end hl1 hb eb hP)
  · obtain ⟨g, hl, rfl⟩ := hP
    rw [hn, List.take_length] at hl
    exact hd H g (SqL.of hl)
/-! the same with any values that are known ahead -/
def VEnd (l : Addr) (ys : List V) (H : Hp) (v : V) (N : List V → Hp → Prop) : Prop := ∀ H5, Same H H5 → H5 l = some (.lst ys) ∧ ys.length < sizeLine ∧ N (ys ++ [v]) (upd H5 l (.lst (ys ++ [v])))
theorem vals_end {bs : List V} (hl1 : H1 l = none) (hb : bs.length ≤ 1000) {i : Nat} {b : V} {ys : List V} {H : Hp} (eb : bs[i]? = some b) (hP : Same H1 H ∧ H l = some (.lst ys) ∧ ys = bs.take i) :
    VEnd l ys H b (fun zs H' => Same H1 H' ∧ H' l = some (.lst zs) ∧ zs = bs.take (i + 1)) := by
  obtain ⟨g, hl, rfl⟩ := hP
  refine fun H5 s5 => ⟨s5 _ _ hl, ?_, fun z o ho => ?_, upd_same, by rw [List.take_add_one, eb]; rfl⟩
  · rw [List.length_take]
    exact sz1000 (by omega)
  · rw [upd_ne (ne_of_none ho hl1)]
    exact s5 _ _ (g _ _ ho)
theorem vals_start (hl1 : H1 l = none) {bs : List V} : Same H1 (upd H1 l (.lst [])) ∧ upd H1 l (.lst []) l = some (.lst []) ∧ ([] : List V) = bs.take 0 :=
  ⟨fun z o ho => by rw [upd_ne (ne_of_none ho hl1)]; exact ho, upd_same, rfl⟩
theorem comp_valsT (bs : List V) (hl1 : H1 l = none) (hx : SqT K H1 a xs) (hn : xs.length = bs.length) (hb : bs.length ≤ 1000)
    (hs : ∀ (i : Nat) x b ys H N, xs[i]? = some x → bs[i]? = some b → Same H1 H → VEnd l ys H b N → CTurn fr g ti te σ l x ys H N)
    (hd : ∀ H, Same H1 H → H l = some (.lst bs) → Q (.ref l) H) : CGoal (Itt K a) fr g ti te σ H1 l Q := by
  refine comp_tup (xs := xs) (fun i ys H => Same H1 H ∧ H l = some (.lst ys) ∧ ys = bs.take i) (vals_start hl1) (fun i ys H _ h => h.1.seqT hx) (fun i x ys H hxi hP => ?_) (fun ys H hP => ?_)
  · obtain ⟨hi, _⟩ := List.getElem?_eq_some_iff.mp hxi
    have eb : bs[i]? = some bs[i] := List.getElem?_eq_getElem (by omega)
    exact hs i x _ ys H _ hxi eb hP.1 (vals_end hl1 hb eb hP)
  · obtain ⟨g, hl, rfl⟩ := hP
    rw [hn, List.take_length] at hl
    exact hd H g hl
theorem comp_valsL (bs : List V) (hl1 : H1 l = none) (hx : SqL K H1 a xs) (hn : xs.length = bs.length) (hb : bs.length ≤ 1000)
    (hs : ∀ (i : Nat) x b ys H N, xs[i]? = some x → bs[i]? = some b → Same H1 H → VEnd l ys H b N → CTurn fr g ti te σ l x ys H N)
    (hd : ∀ H, Same H1 H → H l = some (.lst bs) → Q (.ref l) H) : CGoal (Itl K a) fr g ti te σ H1 l Q := by
  refine comp_list (xs := xs) (fun i ys H => Same H1 H ∧ H l = some (.lst ys) ∧ ys = bs.take i) (vals_start hl1) (fun i ys H _ h => h.1.seq hx) (fun i x ys H hxi hP => ?_) (fun ys H hP => ?_)
  · obtain ⟨hi, _⟩ := List.getElem?_eq_some_iff.mp hxi
    have eb : bs[i]? = some bs[i] := List.getElem?_eq_getElem (by omega)
    exact hs i x _ ys H _ hxi eb hP.1 (vals_end hl1 hb eb hP)
  · obtain ⟨g, hl, rfl⟩ := hP
    rw [hn, List.take_length] at hl
    exact hd H g hl
end
end L2

set_option Elab.async false
set_option linter.all false
set_option maxRecDepth 100000
namespace L2
open PySem PySem.Spec PyProof.Rows
section
theorem bits200 {k : Int} (h1 : 0 ≤ k) (h2 : k < 2 ^ 200) : Builtin.Int.intBits k ≤ 2 ^ 20 := by
  unfold Builtin.Int.intBits
  split
  · exact Nat.zero_le _
  · have hn : k.natAbs < 2 ^ 200 := by omega
    have : k.natAbs.log2 < 200 := by
      rcases Nat.eq_zero_or_pos k.natAbs with h0 | hp
      · rw [h0]; decide
      · exact (Nat.log2_lt (Nat.ne_of_gt hp)).mpr hn
    omega
variable {X : Cx}
def CMulW (i j : Int) : Prop := (0 ≤ i ∧ i < 2 ^ 200) ∧ (0 ≤ j ∧ j < 2 ^ 200)
theorem op_mulW : OpR X (binaryOp .Mult) (rI CMulW fun i j => .int (i * j)) := opI fun _ _ _ _ _ _ _ hc q => mul_int q (IntMulOk.of_bits (bits200 hc.1.1 hc.1.2) (bits200 hc.2.1 hc.2.2))
/-- any slice of a tuple -/
def rSlA (K : PySem.W.Frag) : V → Option Int → Option Int → Hp → VK → Prop := fun x lo hi H Q => ∃ a xs, x = .ref a ∧ SqT K H a xs ∧ ∀ p H', Same H H' → SqT K H' p (cutV xs lo hi) → Q (.ref p) H'
theorem sl_tupA : SlR X (rSlA X.K) := by
  intro pins s σ H x v vl vu lo hi sl Q I rx hs pl pu h
  obtain ⟨a, xs, rfl, hx, q⟩ := h
  by_cases hw : HT.sIx xs.length 0 lo = 0 ∧ HT.sIx xs.length xs.length hi = xs.length
  · refine sl_tupW pins s σ H _ v vl vu _ _ sl Q I rx hs pl pu ⟨a, xs, rfl, hx, hw, q a H (fun _ _ h => h) ?_⟩
    have : cutV xs lo hi = xs := by unfold cutV; rw [hw.1, hw.2]; simp
    rw [this]; exact hx
  · exact sl_tup pins s σ H _ v vl vu _ _ sl Q I rx hs pl pu ⟨a, xs, rfl, hx, hw, fun p hp => q p _ (same_upd hp _) (SqT.of upd_same)⟩
theorem cut_to {α : Type} (f : α → V) (us : List α) (n : Nat) : cutV (us.map f) none (some (n : Int)) = (us.take n).map f := by
  unfold cutV
  rw [HT.sIx_nat, HT.sIx_none]
  simp only [List.length_map, List.drop_zero, Nat.sub_zero]
  rw [← List.map_take]
  congr 1
  rcases Nat.le_total n us.length with h | h
  · rw [Nat.min_eq_left h]
  · rw [Nat.min_eq_right h, List.take_length, List.take_of_length_le h]
theorem cut_between {α : Type} (f : α → V) (us : List α) (m n : Nat) : cutV (us.map f) (some (m : Int)) (some (n : Int)) = ((us.drop m).take (n - m)).map f := by
  unfold cutV
  rw [HT.sIx_nat, HT.sIx_nat]
  simp only [List.length_map]
  rw [← List.map_drop, ← List.map_take]
  congr 1
  rcases Nat.le_total m us.length with h | h
  · rw [Nat.min_eq_left h]
    rcases Nat.le_total n us.length with h' | h'
    · rw [Nat.min_eq_left h']
    · rw [Nat.min_eq_right h']
      rw [List.take_of_length_le (by simp), List.take_of_length_le (by simp; omega)]
  · rw [Nat.min_eq_right h]
    simp [List.drop_of_length_le h]
/-- == of tuples of texts -/
def rEqS (K : PySem.W.Frag) : R2 := fun x y H Q => ∃ (a b : Addr) (ws us : List Str), x = .ref a ∧ y = .ref b ∧ SqT K H a (ws.map V.str) ∧ SqT K H b (us.map V.str) ∧ Q (.bl (decide (ws = us))) H
theorem Vals.strs {ws : List Str} : ∀ {its : List Value}, Vals (ws.map V.str) its → its.length = ws.length ∧ ∀ (j : Nat) (h : j < its.length), ∃ t u, its[j] = .str t u ∧ ws[j]? = some t := by
  induction ws with
  | nil => intro its h; cases h; exact ⟨rfl, fun j h => by simp at h⟩
  | cons w ws ih =>
    intro its h
    cases h with
    | cons c r =>
      obtain ⟨t, rfl⟩ := c
      obtain ⟨h1, h2⟩ := ih r
      refine ⟨by simp [h1], fun j hj => ?_⟩
      cases j with
      | zero => exact ⟨w, t, rfl, rfl⟩
      | succ j =>
        obtain ⟨t', u', e1, e2⟩ := h2 j (by simpa using hj)
        exact ⟨t', u', by simpa using e1, by simpa using e2⟩
theorem eqs_all : ∀ (ws us : List Str), ((List.range (min ws.length us.length)).all (fun j => ws[j]? == us[j]?) && ws.length == us.length) = decide (ws = us) := by
  intro ws us
  rw [Bool.eq_iff_iff, Bool.and_eq_true, List.all_eq_true, beq_iff_eq, decide_eq_true_iff]
  constructor
  · rintro ⟨h, hl⟩
    apply List.ext_getElem? 
    intro j
    by_cases hj : j < ws.length
    · have := h j (by rw [List.mem_range]; omega)
      exact eq_of_beq this
    · rw [List.getElem?_eq_none (by omega), List.getElem?_eq_none (by omega)]
  · rintro rfl
    exact ⟨fun j _ => by simp, rfl⟩
theorem op_eqS (hu : X.A.units + 64 < cLine) : OpR X (compareOp .Eq) (rEqS X.K) := by
  intro pins s σ H x y v u Q I rx ry h
  obtain ⟨a, b, ws, us, rfl, rfl, h1, h2, q⟩ := h
  cases rx
  cases ry
  obtain ⟨its, rv, ht, _⟩ := I.tuple h1
  obtain ⟨its2, rv2, ht2, _⟩ := I.tuple h2
  obtain ⟨l1, g1⟩ := rv.strs
  obtain ⟨l2, g2⟩ := rv2.strs
  refine PySem.SeqAt.eq_tupleAt (e := fun j => ws[j]? == us[j]?) ht ht2 (by omega) (fun j h1 h2 => ?_) ⟨.bl _, H, I, rfl, ?_⟩
  · obtain ⟨t, u, e1, w1⟩ := g1 j (by simpa using h1)
    obtain ⟨t2, u2, e2, w2⟩ := g2 j (by simpa using h2)
    have e : (ws[j]? == us[j]?) = (t == t2) := by rw [w1, w2, Bool.eq_iff_iff]; simp
    show PySem.SeqAt.EqAt _ _ its.toArray[j] its2.toArray[j] (ws[j]? == us[j]?)
    rw [e, List.getElem_toArray, List.getElem_toArray, e1, e2]
    exact PySem.SeqAt.EqAt.str_str t u t2 u2
  · have e : ((List.range (min its.toArray.size its2.toArray.size)).all (fun j => ws[j]? == us[j]?) && its.toArray.size == its2.toArray.size) = decide (ws = us) := by
      rw [List.size_toArray, List.size_toArray, l1, l2]; exact eqs_all ws us
    rw [e]
    exact q
/-- a list != [] -/
def rNeE (K : PySem.W.Frag) : R2 := fun x y H Q => ∃ a b xs, x = .ref a ∧ y = .ref b ∧ H a = some (.lst xs) ∧ H b = some (.lst []) ∧ Q (.bl (!decide (xs.length = 0))) H
end
end L2

set_option Elab.async false
set_option linter.all false
set_option maxRecDepth 100000
namespace L2
open PySem PySem.Spec PyProof.Rows
section
variable {X : Cx}
theorem op_neE (hu : X.A.units + 64 < cLine) : OpR X (compareOp .NotEq) (rNeE X.K) := by
  intro pins s σ H x y v u Q I rx ry h
  obtain ⟨a, b, xs, rfl, rfl, ha, hb, q⟩ := h
  cases rx
  cases ry
  obtain ⟨its, rv, p, _⟩ := I.list (SqL.of ha)
  obtain ⟨its2, rv2, p2, _⟩ := I.list (SqL.of hb)
  cases rv2
  have hl := rv.length
  cases xs with
  | nil =>
    cases rv
    exact PySem.SeqAt.RcNeAt.lists (e := fun _ => true) p.isList p2.isList rfl (by omega) (fun j h1 h2 => by simp at h1) _ _ _ _ ⟨.bl _, H, I, rfl, q⟩
  | cons z zs =>
    refine PySem.SeqAt.RcNeAt.lists_lengths p.isList p2.isList ?_ (by omega) _ _ _ _ ⟨.bl _, H, I, rfl, ?_⟩
    · rw [List.size_toArray, ← hl]; simp
    · have e : (!decide ((z :: zs).length = 0)) = true := by simp
      rw [e] at q
      exact q
/-- xs.extend(t) -/
theorem list_extend_tup (l b : Addr) (its its2 : Array Value) (n n2 : Nat) (dd2 : Option Addr) (sl2 : Array (Option Value)) (h0 : ¬ (!its.isEmpty && Builtin.List.listTooLong (its.size + its2.size)) = true) (h1 : its.size ≤ sizeLine) (h2 : its.size + its2.size ≤ sizeLine + 1) :
    Meets (Builtin.«list.extend» ⟨[.ref l, .ref b], []⟩) (fun _ R s => s.heap.get? l = some { cls := .type "list", dict := none, data := .seq its n, slots := #[] } ∧ s.heap.get? b = some { cls := .type "tuple", dict := dd2, data := .seq its2 n2, slots := sl2 }
      ∧ R (.ok (.ret Value.none)) { s with heap := s.heap.update l (Obj.mapSeq fun x => x ++ its2), toks := s.toks }) := by
  refine .of_wp fun prog w A R s h => ?_
  obtain ⟨hp, g, d, tk, os⟩ := s
  obtain ⟨hl, hb, h⟩ := h
  have f1 := AutoSeq1.idx_int
  have f2 := AutoSeq1.sub_tuple_tuple
  have f3 := AutoSeq1.sub_list_list
  have f4 := AutoSeq1.sub_tuple_list
  have f5 := AutoSeq1.sub_list_tuple
  have hz : (its ++ its2).size ≤ sizeLine + 1 := by rw [Array.size_append]; exact h2
  wp_walk using (wpAny_updateSeq hl rfl (hz := h1) (_hz' := hz)), wpAny_loadPart' hl, wpAny_loadPart' hb
  exact ⟨_, rfl, h⟩
def rExtT (K : PySem.W.Frag) : V → List V → Hp → VK → Prop := fun x vs H Q => ∃ l b xs zs, x = .ref l ∧ vs = [.ref b] ∧ H l = some (.lst xs) ∧ SqT K H b zs ∧ xs.length + zs.length ≤ sizeLine ∧ Q .non (upd H l (.lst (xs ++ zs)))
theorem mt_extT : MtM X "list.extend" (rExtT X.K) := by
  intro pins s σ H x vs v us Q I rx rv h
  obtain ⟨l, b, xs, zs, rfl, rfl, hH, hB, hz, q⟩ := h
  cases rx
  obtain ⟨u, rfl, ru⟩ := rv.one
  cases ru
  obtain ⟨z, its, n, r, hl, e⟩ := I.lstM hH
  obtain ⟨its2, r2, pt, _⟩ := I.tuple hB
  obtain ⟨⟨cls2, dd2, data2, sl2⟩, ho2, hc2, n2, hd2⟩ := id pt
  simp only at hc2 hd2
  subst hc2 hd2
  have hl2 := r2.length
  have hsz : its.toArray.size + its2.toArray.size ≤ sizeLine := by rw [List.size_toArray, List.size_toArray]; omega
  have hlong : ¬ (!its.toArray.isEmpty && Builtin.List.listTooLong (its.toArray.size + its2.toArray.size)) = true := by
    rw [notLongL hsz, Bool.and_false]
    exact Bool.false_ne_true
  refine call_meets F.slot_list_extend ⟨_, e, rfl⟩ F.entry_list_extend (F.args_list_extend_2 _ _)
    (list_extend_tup l b its.toArray its2.toArray n n2 dd2 sl2 hlong (by rw [List.size_toArray]; omega) (by omega)) ⟨e, ho2, ?_⟩
  refine ⟨.non, _, I.lset (its' := its ++ its2) hH e (by simp) (r.append r2) ?_, rfl, q⟩
  rw [List.length_append]
  omega
end
end L2

set_option Elab.async false
set_option linter.all false
set_option maxRecDepth 100000
/-! d.items() walked, its keys tuples -/
namespace L2
open PySem PySem.Spec PyProof.Rows
section
variable {prog : Program} {w : World} {A : Around} {E : Value → Shared → Prop} {s : Shared}
theorem wp_alive {M : Model} {a : Addr} {Q : Option Obj → Shared → Prop} (h : Q (s.heap.get? a) s) : wpAny M A (loadIfAlive a) Q E s := by
  intro Γ p hΓ
  show Sem.wp M Γ (Sem.loadIfAlive a Sem.pure) _ _ p s
  rw [Sem.wp_loadIfAlive]
  exact (wpAny_pure (M := M) (A := A) (E := E) (s := s) (Q := Q) (a := s.heap.get? a) h) Γ p hΓ
/-- the iterator's object -/
def itObj (d : Addr) (i n ep : Nat) (f0 f1 k0 v0 : Value) : Obj := { cls := .type "dict_itemiterator", data := .fields #[f0, f1, .ref d, .int (i : Int) 0, .int (n : Int) 0, .int (ep : Int) 0, k0, v0] }
theorem upd_it {h : Heap} {it d : Addr} {i n ep : Nat} {f0 f1 k0 v0 : Value} (F : Obj → Obj) {i' n' : Nat} {f0' f1' k0' v0' : Value} (e : F (itObj d i n ep f0 f1 k0 v0) = itObj d i' n' ep f0' f1' k0' v0') (hi : h.get? it = some (itObj d i n ep f0 f1 k0 v0)) : (h.update it F).get? it = some (itObj d i' n' ep f0' f1' k0' v0') := by
  rw [Heap.get?_update_self F hi (by rw [e]; rfl), e]
theorem set_it {M : Model} {h : Heap} {it d : Addr} {i n ep : Nat} {f0 f1 k0 v0 x : Value} {j : Nat} (f0' f1' k0' v0' : Value) {Q : Unit → Shared → Prop} (hi : h.get? it = some (itObj d i n ep f0 f1 k0 v0)) (hj : j < 8)
    (e : Obj.mapFields (fun y => y.setIfInBounds j x) (itObj d i n ep f0 f1 k0 v0) = itObj d i n ep f0' f1' k0' v0')
    (q : ∀ h', h'.get? it = some (itObj d i n ep f0' f1' k0' v0') → Heap.SameBut it h h' → Q () { s with heap := h' }) : wpAny M A (setField (.ref it) j x) Q E { s with heap := h } :=
  wpAny_setField hi rfl (by show j < 8; exact hj) (q _ (upd_it _ e hi) (Heap.SameBut.update h it _))
theorem sb_trans {a : Addr} {h h1 h2 : Heap} (x : Heap.SameBut a h h1) (y : Heap.SameBut a h1 h2) : Heap.SameBut a h h2 := ⟨y.1.trans x.1, fun b hb => (y.2 b hb).trans (x.2 b hb)⟩
def IsIt (h : Heap) (it d : Addr) (i n ep : Nat) : Prop := ∃ f0 f1 k0 v0, h.get? it = some (itObj d i n ep f0 f1 k0 v0) ∧ (f0 = .none ∨ ∃ a t, f0 = .int a t)
theorem next_item {it d : Addr} {o : Obj} {es : Array DictEntry} {ep i : Nat} {e : DictEntry} {Q : Option Value → Shared → Prop} (hit : IsIt s.heap it d i es.size ep) (hd : s.heap.get? d = some o) (hdd : o.data = .dict es ep) (he : es[i]? = some e)
    (h : ∀ h', IsIt h' it d (i + 1) es.size ep → h'.get? s.heap.objs.size = some { cls := .type "tuple", data := .seq #[e.key, e.val] } → h'.objs.size = s.heap.objs.size + 1 →
      (∀ b o, b ≠ it → s.heap.get? b = some o → h'.get? b = some o) → Q (some (.ref s.heap.objs.size)) { s with heap := h' }) : wpAny (model prog w) A (pyNext (.ref it)) Q E s := by
  obtain ⟨f0, f1, k0, v0, hi, hf⟩ := hit
  have hT : s.TypeIs (.ref it) "dict_itemiterator" := ⟨_, hi, rfl⟩
  unfold pyNext
  refine wpAny_bind (wpAny_attempt (wpAny_callSpecial?_slot hT PySem.F.slot_dict_itemiterator_next (wpAny_call_entry PySem.F.slot_dict_itemiterator_next hT PySem.F.entry_dict_itemiterator_next ?_ (PySem.F.args_dict_itemiterator_next_1 _))))
  unfold Builtin.«dict_itemiterator.__next__»
  refine wpAny_bind ?_
  unfold Builtin.Dict_items.slot0
  refine wpAny_bind (wpAny_pure (wpAny_pure ?_))
  refine wpAny_bind (wpAny_bind (wpAny_bind (wpAny_typeNameOfWhole_itemiter hT (wpAny_pure ?_))))
  refine wpAny_bind (wpAny_fieldsOf hi rfl ?_)
  show wpAny _ _ (if (Value.ref d == Value.none) = true then _ else _) _ _ s
  rw [if_neg (by simp)]
  refine wpAny_bind (wpAny_pure (wpAny_bind (wpAny_dictEntries hd hdd ?_)))
  dsimp only
  rw [if_neg (by simp)]
  refine wpAny_bind (wpAny_pure (wpAny_bind (wpAny_dictEpoch hd hdd ?_)))
  rw [if_neg (by simp)]
  refine wpAny_pure ?_
  have hlt : ¬ ((i : Int) < 0) := by omega
  show wpAny _ _ (match (if (i : Int) < 0 then none else es[(i : Int).toNat]?) with | some e => _ | none => _) _ _ s
  rw [if_neg hlt, Int.toNat_natCast, he]
  refine wpAny_bind (wpAny_bind (wpAny_typeNameOfWhole_itemiter hT (wpAny_pure ?_)))
  refine wpAny_bind (wpAny_isOneOf_itemiter hT ?_)
  refine wpAny_bind (wpAny_setField hi rfl (by show 3 < 8; decide) ?_)
  generalize hF : (Obj.mapFields fun x : Array Value => _) = F
  have eF : F (itObj d i es.size ep f0 f1 k0 v0) = itObj d (i + 1) es.size ep f0 f1 k0 v0 := by rw [← hF]; rfl
  have hA := upd_it F eF hi
  have sA := Heap.SameBut.update s.heap it F
  generalize s.heap.update it F = h1 at hA sA
  clear hF eF
  have hT1 : ({ s with heap := h1 } : Shared).TypeIs (.ref it) "dict_itemiterator" := ⟨_, hA, rfl⟩
  have hlt1 : it < h1.objs.size := Heap.lt_size hA
  refine wpAny_bind (wpAny_holding (wpAny_bind (wpAny_isOneOf_itemiter hT1 ?_)))
  rw [if_neg (by decide)]
  refine wpAny_bind (wpAny_isOneOf_itemiter hT1 ?_)
  rw [if_neg (by decide)]
  unfold Builtin.Dict_items.pairFromOwner
  refine wpAny_bind (wpAny_newTuple ?_ (by show 2 ≤ sizeLine; decide))
  have hB : (h1.push { cls := .type "tuple", data := .seq [e.key, e.val].toArray }).get? it = some (itObj d (i + 1) es.size ep f0 f1 k0 v0) := Heap.get?_push_of_some _ hA
  have tB : (h1.push { cls := .type "tuple", data := .seq [e.key, e.val].toArray }).get? h1.objs.size = some { cls := .type "tuple", data := .seq #[e.key, e.val] } := Heap.get?_push_size _ rfl
  have zB : (h1.push { cls := .type "tuple", data := .seq [e.key, e.val].toArray }).objs.size = s.heap.objs.size + 1 := by rw [size_push', sA.1]
  have kB : ∀ b o, b ≠ it → s.heap.get? b = some o → (h1.push { cls := .type "tuple", data := .seq [e.key, e.val].toArray }).get? b = some o := fun b o hb q => Heap.get?_push_of_some _ ((sA.2 b hb).trans q)
  have hlt2 : it ≠ h1.objs.size := Nat.ne_of_lt hlt1
  generalize h1.push { cls := .type "tuple", data := .seq [e.key, e.val].toArray } = h2 at hB tB zB kB
  rw [sA.1] at tB hlt2 ⊢
  clear hT hT1 hA sA hlt1
  -- the pair is new in any case
  unfold Builtin.Dict_items.ownedTupleIsFree
  have fin : ∀ h3 : Heap, IsIt h3 it d (i + 1) es.size ep → Heap.SameBut it h2 h3 → Q (some (.ref s.heap.objs.size)) { s with heap := h3 } := fun h3 x sb =>
    h h3 x ((sb.2 _ (Ne.symm hlt2)).trans tB) (sb.1.trans zB) fun b o hb q => (sb.2 b hb).trans (kB b o hb q)
  have no : ∀ h3 : Heap, IsIt h3 it d (i + 1) es.size ep → Heap.SameBut it h2 h3 → wpAny (model prog w) A.in1 (pure (Value.ref s.heap.objs.size)) (fun a s' => wpAny (model prog w) A.in1 (ret a) (fun fin s' => ∃ v, fin = Fin.done (Flow.ret v) ∧ wpAny (model prog w) A (pure (some v)) Q E s')
      (fun e s' => wpAny (model prog w) A (do
          let __do_lift ← isInstance e (Value.type "StopIteration")
          if __do_lift = true then pure none else throw e) Q E s') s') (fun e s' => wpAny (model prog w) A (do
          let __do_lift ← isInstance e (Value.type "StopIteration")
          if __do_lift = true then pure none else throw e) Q E s') { s with heap := h3 } := fun h3 x sb => wpAny_pure (wpAny_pure ⟨_, rfl, wpAny_pure (fin h3 x sb)⟩)
  have yes : ∀ (f0 : Value), h2.get? it = some (itObj d (i + 1) es.size ep f0 f1 k0 v0) → wpAny (model prog w) A.in1 (do
            let __do_lift ← field (Value.ref it) 6
            let __do_lift_1 ← field (Value.ref it) (6 + 1)
            have old : List Value := [__do_lift, __do_lift_1]
            setField (Value.ref it) 6 e.key
            setField (Value.ref it) (6 + 1) e.val
            setField (Value.ref it) 0 (rawInt ↑s.heap.objs.size)
            setField (Value.ref it) 1 (Value.bool false)
            let __r ← letGo old [Value.ref s.heap.objs.size]
            pure (Value.ref s.heap.objs.size)) (fun a s' => wpAny (model prog w) A.in1 (ret a) (fun fin s' => ∃ v, fin = Fin.done (Flow.ret v) ∧ wpAny (model prog w) A (pure (some v)) Q E s')
      (fun e s' => wpAny (model prog w) A (do
          let __do_lift ← isInstance e (Value.type "StopIteration")
          if __do_lift = true then pure none else throw e) Q E s') s') (fun e s' => wpAny (model prog w) A (do
          let __do_lift ← isInstance e (Value.type "StopIteration")
          if __do_lift = true then pure none else throw e) Q E s') { s with heap := h2 } := fun f0 hB => by
    refine wpAny_bind (wpAny_field hB rfl rfl (wpAny_bind (wpAny_field hB rfl rfl ?_)))
    refine wpAny_bind (set_it f0 f1 e.key v0 hB (by decide) rfl fun h3 e3 s3 => ?_)
    refine wpAny_bind (set_it f0 f1 e.key e.val e3 (by decide) rfl fun h4 e4 s4 => ?_)
    refine wpAny_bind (set_it (rawInt ↑s.heap.objs.size) f1 e.key e.val e4 (by decide) rfl fun h5 e5 s5 => ?_)
    refine wpAny_bind (set_it (rawInt ↑s.heap.objs.size) (.bool false) e.key e.val e5 (by decide) rfl fun h6 e6 s6 => ?_)
    exact wpAny_bind (wpAny_letGo (no h6 ⟨_, _, _, _, e6, .inr ⟨_, _, rfl⟩⟩ (sb_trans (sb_trans (sb_trans s3 s4) s5) s6)))
  refine wpAny_bind (wpAny_bind (wpAny_field hB rfl rfl ?_))
  rcases hf with rfl | ⟨a, t, rfl⟩
  · refine wpAny_pure ?_
    show wpAny _ _ (if true = true then _ else _) _ _ _
    rw [if_pos rfl]
    exact yes _ hB
  · refine wpAny_bind (wp_alive ?_)
    cases h2.get? a.toNat with
    | none =>
      show wpAny _ _ (if true = true then _ else _) _ _ _
      rw [if_pos rfl]
      refine wpAny_pure ?_
      show wpAny _ _ (if true = true then _ else _) _ _ _
      rw [if_pos rfl]
      exact yes _ hB
    | some ob =>
      show wpAny _ _ (if false = true then _ else _) _ _ _
      rw [if_neg (by decide)]
      refine wpAny_bind (wpAny_field hB rfl rfl ?_)
      split
      · refine wpAny_bind (set_it (.int a t) (.bool true) k0 v0 hB (by decide) rfl fun h3 e3 s3 => ?_)
        refine wpAny_pure ?_
        show wpAny _ _ (if false = true then _ else _) _ _ _
        rw [if_neg (by decide)]
        exact no h3 ⟨_, _, _, _, e3, .inr ⟨_, _, rfl⟩⟩ s3
      · refine wpAny_pure ?_
        show wpAny _ _ (if false = true then _ else _) _ _ _
        rw [if_neg (by decide)]
        exact no h2 ⟨_, _, _, _, hB, .inr ⟨_, _, rfl⟩⟩ ⟨rfl, fun _ _ => rfl⟩
theorem first_stop : firstArgMember (.type "StopIteration") [] = pure Value.none := by kernel_rfl
theorem sub_stop : isSubtype (.type "StopIteration") (.type "StopIteration") = pure true := by kernel_rfl
theorem next_end {it d : Addr} {o : Obj} {es : Array DictEntry} {ep i : Nat} {Q : Option Value → Shared → Prop} (hA : A.handled = none) (hit : IsIt s.heap it d i es.size ep) (hd : s.heap.get? d = some o) (hdd : o.data = .dict es ep) (he : es.size ≤ i)
    (h : ∀ h', (∀ b o, b ≠ it → s.heap.get? b = some o → h'.get? b = some o) → Q none { s with heap := h' }) : wpAny (model prog w) A (pyNext (.ref it)) Q E s := by
  obtain ⟨f0, f1, k0, v0, hi, hf⟩ := hit
  have hT : s.TypeIs (.ref it) "dict_itemiterator" := ⟨_, hi, rfl⟩
  unfold pyNext
  refine wpAny_bind (wpAny_attempt (wpAny_callSpecial?_slot hT PySem.F.slot_dict_itemiterator_next (wpAny_call_entry PySem.F.slot_dict_itemiterator_next hT PySem.F.entry_dict_itemiterator_next ?_ (PySem.F.args_dict_itemiterator_next_1 _))))
  unfold Builtin.«dict_itemiterator.__next__»
  refine wpAny_bind ?_
  unfold Builtin.Dict_items.slot0
  refine wpAny_bind (wpAny_pure (wpAny_pure ?_))
  refine wpAny_bind (wpAny_bind (wpAny_bind (wpAny_typeNameOfWhole_itemiter hT (wpAny_pure ?_))))
  refine wpAny_bind (wpAny_fieldsOf hi rfl ?_)
  show wpAny _ _ (if (Value.ref d == Value.none) = true then _ else _) _ _ s
  rw [if_neg (by simp)]
  refine wpAny_bind (wpAny_pure (wpAny_bind (wpAny_dictEntries hd hdd ?_)))
  dsimp only
  rw [if_neg (by simp)]
  refine wpAny_bind (wpAny_pure (wpAny_bind (wpAny_dictEpoch hd hdd ?_)))
  rw [if_neg (by simp)]
  refine wpAny_pure ?_
  have hlt : ¬ ((i : Int) < 0) := by omega
  show wpAny _ _ (match (if (i : Int) < 0 then none else es[(i : Int).toNat]?) with | some e => _ | none => _) _ _ s
  rw [if_neg hlt, Int.toNat_natCast, Array.getElem?_eq_none he]
  refine wpAny_bind (wpAny_bind (wpAny_typeNameOfWhole_itemiter hT (wpAny_pure ?_)))
  refine wpAny_bind (wpAny_setField hi rfl (by show 2 < 8; decide) ?_)
  generalize hF : (Obj.mapFields fun x : Array Value => _) = F
  have sA := Heap.SameBut.update s.heap it F
  generalize s.heap.update it F = h1 at sA
  clear hF
  refine wpAny_bind ?_
  unfold newExc
  refine wpAny_bind (wpAny_newTuple ?_ (Nat.zero_le _))
  rw [first_stop]
  refine wpAny_bind (wpAny_pure (wpAny_newObj_type ?_ (by show (6 : Nat) ≤ sizeLine + 2; decide)))
  refine wpAny_raiseNew_none (by simpa using hA) ?_
  generalize hh2 : (h1.push _) = h2
  have k2 : ∀ b o, b ≠ it → s.heap.get? b = some o → h2.get? b = some o := fun b o hb q => by rw [← hh2]; exact Heap.get?_push_of_some _ ((sA.2 b hb).trans q)
  refine wpAny_bind (wpAny_isInstance (T := "StopIteration") ⟨_, Heap.get?_push_size _ rfl, rfl⟩ sub_stop ?_)
  rw [if_pos rfl]
  exact wpAny_pure (h _ fun b o hb q => Heap.get?_push_of_some _ (k2 b o hb q))
/-- iter(d.items()) -/
theorem iter_items {v d : Addr} {o : Obj} {es : Array DictEntry} {ep : Nat} {Q : Value → Shared → Prop} (hv : s.heap.IsItemsView v d) (hd : s.heap.get? d = some o) (hdd : o.data = .dict es ep)
    (h : Q (.ref s.heap.objs.size) { s with heap := s.heap.push (itObj d 0 es.size ep .none (.bool false) .none .none) }) : wpAny (model prog w) A (pyIter (.ref v)) Q E s := by
  obtain ⟨ov, ho, hc, hdat⟩ := hv
  have hT : s.TypeIs (.ref v) "dict_items" := ⟨ov, ho, hc⟩
  refine wpAny_pyIter_slot hT PySem.F.slot_dict_items_iter (wpAny_call_entry PySem.F.slot_dict_items_iter hT PySem.F.entry_dict_items_iter ?_ (PySem.F.args_dict_items_iter_1 _))
  unfold Builtin.«dict_items.__iter__»
  refine wpAny_bind ?_
  unfold Builtin.Dict_items.slot0
  refine wpAny_bind (wpAny_pure (wpAny_pure ?_))
  refine wpAny_bind (wpAny_bind (wpAny_field ho hdat rfl (wpAny_pure ?_)))
  refine wpAny_bind (wpAny_bind (wpAny_dictEntries hd hdd (wpAny_bind (wpAny_dictEpoch hd hdd (wpAny_newObj_type ?_ (by show (8 : Nat) ≤ sizeLine + 2; decide))))))
  exact wpAny_pure ⟨_, rfl, "dict_itemiterator", _, ⟨_, Heap.get?_push_size _ rfl, rfl⟩, PySem.F.slot_dict_itemiterator_next.lookup, h⟩
theorem split_items : splitId "dict_items.__len__" = some ("dict_items", "__len__") := by decide +kernel
theorem sub_items : isSubtype (.type "dict_items") (.type "dict_items") = pure true := by kernel_rfl
theorem hint_items {v d : Addr} {Q : Bool → Shared → Prop} (hv : s.heap.IsItemsView v d) (h : Q false s) : wpAny (model prog w) A (Builtin.List.listLengthHint (.ref v)) Q E s := by
  obtain ⟨ov, ho, hc, hdat⟩ := hv
  have hT : s.TypeIs (.ref v) "dict_items" := ⟨ov, ho, hc⟩
  unfold Builtin.List.listLengthHint
  refine wpAny_bind (wpAny_specialOf hT PySem.F.slot_dict_items_len.lookup ?_)
  simp only [split_items]
  refine wpAny_bind (wpAny_isInstance hT sub_items ?_)
  rw [if_neg (by decide)]
  rw [if_pos (by decide +kernel)]
  exact wpAny_bind (wpAny_typeOf hT (wpAny_pure h))
end
theorem pair_get {α β : Type} {F : α → β → Prop} : ∀ {xs : List α} {ys : List β} {i : Nat} {x : α}, Paired F xs ys → xs[i]? = some x → ∃ y, ys[i]? = some y ∧ F x y
  | _, _, _, _, .nil, e => by simp at e
  | _, _, 0, _, .cons r _, e => by simp at e; subst e; exact ⟨_, rfl, r⟩
  | _, _, i + 1, x, .cons _ t, e => by
    obtain ⟨u, h1, h2⟩ := pair_get (i := i) (x := x) t (by simpa using e)
    exact ⟨u, by simpa using h1, h2⟩
/-- a pair of a dict's items -/
def PrI (H : Hp) (v : V) (p : List Key × V) : Prop := ∃ c b, v = .ref c ∧ H c = some (.tup [.ref b, p.2]) ∧ H b = some (.tup (p.1.map kV))
theorem PrI.same {H H' : Hp} {v : V} {p : List Key × V} (g : Same H H') (h : PrI H v p) : PrI H' v p := by
  obtain ⟨c, b, e, h1, h2⟩ := h
  exact ⟨c, b, e, g _ _ h1, g _ _ h2⟩
section
variable {X : Cx} {pins : List (Addr × Obj)} {σ : St}
theorem fp_upd {H : Hp} {b N : Addr} {o : HO} (f : FpOk X pins H b) (n : b ≠ N) : FpOk X pins (upd H N o) b := by
  obtain ⟨f0, r⟩ := f
  exact ⟨by rw [upd_ne n]; exact f0, r⟩
theorem loop_items {A : Around} {it d S : Addr} {o : Obj} {es : Array DictEntry} {ep : Nat} {res : Value} {R : Result → Shared → Prop} {H0 : Hp} {kvs : List (List Key × V)} {xs : List (List Key × Addr × Value)} (hA : A.handled = none) (hz : es.size ≤ 1000) (hne : it ≠ S)
    (rel : KT H0 kvs xs) (hes : es.toList = xs.map (entryOfKey (tupleKind (mixKind X.prog X.w)))) (hdd : o.data = .dict es ep) (hd0 : ∃ u, H0 d = some u) :
    ∀ (k i : Nat) (s : Shared) (H : Hp) (acc : List Value) (c : Nat) (out : List V), es.size - i = k → i ≤ es.size → Inv X pins σ H s → Same H0 H → FpOk X pins H it → FpOk X pins H S → IsIt s.heap it d i es.size ep → s.heap.get? d = some o →
      s.heap.get? S = some { cls := .type "list", data := .seq acc.toArray c } → Vals out acc → Paired (PrI H) out (kvs.take i) →
      (∀ (s' : Shared) (H' : Hp) (acc' : List Value) (c' : Nat) (out' : List V), Inv X pins σ H' s' → Same H0 H' → s'.heap.get? S = some { cls := .type "list", data := .seq acc'.toArray c' } → Vals out' acc' → Paired (PrI H') out' kvs → R (.ok (.ret res)) s') →
      codeAny (model X.prog X.w) A (.builtin "list.extend.loop" ⟨[.ref S, .ref it, res], []⟩) R s := by
  have hlen : kvs.length = es.size := by rw [Paired.length rel, ← List.length_map (f := entryOfKey (tupleKind (mixKind X.prog X.w))), ← hes, Array.length_toList]
  intro k
  induction k with
  | zero =>
    intro i s H acc c out hk hi I g0 fi fS hit hd hSl hv hP hR
    have hin : i = es.size := by omega
    subst hin
    refine codeAny_builtin PySem.F.entry_extend_loop ?_
    rw [Around.under_plainId PySem.F.plain_extend_loop _]
    show wpAny _ A.in1 (pyNext (.ref it) >>= _) _ _ s
    refine wpAny_bind (next_end (by simpa using hA) hit hd hdd (Nat.le_refl _) fun h' kp => ?_)
    obtain ⟨f0, f1, f2, f3, f4, f5⟩ := fi
    have I' : Inv X pins σ H { s with heap := h' } := I.turned (t' := s.toks) (fun b o hb e => kp b o hb e) f0 f1 f3 f4 f5
    rw [List.take_of_length_le (by omega)] at hP
    exact wpAny_pure (hR _ H acc c out I' g0 (kp S _ (Ne.symm hne) hSl) hv hP)
  | succ k ih =>
    intro i s H acc c out hk hi I g0 fi fS hit hd hSl hv hP hR
    have hlt : i < es.size := by omega
    refine codeAny_builtin PySem.F.entry_extend_loop ?_
    rw [Around.under_plainId PySem.F.plain_extend_loop _]
    show wpAny _ A.in1 (pyNext (.ref it) >>= _) _ _ s
    refine wpAny_bind (next_item hit hd hdd (Array.getElem?_eq_getElem hlt) fun h' hit' ht hsz' kp => ?_)
    have hSl' := kp S _ (Ne.symm hne) hSl
    have hal : acc.length = i := by
      have h1 := hv.length
      have h2 := Paired.length hP
      rw [List.length_take] at h2
      omega
    refine wpAny_bind (listUpdate_at hSl' rfl ?_ (by rw [List.size_toArray, sizeLine_eq]; omega) (by rw [Array.size_push, List.size_toArray, sizeLine_eq]; omega))
    have hS2 := get?_update_seq (h := h') (a := S) (c := "list") (xs := acc.toArray) (n := c) hSl' (fun x => x.push (.ref s.heap.objs.size))
    have sb := Heap.SameBut.update h' S (Obj.mapSeq fun x => x.push (.ref s.heap.objs.size))
    generalize h'.update S (Obj.mapSeq fun x => x.push (.ref s.heap.objs.size)) = h2 at hS2 sb
    generalize (if ((acc.toArray.push (Value.ref s.heap.objs.size)).size == acc.toArray.size) = true then c else c + 1) = c2 at hS2
    -- the entry
    obtain ⟨x, hx⟩ : ∃ x, xs[i]? = some x := ⟨_, List.getElem?_eq_getElem (by rw [← Paired.length rel]; omega)⟩
    obtain ⟨p, hp, e1, e2, e3⟩ : ∃ p, kvs[i]? = some p ∧ p.1 = x.1 ∧ H0 x.2.1 = some (.tup (p.1.map kV)) ∧ RelV p.2 x.2.2 := by
      have hki : i < kvs.length := by omega
      refine ⟨kvs[i], List.getElem?_eq_getElem hki, ?_⟩
      obtain ⟨y, hy, r⟩ := pair_get rel (List.getElem?_eq_getElem hki)
      rw [hx] at hy
      cases hy
      exact r
    have hei : es[i] = entryOfKey (tupleKind (mixKind X.prog X.w)) x := by
      have : es.toList[i]? = some (entryOfKey (tupleKind (mixKind X.prog X.w)) x) := by rw [hes, List.getElem?_map, hx]; rfl
      rw [Array.getElem?_toList, Array.getElem?_eq_getElem hlt] at this
      exact Option.some.inj this
    have nS : s.heap.objs.size ≠ S := Nat.ne_of_gt (Heap.lt_size hSl)
    have ni : s.heap.objs.size ≠ it := by obtain ⟨_, _, _, _, q, _⟩ := hit; exact Nat.ne_of_gt (Heap.lt_size q)
    have kk : ∀ b o, b ∉ [it, S] → s.heap.get? b = some o → h2.get? b = some o := fun b o hb q => by
      simp only [List.mem_cons, List.not_mem_nil, or_false, not_or] at hb
      exact (sb.2 b hb.2).trans (kp b o hb.1 q)
    have ff : ∀ b ∈ [it, S], FpOk X pins H b := fun b hb => by
      simp only [List.mem_cons, List.not_mem_nil, or_false] at hb
      rcases hb with rfl | rfl
      · exact fi
      · exact fS
    have I2 : Inv X pins σ (upd H s.heap.objs.size (.tup [.ref x.2.1, p.2])) { s with heap := h2, toks := s.toks } := I.turnedN (t' := s.toks) (ch := [it, S]) (us := [.ref x.2.1, x.2.2]) ff kk (Nat.le_refl _) (by show 2 ≤ sizeLine; decide) (.cons rfl (.cons e3 .nil))
      ⟨_, (sb.2 _ nS).trans ht, rfl, _, by rw [hei]; rfl⟩
    have hN := I.hok.fresh (Nat.le_refl s.heap.objs.size)
    have gN : Same H (upd H s.heap.objs.size (.tup [.ref x.2.1, p.2])) := fun b u q => by rw [upd_ne (ne_of_none q hN)]; exact q
    obtain ⟨u0, hu0⟩ := hd0
    have hdi : d ∉ [it, S] := fun hb => by
      have := (ff d hb).1
      rw [g0 _ _ hu0] at this
      cases this
    refine wpAny_pure ⟨plainId_quiet PySem.F.plain_extend_loop _, ih (i + 1) _ (upd H s.heap.objs.size (.tup [.ref x.2.1, p.2])) (acc ++ [.ref s.heap.objs.size]) c2 (out ++ [.ref s.heap.objs.size]) (by omega) hlt I2 (fun b u q => gN _ _ (g0 _ _ q)) (fp_upd fi (Ne.symm ni)) (fp_upd fS (Ne.symm nS)) ?_ (kk d _ hdi hd) ?_ ?_ ?_ ?_⟩
    · obtain ⟨f0, f1, k0, v0, q, hf⟩ := hit'
      exact ⟨f0, f1, k0, v0, (sb.2 it hne).trans q, hf⟩
    · rw [← List.push_toArray]; exact hS2
    · exact Paired.snoc hv rfl
    · rw [List.take_add_one, hp]
      exact Paired.snoc (Paired.mapP hP fun _ _ z => z.same gN) ⟨_, x.2.1, rfl, upd_same, gN _ _ (g0 _ _ e2)⟩
    · intro s' H' acc' c' out' I' g' hS' hv' hP'
      exact hR s' H' acc' c' out' I' g' hS' hv' hP'
/-- the view d.items() -/
def ItemsV (d v : Addr) : HO := .ext fun h => h.IsItemsView v d
theorem view_of {H : Hp} {s : Shared} {d v : Addr} (I : Inv X pins σ H s) (h : H v = some (ItemsV d v)) : s.heap.IsItemsView v d := (show ObjOk X.prog X.w H s.heap v (ItemsV d v) from I.hok v _ h).1
theorem coll_items {A : Around} {E : Value → Shared → Prop} {s : Shared} {H : Hp} {d v : Addr} {kvs : List (List Key × V)} {Q : List Value → Shared → Prop} (hA : A.handled = none) (I : Inv X pins σ H s) (hv : H v = some (ItemsV d v)) (hd : H d = some (.dT kvs)) (hz : kvs.length ≤ 1000)
    (h : ∀ (s' : Shared) (H' : Hp) (acc : List Value) (out : List V), Inv X pins σ H' s' → Same H H' → Vals out acc → Paired (PrI H') out kvs → Q acc s') : wpAny (model X.prog X.w) A (collect (.ref v)) Q E s := by
  have hview := view_of I hv
  obtain ⟨z, hsys, xs, rel, od, es, ep, ho, hex, hdd, hes, hnd⟩ := (show ObjOk X.prog X.w H s.heap d (.dT kvs) from I.hok d _ hd)
  have hlen : es.size = kvs.length := by rw [Paired.length rel, ← List.length_map (f := entryOfKey (tupleKind (mixKind X.prog X.w))), ← hes, Array.length_toList]
  obtain ⟨ov, hov, hvc, hvd⟩ := id hview
  unfold collect
  refine wpAny_bind (wpAny_runValue (codeAny_builtin entry_proto_collect' ?_))
  rw [Around.under_plainId PySem.F.plain_proto_collect _]
  show wpAny _ A.in1 (newList [] >>= fun z => again (.builtin "list.__iadd__" ⟨[z, .ref v], []⟩)) _ _ s
  refine wpAny_bind (wpAny_newObj_type (wpAny_pure ⟨plainId_quiet PySem.F.plain_list_iadd _, codeAny_builtin entry_list_iadd' ?_⟩))
  rw [Around.under_plainId PySem.F.plain_list_iadd _]
  have hS : (s.heap.push { cls := .type "list", data := .seq ([] : List Value).toArray }).get? s.heap.objs.size = some { cls := .type "list", data := .seq #[] } := Heap.get?_push_size _ rfl
  show wpAny _ A.in1 (Builtin.List.listExtendWith (.ref s.heap.objs.size) (.ref v) (.ref s.heap.objs.size)) _ _ { s with heap := s.heap.push { cls := .type "list", data := .seq ([] : List Value).toArray } }
  have k1 : ∀ b o, s.heap.get? b = some o → (s.heap.push { cls := .type "list", data := .seq ([] : List Value).toArray }).get? b = some o := fun b o e => Heap.get?_push_of_some _ e
  have z1 : (s.heap.push { cls := .type "list", data := .seq ([] : List Value).toArray }).objs.size = s.heap.objs.size + 1 := size_push' _ _
  generalize hh1 : s.heap.push { cls := .type "list", data := .seq ([] : List Value).toArray } = h1 at hS k1 z1
  have I1 : Inv X pins σ H { s with heap := h1 } := I.kept (t' := s.toks) k1
  have hv1 : h1.IsItemsView v d := ⟨ov, k1 _ _ hov, hvc, hvd⟩
  unfold Builtin.List.listExtendWith
  refine wpAny_bind (wpAny_typeOf (T := "dict_items") ⟨ov, k1 _ _ hov, hvc⟩ ?_)
  have nSv : s.heap.objs.size ≠ v := Nat.ne_of_gt (Heap.lt_size hov)
  rw [if_neg (by
    have : Builtin.List.listSameRef (.ref s.heap.objs.size) (.ref v) = false := by
      show (s.heap.objs.size == v) = false
      exact beq_eq_false_iff_ne.mpr nSv
    rw [this]; decide)]
  refine wpAny_bind (iter_items (s := { s with heap := h1 }) hv1 (k1 _ _ ho) hdd ?_)
  have k2 : ∀ b o, h1.get? b = some o → (h1.push (itObj d 0 es.size ep .none (.bool false) .none .none)).get? b = some o := fun b o e => Heap.get?_push_of_some _ e
  have e2 : (h1.push (itObj d 0 es.size ep .none (.bool false) .none .none)).get? h1.objs.size = some (itObj d 0 es.size ep .none (.bool false) .none .none) := Heap.get?_push_size _ rfl
  generalize hh2 : h1.push (itObj d 0 es.size ep .none (.bool false) .none .none) = h2 at k2 e2
  have I2 : Inv X pins σ H { s with heap := h2 } := I1.kept (t' := s.toks) k2
  refine wpAny_bind (wpAny_holding (hint_items (s := { s with heap := h2 }) (d := d) ⟨ov, k2 _ _ (k1 _ _ hov), hvc, hvd⟩ ?_))
  rw [if_pos (by decide +kernel)]
  refine wpAny_bind (wpAny_rule ?_)
  refine wpAny_bind ?_
  unfold Builtin.List.listTouch
  have hS2 : h2.get? s.heap.objs.size = some (seqObj "list" #[] 0) := k2 _ _ hS
  refine wpAny_bind (listUpdate_at (s := { s with heap := h2 }) hS2 rfl ?_ (Nat.zero_le _) (by show 1 ≤ sizeLine + 1; decide))
  have hS3 := get?_update_seq (h := h2) hS2 (fun x => x.push Value.none)
  have sb3 := Heap.SameBut.update h2 s.heap.objs.size (Obj.mapSeq fun x => x.push Value.none)
  generalize h2.update s.heap.objs.size (Obj.mapSeq fun x => x.push Value.none) = h3 at hS3 sb3
  refine listUpdate_at (s := { s with heap := h3 }) hS3 rfl ?_ (by show 1 ≤ sizeLine; decide) (by show 0 ≤ sizeLine + 1; decide)
  have hS4 := get?_update_seq (h := h3) hS3 (fun x => x.pop)
  have sb4 := Heap.SameBut.update h3 s.heap.objs.size (Obj.mapSeq fun x => x.pop)
  generalize h3.update s.heap.objs.size (Obj.mapSeq fun x => x.pop) = h4 at hS4 sb4
  have sb := sb_trans sb3 sb4
  have hne : h1.objs.size ≠ s.heap.objs.size := by omega
  have fS : FpOk X pins H s.heap.objs.size := I.fpOk (Nat.le_refl _) (I.hok.fresh (Nat.le_refl _))
  have fi : FpOk X pins H h1.objs.size := I1.fpOk (Nat.le_refl _) (I1.hok.fresh (Nat.le_refl _))
  obtain ⟨c4, hS5⟩ : ∃ c4, h4.get? s.heap.objs.size = some { cls := .type "list", data := .seq ([] : List Value).toArray c4 } := ⟨_, hS4⟩
  have I4 : Inv X pins σ H { s with heap := h4 } := by
    obtain ⟨f0, f1, f2, f3, f4, f5⟩ := id fS
    exact I2.turned (t' := s.toks) (fun b o hb e => (sb.2 b hb).trans e) f0 f1 f3 f4 f5
  have ndS : d ≠ s.heap.objs.size := Nat.ne_of_lt (Heap.lt_size ho)
  refine wpAny_pure ⟨plainId_quiet PySem.F.plain_extend_loop _, loop_items (pins := pins) (σ := σ) (H0 := H) (kvs := kvs) (xs := xs) (by simpa using hA) (by omega) hne rel hes hdd ⟨_, hd⟩ es.size 0 _ H [] c4 [] (by omega) (Nat.zero_le _) I4 (fun _ _ q => q) fi fS ⟨_, _, _, _, (sb.2 _ hne).trans e2, .inl rfl⟩ ((sb.2 _ ndS).trans (k2 _ _ (k1 _ _ ho))) hS5 .nil .nil ?_⟩
  intro s' H' acc c out I' g hS' hv' hP
  show wpAny _ A (load s.heap.objs.size >>= _) _ _ _
  exact wpAny_bind (wpAny_load hS' (wpAny_pure (by simpa using h s' H' acc out I' g hv' hP)))
end
end L2

set_option Elab.async false
set_option linter.all false
set_option maxRecDepth 100000
set_option maxHeartbeats 4000000
/-! list(reversed(xs)) -/
namespace L2
open PySem PySem.Spec PyProof.Rows
theorem lri_len : typeLookup (.type "list_reverseiterator") "__len__" = pure none := by rw [typeLookup_type, builtinLookup_eq_fast]; kernel_rfl
theorem lri_hint : typeLookup (.type "list_reverseiterator") "__length_hint__" = pure (some (.builtin "list_reverseiterator.__length_hint__")) := by rw [typeLookup_type, builtinLookup_eq_fast]; kernel_rfl
section
variable {prog : Program} {w : World} {A : Around} {E : Value → Shared → Prop} {s : Shared}
/-- what the list then holds -/
theorem items_rev {items acc : Array Value} (h : ItemsOf (fun i v => items[items.size - 1 - i]? = some v) acc items.size) : acc.toList = items.toList.reverse := by
  obtain ⟨hz, hi⟩ := h
  apply List.ext_getElem?
  intro i
  by_cases c : i < items.size
  · have e1 : acc.toList[i]? = some acc[i] := by rw [Array.getElem?_toList]; exact Array.getElem?_eq_getElem (by omega)
    have h1 := hi i acc[i] (Array.getElem?_eq_getElem (by omega))
    have h2 : items[items.size - 1 - i]? = some acc[i] := h1
    rw [e1, List.getElem?_reverse (by simpa using c)]
    rw [← Array.getElem?_toList] at h2
    simpa using h2.symm
  · have e1 : acc.toList[i]? = none := by rw [Array.getElem?_toList]; exact Array.getElem?_eq_none (by omega)
    rw [e1]
    exact (List.getElem?_eq_none (by simp; omega)).symm
theorem list_of_rev {I l : Addr} {items : Array Value} {Q : Value → Shared → Prop} (hh : A.handled = none) (hne : l ≠ I) (hit : s.heap.IsRevIter I l ((items.size : Int) - 1)) (hl : s.heap.IsList l items) (hz : items.size ≤ sizeLine)
    (hQ : ∀ h' tk c, (∀ b o, b ≠ I → s.heap.get? b = some o → h'.get? b = some o) → h'.get? s.heap.objs.size = some { cls := .type "list", data := .seq items.toList.reverse.toArray c } → Q (.ref s.heap.objs.size) { s with heap := h', toks := tk }) :
    wpAny (model prog w) A (call (.type "list") [.ref I]) Q E s := by
  have W := (Walks.listRev (prog := prog) (w := w) (A := A.in1.in1) hh I l hne items).toS
  have hI : I < s.heap.objs.size := by obtain ⟨o, e, _⟩ := hit; exact Heap.lt_size e
  have hL : l < s.heap.objs.size := by obtain ⟨o, e, _⟩ := hl; exact Heap.lt_size e
  have nS : s.heap.objs.size ∉ [I, l] := fun z => by
    have z' : s.heap.objs.size = I ∨ s.heap.objs.size = l := by simpa using z
    rcases z' with z' | z'
    · exact absurd hI (by rw [← z']; exact Nat.lt_irrefl _)
    · exact absurd hL (by rw [← z']; exact Nat.lt_irrefl _)
  have nSI : s.heap.objs.size ≠ I := fun e => nS (by simp [e])
  refine callType_codes (Q₁ := fun obj s₁ => obj = .ref s.heap.objs.size ∧ s₁ = { s with heap := s.heap.push { cls := .type "list", data := .seq #[] } }) F.called_list (F.typeCall_list_1 _) F.entry_list_init
    (code_list_new _ ⟨rfl, rfl⟩) fun obj s₁ h₁ => ?_
  obtain ⟨rfl, rfl⟩ := h₁
  have o1 : (s.heap.push { cls := .type "list", data := .seq #[] }).get? s.heap.objs.size = some { cls := .type "list", data := .seq #[] } := Heap.get?_push_size _ rfl
  refine ⟨⟨_, o1, rfl⟩, F.args_list_init_2 _ _, ?_⟩
  show wpAny _ A.in1.in1 (Builtin.List.listItems (.ref s.heap.objs.size) >>= fun old => Builtin.List.listUpdate (.ref s.heap.objs.size) (fun _ => #[]) >>= fun _ => letGo old.toList.reverse >>= fun _ => Builtin.List.listExtendWith (.ref s.heap.objs.size) (.ref I) .none) _ _ _
  refine wpAny_bind (listItems_at o1 rfl (wpAny_bind (listUpdate_at o1 rfl ?_ (Nat.zero_le _) (Nat.zero_le _))))
  have o2 := Heap.get?_update_self (Obj.mapSeq (fun _ => (#[] : Array Value))) o1 rfl
  have oth : ∀ b o, s.heap.get? b = some o → ((s.heap.push { cls := .type "list", data := .seq #[] }).update s.heap.objs.size (Obj.mapSeq (fun _ => (#[] : Array Value)))).get? b = some o := fun b o e =>
    (Heap.get?_update_other _ _ (Nat.ne_of_gt (Heap.lt_size e))).trans (Heap.get?_push_of_some _ e)
  refine wpAny_bind (wpAny_letGo ?_)
  generalize hh2 : (s.heap.push { cls := .type "list", data := .seq #[] }).update s.heap.objs.size (Obj.mapSeq (fun _ => (#[] : Array Value))) = h2 at o2 oth
  show wpAny _ _ _ _ _ { s with heap := h2 }
  have st2 : 0 ≤ items.size ∧ h2.IsRevIter I l ((items.size : Int) - 1 - ((0 : Nat) : Int)) ∧ h2.IsList l items := ⟨Nat.zero_le _, by
    have e : (items.size : Int) - 1 - ((0 : Nat) : Int) = (items.size : Int) - 1 := by omega
    rw [e]; exact hit.at fun o e => oth _ _ e, hl.at fun o e => oth _ _ e⟩
  have ty : Shared.TypeIs { s with heap := h2 } (.ref I) "list_reverseiterator" := Heap.IsRevIter.typeIs (s := { s with heap := h2 }) st2.2.1
  have ns : Builtin.List.listSameRef (.ref s.heap.objs.size) (.ref I) = false := by simp [Builtin.List.listSameRef, nSI]
  unfold Builtin.List.listExtendWith
  refine wpAny_bind (wpAny_typeOf ty ?_)
  rw [if_neg (by rw [ns]; decide)]
  refine wpAny_bind (W.self 0 _ _ _ st2 (wpAny_bind (wpAny_holding ?_)))
  unfold Builtin.List.listLengthHint
  refine wpAny_bind (wpAny_specialOf ty lri_len ?_)
  show wpAny _ A.in1.in1 (specialOf (Value.ref I) (Str.ofString "__length_hint__") >>= _) _ _ _
  refine wpAny_bind (wpAny_specialOf ty lri_hint ?_)
  generalize hid : ("list_reverseiterator.__length_hint__" : String) = id0
  wp_delta
  rw [show splitId id0 = some ("list_reverseiterator", "__length_hint__") from by subst hid; decide +kernel]
  subst hid
  refine wpAny_bind (wpAny_isInstance (b := true) ty (by rw [isSubtype_type]; kernel_rfl) (wpAny_pure ?_))
  rw [if_neg (by decide)]
  refine wpAny_pure ⟨plainId_quiet F.plain_extend_loop _, codeAny_extend_loopS W hz _ nS _ items.size 0 _ _ _ rfl (Nat.zero_le _) st2 o2 (ItemsOf.nil _) fun s' acc' c' hm hS' hacc => ?_⟩
  refine ⟨rfl, ?_⟩
  have e := items_rev hacc
  have eacc : acc' = items.toList.reverse.toArray := by rw [← e]
  rw [eacc] at hS'
  have hs : s' = { s with heap := s'.heap, toks := s'.toks } := by
    obtain ⟨a, b, c, d, f⟩ := s'
    have g1 : b = s.gens := hm.gens
    have g2 : c = s.drawn := hm.drawn
    have g3 : f = s.os := hm.os
    subst g1 g2 g3
    rfl
  rw [hs]
  exact hQ _ _ c' (fun b o hb eo => hm.heap b o (fun z => by
    have z' : b = s.heap.objs.size ∨ b = I := by simpa using z
    rcases z' with z' | z'
    · exact absurd (Heap.lt_size eo) (by rw [z']; exact Nat.lt_irrefl _)
    · exact hb z') (oth b o eo)) hS'
end
section
variable {X : Cx}
theorem bt_list' : bootBuiltins "list" = some (.type "list") := by decide +kernel
theorem bt_rev' : bootBuiltins "reversed" = some (.type "reversed") := by decide +kernel
/-- list(reversed(e)) -/
theorem pe_listrev {e : Expr} {te : TE} {p1 p2 q1 q2 : Pos} (hc : X.calm = true) (g1 : Gl X "list") (m1 : X.mg "list" = none) (g2 : Gl X "reversed") (m2 : X.mg "reversed" = none) (he : PE X e te)
    (hs : starEach [e] X.env = [(false, eval e X.env)] := by rfl) : PE X (.Call (.Name "list" p1) [.Call (.Name "reversed" p2) [e] [] q2] [] q1) (fun σ H Q => te σ H fun x H1 => ∃ a vs, x = .ref a ∧ H1 a = some (.lst vs) ∧ ∀ l, H1 l = none → Q (.ref l) (upd H1 l (.lst vs.reverse))) := by
  intro pins s σ H Q I h
  have hs0 : starEach ([] : List Expr) X.env = [] := rfl
  refine wpAny_Call_Name_kw (ld_blt I g1 m1 bt_list' ?_)
  refine PyProof.Rows.callWith_type1 ?_ rfl rfl
  show wpAny _ _ (spliced ((false, eval (.Call (.Name "reversed" p2) [e] [] q2) X.env) :: backTo q1 (starEach [] X.env))) _ _ s
  refine Calls.spliced_cons (wpAny_Call_Name_kw (ld_blt I g2 m2 bt_rev' (PyProof.Rows.callWith_type1 ?_ (by rw [hs, hs0]) (by rw [hs0]; rfl))))
  rw [hs]
  show wpAny _ _ (spliced ((false, eval e X.env) :: backTo q2 [])) _ _ s
  refine Calls.spliced_cons (thn (he pins s σ H _ I h) fun u s1 ⟨x, H1, I1, r1, a, vs, ex, ha, q⟩ => ?_)
  subst ex
  cases r1
  refine Calls.spliced_nil ?_
  obtain ⟨z, its, n, rv, hl, e1⟩ := I1.lstM ha
  have hz : its.toArray.size = vs.length := by rw [List.size_toArray, hl]
  refine call_reversed_list (items := its.toArray) (PySem.IsL.isList e1) (Calls.spliced_nil ?_)
  have I2 : Inv X pins σ H1 { s1 with heap := s1.heap.push (revObj a ((its.toArray.size : Int) - 1)) } := I1.kept (t' := s1.toks) fun b o eo => Heap.get?_push_of_some _ eo
  generalize hs2 : ({ s1 with heap := s1.heap.push (revObj a ((its.toArray.size : Int) - 1)) } : Shared) = s2 at I2
  have hit : s2.heap.IsRevIter s1.heap.objs.size a ((its.toArray.size : Int) - 1) := by rw [← hs2]; exact ⟨_, Heap.get?_push_size _ rfl, rfl, rfl⟩
  have hlt : a < s1.heap.objs.size := Heap.lt_size e1
  have hne : a ≠ s1.heap.objs.size := Nat.ne_of_lt hlt
  have e2 : s2.heap.get? a = some { cls := .type "list", data := .seq its.toArray n } := by rw [← hs2]; exact Heap.get?_push_of_some _ e1
  have hz2 : s2.heap.objs.size = s1.heap.objs.size + 1 := by rw [← hs2]; exact Heap.size_push ..
  refine list_of_rev (items := its.toArray) (I1.ok.hd hc) hne hit (PySem.IsL.isList e2) (by rw [hz]; exact z) fun h' tk c hk hS => ?_
  -- first the new list, then the turned iterator
  have rr : Vals vs.reverse its.toArray.toList.reverse := by
    have rev : ∀ {xs : List V} {us : List Value}, Vals xs us → Vals xs.reverse us.reverse := by
      intro xs us r
      induction r with
      | nil => exact .nil
      | cons r _ ih => rw [List.reverse_cons, List.reverse_cons]; exact ih.append (.cons r .nil)
    exact rev rv
  have I3 : Inv X pins σ (upd H1 s2.heap.objs.size (.lst vs.reverse)) { s2 with heap := s2.heap.push { cls := .type "list", data := .seq its.toArray.toList.reverse.toArray c }, toks := tk } :=
    I2.laid (fun b o eo => Heap.get?_push_of_some _ eo) (Nat.le_refl _) ⟨by rw [List.length_reverse]; exact z, _, c, rr, Heap.get?_push_size _ rfl⟩
  have nIt : upd H1 s2.heap.objs.size (.lst vs.reverse) s1.heap.objs.size = none := by
    rw [upd_ne (by rw [hz2]; exact Nat.ne_of_lt (Nat.lt_succ_self _))]
    exact I1.fresh
  have tn := fun hk1 hk2 hk3 => I3.turned (it := s1.heap.objs.size) (h' := h') (t' := tk) hk1 nIt (Nat.ne_of_gt I1.lt) (.inr I1.sz) hk2 hk3
  refine ⟨.ref s2.heap.objs.size, _, tn (fun b o hb eo => ?_) (fun x cc ec zc => ?_) (fun p hp zp => ?_), rfl, q _ I2.fresh⟩
  · by_cases hbs : b = s2.heap.objs.size
    · subst hbs
      have : (s2.heap.push { cls := .type "list", data := .seq its.toArray.toList.reverse.toArray c }).get? s2.heap.objs.size = some o := eo
      rw [Heap.get?_push_size _ rfl] at this
      cases this
      exact hS
    · have eo' : s2.heap.get? b = some o := by
        have := eo
        rw [Heap.get?_push_ne _ _ _ hbs] at this
        exact this
      exact hk b o hb eo'
  · obtain ⟨v, o, ho, _⟩ := I1.cell x cc ec
    have := Heap.lt_size ho
    rw [zc] at this
    exact absurd this (Nat.lt_irrefl _)
  · have := Heap.lt_size (I1.pin p hp).1
    rw [zp] at this
    exact absurd this (Nat.lt_irrefl _)
end
end L2

set_option Elab.async false
set_option linter.all false
set_option maxRecDepth 100000
/-! COMPREHENSIONS whose own names a comprehension within them takes -/
namespace L2
open PySem PySem.Spec PyProof.Rows
def cellObj : Obj := { cls := .type "cell", data := .cell none }
/-- the cells of a block's own -/
def ownC : List (Str × NameKind) → Addr → List (Str × Addr) → List (Str × Addr)
  | [], _, cs => cs
  | (n, k) :: r, a, cs => if (k == NameKind.cell) = true then ownC r (a + 1) ((n, a) :: cs) else ownC r a cs
def pushC : List (Str × NameKind) → Heap → Heap
  | [], h => h
  | (_, k) :: r, h => if (k == NameKind.cell) = true then pushC r (h.push cellObj) else pushC r h
theorem pushC_keep {b : Addr} {o : Obj} : ∀ (names : List (Str × NameKind)) (h : Heap), h.get? b = some o → (pushC names h).get? b = some o
  | [], h, e => e
  | (n, k) :: r, h, e => by
    unfold pushC
    split
    · exact pushC_keep r _ (Heap.get?_push_of_some _ e)
    · exact pushC_keep r _ e
theorem ownC_mem {p : Str × Addr} : ∀ {names : List (Str × NameKind)} {h : Heap} {cs : List (Str × Addr)}, p ∈ ownC names h.objs.size cs → p ∈ cs ∨ (pushC names h).IsCell p.2 none
  | [], h, cs, e => .inl e
  | (n, k) :: r, h, cs, e => by
    unfold ownC at e
    unfold pushC
    by_cases c : (k == NameKind.cell) = true
    · rw [if_pos c] at e ⊢
      have hz : h.objs.size + 1 = (h.push cellObj).objs.size := (Heap.size_push ..).symm
      rw [hz] at e
      rcases ownC_mem (h := h.push cellObj) e with z | z
      · rcases List.mem_cons.mp z with z | z
        · rw [z]
          exact .inr ⟨cellObj, pushC_keep r _ (Heap.get?_push_size _ rfl), rfl⟩
        · exact .inl z
      · exact .inr z
    · rw [if_neg c] at e ⊢
      exact ownC_mem e
theorem ownC_look {x : Str} {c : Addr} : ∀ {names : List (Str × NameKind)} {a : Addr} {cs : List (Str × Addr)}, (ownC names (a + 1) cs).lookup x = some c → cs.lookup x = some c ∨ a < c
  | [], a, cs, e => .inl e
  | (n, k) :: r, a, cs, e => by
    unfold ownC at e
    by_cases q : (k == NameKind.cell) = true
    · rw [if_pos q] at e
      rcases ownC_look e with z | z
      · rw [List.lookup_cons] at z
        cases hx : x == n with
        | true => rw [hx] at z; cases z; exact .inr (Nat.lt_succ_self _)
        | false => rw [hx] at z; exact .inl z
      · exact .inr (Nat.lt_trans (Nat.lt_succ_self _) z)
    · rw [if_neg q] at e
      exact ownC_look e
theorem ownC_keep {x : Str} : ∀ (names : List (Str × NameKind)) (a : Addr) (cs : List (Str × Addr)), (∃ c, cs.lookup x = some c) → ∃ c, (ownC names a cs).lookup x = some c
  | [], a, cs, h => h
  | (n, k) :: r, a, cs, ⟨c, h⟩ => by
    unfold ownC
    split
    · refine ownC_keep r _ _ ?_
      rw [List.lookup_cons]
      cases hx : x == n with
      | true => exact ⟨_, rfl⟩
      | false => exact ⟨c, h⟩
    · exact ownC_keep r _ _ ⟨c, h⟩
theorem ownC_has {x : Str} : ∀ (names : List (Str × NameKind)) (a : Addr) (cs : List (Str × Addr)), names.lookup x = some .cell → ∃ c, (ownC names a cs).lookup x = some c
  | [], a, cs, h => by simp at h
  | (n, k) :: r, a, cs, h => by
    rw [List.lookup_cons] at h
    unfold ownC
    cases hx : x == n with
    | true =>
      rw [hx] at h
      cases h
      rw [if_pos (by rfl)]
      exact ownC_keep r _ _ ⟨a, by rw [List.lookup_cons, hx]⟩
    | false =>
      rw [hx] at h
      split
      · exact ownC_has r _ _ h
      · exact ownC_has r _ _ h
theorem ownC_old {x : Str} : ∀ {names : List (Str × NameKind)} {a : Addr} {cs : List (Str × Addr)}, (∀ p ∈ names, p.2 = .cell → x ≠ p.1) → (ownC names a cs).lookup x = cs.lookup x
  | [], a, cs, _ => rfl
  | (n, k) :: r, a, cs, h => by
    have hr : ∀ p ∈ r, p.2 = .cell → x ≠ p.1 := fun p hp => h p (List.mem_cons_of_mem _ hp)
    unfold ownC
    by_cases q : (k == NameKind.cell) = true
    · rw [if_pos q, ownC_old hr, List.lookup_cons]
      have := h (n, k) List.mem_cons_self (by simpa using q)
      have hx : (x == n) = false := beq_eq_false_iff_ne.mpr this
      rw [hx]
    · rw [if_neg q]; exact ownC_old hr
theorem ownC_low {x : Str} {a0 c : Addr} : ∀ {names : List (Str × NameKind)} {a : Addr} {cs : List (Str × Addr)}, (∀ c, cs.lookup x = some c → a0 ≤ c) → a0 ≤ a → (ownC names a cs).lookup x = some c → a0 ≤ c
  | [], a, cs, h, _, e => h c e
  | (n, k) :: r, a, cs, h, ha, e => by
    unfold ownC at e
    by_cases q : (k == NameKind.cell) = true
    · rw [if_pos q] at e
      refine ownC_low (fun c' e' => ?_) (Nat.le_succ_of_le ha) e
      rw [List.lookup_cons] at e'
      cases hx : x == n with
      | true => rw [hx] at e'; cases e'; exact ha
      | false => rw [hx] at e'; exact h c' e'
    · rw [if_neg q] at e
      exact ownC_low h ha e
theorem ownC_cab {x : Str} {c : Addr} : ∀ {names : List (Str × NameKind)} {a : Addr} {cs : List (Str × Addr)}, names.lookup x = some .cell → (ownC names a cs).lookup x = some c → a ≤ c
  | [], a, cs, h, _ => by simp at h
  | (n, k) :: r, a, cs, h, e => by
    rw [List.lookup_cons] at h
    unfold ownC at e
    cases hx : x == n with
    | true =>
      rw [hx] at h
      cases h
      rw [if_pos (by rfl)] at e
      refine ownC_low (fun c' e' => ?_) (Nat.le_succ _) e
      rw [List.lookup_cons, hx] at e'
      cases e'
      exact Nat.le_refl _
    | false =>
      rw [hx] at h
      by_cases q : (k == NameKind.cell) = true
      · rw [if_pos q] at e
        exact Nat.le_of_succ_le (ownC_cab h e)
      · rw [if_neg q] at e
        exact ownC_cab h e
theorem ownC_ge {p : Str × Addr} : ∀ {names : List (Str × NameKind)} {a : Addr} {cs : List (Str × Addr)}, p ∈ ownC names a cs → p ∈ cs ∨ a ≤ p.2
  | [], a, cs, h => .inl h
  | (n, k) :: r, a, cs, h => by
    unfold ownC at h
    by_cases q : (k == NameKind.cell) = true
    · rw [if_pos q] at h
      rcases ownC_ge h with z | z
      · rcases List.mem_cons.mp z with z | z
        · rw [z]; exact .inr (Nat.le_refl _)
        · exact .inl z
      · exact .inr (Nat.le_of_succ_le z)
    · rw [if_neg q] at h; exact ownC_ge h
theorem ownC_inj' : ∀ {names : List (Str × NameKind)} {a : Addr} {cs : List (Str × Addr)}, (∀ p ∈ cs, p.2 < a) → (∀ p ∈ cs, ∀ q ∈ cs, p.2 = q.2 → p.1 = q.1) → ∀ p ∈ ownC names a cs, ∀ q ∈ ownC names a cs, p.2 = q.2 → p.1 = q.1
  | [], a, cs, _, h => h
  | (n, k) :: r, a, cs, hl, h => by
    unfold ownC
    split
    · refine ownC_inj' (fun p hp => ?_) fun p hp q hq e => ?_
      · rcases List.mem_cons.mp hp with z | z
        · rw [z]; exact Nat.lt_succ_self _
        · exact Nat.lt_succ_of_lt (hl p z)
      · rcases List.mem_cons.mp hp with z | z
        · rcases List.mem_cons.mp hq with y | y
          · rw [z, y]
          · have := hl q y
            rw [z] at e
            have e : a = q.2 := e
            exact absurd (by rw [← e] at this; exact this) (Nat.lt_irrefl _)
        · rcases List.mem_cons.mp hq with y | y
          · have := hl p z
            rw [y] at e
            have e : p.2 = a := e
            exact absurd (by rw [e] at this; exact this) (Nat.lt_irrefl _)
          · exact h p z q y e
    · exact ownC_inj' hl h
theorem ownC_inj {names : List (Str × NameKind)} {a c : Addr} {x y : Str} {cs : List (Str × Addr)} (hl : ∀ p ∈ cs, p.2 < a) (h1 : (x, c) ∈ ownC names a cs) (h2 : (y, c) ∈ ownC names a cs) (hc : a ≤ c) : x = y := by
  -- the old ones lie below: leave them out
  have drop : ∀ {names : List (Str × NameKind)} {a : Addr} {cs : List (Str × Addr)} {x : Str}, (x, c) ∈ ownC names a cs → (∀ p ∈ cs, p.2 ≠ c) → (x, c) ∈ ownC names a [] := by
    intro names
    have gen : ∀ (names : List (Str × NameKind)) (a : Addr) (cs ds : List (Str × Addr)) (x : Str), (x, c) ∈ ownC names a (ds ++ cs) → (∀ p ∈ cs, p.2 ≠ c) → (x, c) ∈ ownC names a ds := by
      intro names
      induction names with
      | nil =>
        intro a cs ds x h hn
        rcases List.mem_append.mp h with z | z
        · exact z
        · exact absurd rfl (hn _ z)
      | cons p r ih =>
        obtain ⟨n, k⟩ := p
        intro a cs ds x h hn
        unfold ownC at h ⊢
        by_cases q : (k == NameKind.cell) = true
        · rw [if_pos q] at h ⊢
          exact ih (a + 1) cs ((n, a) :: ds) x h hn
        · rw [if_neg q] at h ⊢
          exact ih a cs ds x h hn
    intro a cs x h hn
    exact gen names a cs [] x h hn
  have hn : ∀ p ∈ cs, p.2 ≠ c := fun p hp e => absurd (Nat.lt_of_lt_of_le (hl p hp) hc) (by rw [e]; exact Nat.lt_irrefl _)
  exact ownC_inj' (names := names) (a := a) (cs := []) (fun p hp => by cases hp) (fun p hp => by cases hp) _ (drop h1 hn) _ (drop h2 hn) rfl
theorem closOf_mem {cells : List (Str × Addr)} {names : List (Str × NameKind)} (hfree : ∀ y ∈ names, y.2 = .free → ∃ c, cells.lookup y.1 = some c) {p : Str × Addr} (h : p ∈ closOf cells names []) : ∃ y c, c = p.2 ∧ cells.lookup y = some p.2 := by
  have gen : ∀ (names : List (Str × NameKind)) (cs : List (Str × Addr)), (∀ y ∈ names, y.2 = .free → ∃ c, cells.lookup y.1 = some c) → p ∈ closOf cells names cs → p ∈ cs ∨ ∃ y, cells.lookup y = some p.2 := by
    intro names
    induction names with
    | nil => intro cs _ h; exact .inl h
    | cons q r ih =>
      obtain ⟨n, k⟩ := q
      intro cs hf h
      unfold closOf at h
      by_cases c : (k == NameKind.free) = true
      · rw [if_pos c] at h
        rcases ih _ (fun y hy => hf y (List.mem_cons_of_mem _ hy)) h with z | z
        · rcases List.mem_cons.mp z with z | z
          · obtain ⟨c0, hc0⟩ := hf (n, k) List.mem_cons_self (by simpa using c)
            have hc0 : cells.lookup n = some c0 := hc0
            refine .inr ⟨n, ?_⟩
            rw [z, hc0]; rfl
          · exact .inl z
        · exact .inr z
      · rw [if_neg c] at h
        exact ih _ (fun y hy => hf y (List.mem_cons_of_mem _ hy)) h
  rcases gen names [] hfree h with z | ⟨y, z⟩
  · cases z
  · exact ⟨y, p.2, rfl, z⟩
theorem relabel_lookC {env : Env} : ∀ {names : List (Str × NameKind)} {x : Str} {k : NameKind},
    (names.map fun (n, k) => if (k == NameKind.free && env.scope.kind == .function && env.kindOf n == some .cell) then (n, NameKind.cell) else (n, k)).lookup x = some k → k = .cell ∨ k = .free →
    names.lookup x = some .free ∨ names.lookup x = some .cell
  | [], _, _, h, _ => by simp at h
  | (n, k') :: r, x, k, h, hk => by
    have ih := @relabel_lookC env r x k
    have h : List.lookup x ((if (k' == NameKind.free && env.scope.kind == .function && env.kindOf n == some .cell) = true then (n, NameKind.cell) else (n, k')) :: _) = _ := h
    cases hx : x == n with
    | true =>
      rw [List.lookup_cons, hx]
      by_cases hq : (k' == NameKind.free && env.scope.kind == .function && env.kindOf n == some .cell) = true
      · have : (k' == NameKind.free) = true := by
          cases hz : (k' == NameKind.free)
          · rw [hz] at hq; simp at hq
          · rfl
        have e : k' = .free := by simpa using this
        rw [e]; exact .inl rfl
      · rw [if_neg hq] at h
        simp only [List.lookup_cons, hx] at h
        cases h
        rcases hk with e | e
        · rw [e]; exact .inr rfl
        · rw [e]; exact .inl rfl
    | false =>
      rw [List.lookup_cons, hx]
      refine ih ?_ hk
      by_cases hq : (k' == NameKind.free && env.scope.kind == .function && env.kindOf n == some .cell) = true
      · rw [if_pos hq] at h; simp only [List.lookup_cons, hx] at h; exact h
      · rw [if_neg hq] at h; simp only [List.lookup_cons, hx] at h; exact h
/-- the block's context -/
def compCxC (X : Cx) (scope : Scope) (N' : List Str) (C : Addr) (fp : List Addr) (s : Shared) (H : Hp) : Cx :=
  { prog := X.prog, w := X.w, K := X.K, mg := X.mg, base := X.base, A := X.A, N := N', s₀ := s, H₀ := H, env := compEnvC scope (ownC scope.names (C + 1) (closOf X.env.cells scope.names [])) C X.env,
    outer := X.stack, stack := X.stack, ex := fp, fn := fun x => scope.names.lookup x == some NameKind.cell, calm := X.calm, pn := [], xe := fun _ _ => False }
theorem wp_cells {M : Model} {A : Around} {E : Value → Shared → Prop} {s : Shared} {Q : List (Str × Addr) → Shared → Prop} : ∀ (names : List (Str × NameKind)) (cs : List (Str × Addr)) (h : Heap), Q (ownC names h.objs.size cs) { s with heap := pushC names h } →
    wpAny M A (forIn names cs fun (x : Str × NameKind) (r : List (Str × Addr)) => (match x with | (name, kind) => if (kind == .cell) = true then do let c ← alloc { cls := Value.type "cell", data := Data.cell none }; pure (ForInStep.yield ((name, c) :: r)) else pure (ForInStep.yield r) : Sem (ForInStep (List (Str × Addr))))) Q E { s with heap := h }
  | [], cs, h, q => wpAny_pure q
  | (n, k) :: r, cs, h, q => by
    rw [List.forIn_cons]
    unfold ownC pushC at q
    by_cases c : (k == NameKind.cell) = true
    · rw [if_pos c, if_pos c] at q
      simp only [c, ↓reduceIte]
      refine wpAny_bind (wpAny_bind (wpAny_alloc (wpAny_pure ?_)))
      refine wp_cells r _ (h.push cellObj) ?_
      rw [show (h.push cellObj).objs.size = h.objs.size + 1 from Heap.size_push ..]
      exact q
    · rw [if_neg c, if_neg c] at q
      simp only [c, ↓reduceIte, Bool.false_eq_true]
      exact wpAny_bind (wpAny_pure (wp_cells r _ h q))
theorem wp_newEnvC {M : Model} {A : Around} {E : Value → Shared → Prop} {s : Shared} {scope : Scope} {globals : Addr} {cl : List (Str × Addr)} {qual : Str} {env : Env} {Q : Env → Shared → Prop}
    (h : ∀ h' : Heap, h'.Ns s.heap.objs.size (fun _ => none) → (∀ b o, s.heap.get? b = some o → h'.get? b = some o) → (∀ cl, ∀ p ∈ ownC scope.names (s.heap.objs.size + 1) cl, p ∈ cl ∨ h'.IsCell p.2 none) →
      Q { scope := scope, locals := s.heap.objs.size, globals := globals, cells := ownC scope.names (s.heap.objs.size + 1) cl, qual := qual, func := none, code := env.code, frame := env.frame, builtins := env.builtins } { s with heap := h', toks := s.toks }) :
    wpAny M A (newFunctionEnv scope globals cl [] qual none .none (some env)) Q E s := by
  unfold newFunctionEnv
  refine wpAny_bind (wpAny_alloc ?_)
  have hz : (s.heap.push { cls := Value.type "dict", data := Data.dict #[] }).objs.size = s.heap.objs.size + 1 := Heap.size_push ..
  refine wpAny_bind (wp_cells (s := s) scope.names cl (s.heap.push { cls := Value.type "dict", data := Data.dict #[] }) ?_)
  rw [hz]
  refine wpAny_bind (wpAny_pure (wpAny_pure ?_))
  refine h _ ?_ (fun b o e => pushC_keep _ _ (Heap.get?_push_of_some _ e)) (fun cl p hp => ownC_mem (h := s.heap.push { cls := Value.type "dict", data := Data.dict #[] }) (by rw [hz]; exact hp))
  have n0 : (s.heap.push { cls := Value.type "dict", data := Data.dict #[] }).Ns s.heap.objs.size (fun _ => none) := Heap.Ns.new ..
  exact n0.keeps fun b o e => pushC_keep _ _ e
/-- how a block's scope must look: seen by rfl -/
structure CompOkC (X : Cx) (scope : Scope) (N' : List Str) (fr : List (Option Nat)) (own : List Nat) : Prop where
  kind : scope.kind = .function
  cell : (scope.names.all fun x => x.2 != .cell || scope.names.lookup x.1 == some .cell) = true
  names : (scope.names.all fun x => x.2 != .local || scope.names.lookup x.1 == some .local) = true
  free : (scope.names.all fun x => x.2 != .free || X.env.scope.names.lookup x.1 == some .cell || X.env.scope.names.lookup x.1 == some .free) = true
  len : N'.length = fr.length
  from_ : ((N'.zip fr).all fun p => match p.2 with | none => true | some j => X.N[j]? == some p.1 && (scope.names.lookup p.1 == some .free)) = true
  own_ : (own.all fun j => fr[j]? == some none) = true

section
variable {X : Cx} {scope : Scope} {N' : List Str} {fr : List (Option Nat)} {own : List Nat} {elt tg iter : Expr} {ifs : List Expr} {wi : TI} {g : TG} {ti : TT} {te : TE} {pos : Pos}
theorem CompOkC.hcell (c : CompOkC X scope N' fr own) : ∀ y ∈ scope.names, y.2 = .cell → scope.names.lookup y.1 = some .cell := fun y hy e => by
  have := List.all_eq_true.mp c.cell y hy
  rw [e] at this
  simpa using this
theorem CompOkC.hnames (c : CompOkC X scope N' fr own) : ∀ y ∈ scope.names, y.2 = .local → scope.names.lookup y.1 = some .local := fun y hy e => by
  have := List.all_eq_true.mp c.names y hy
  rw [e] at this
  simpa using this
theorem CompOkC.hfree (c : CompOkC X scope N' fr own) {pins : List (Addr × Obj)} {σ : St} {H : Hp} {s : Shared} (I : Inv X pins σ H s) : ∀ y ∈ scope.names, y.2 = .free → ∃ c, X.env.cells.lookup y.1 = some c := fun y hy e => by
  have := List.all_eq_true.mp c.free y hy
  rw [e] at this
  refine I.ok.has y.1 ?_
  have z : X.env.scope.names.lookup y.1 = some .cell ∨ X.env.scope.names.lookup y.1 = some .free := by simpa using this
  exact z

/-- the block's state at its start -/
theorem comp_startC {pins : List (Addr × Obj)} {σ : St} {H : Hp} {s : Shared} {fp : List Addr} {h₁ : Heap} {m : Str → Option Value} {tk : Nat} (c : CompOkC X scope N' fr own) (hc : X.calm = true) (I : Inv X pins σ H s) (hfp : ∀ b ∈ fp, FpOk X pins H b) (hlt : ∀ b ∈ fp, b < s.heap.objs.size)
    (hns : h₁.Ns s.heap.objs.size m) (hk : ∀ b o, s.heap.get? b = some o → h₁.get? b = some o) (hcl : ∀ p ∈ ownC scope.names (s.heap.objs.size + 1) (closOf X.env.cells scope.names []), p ∈ closOf X.env.cells scope.names [] ∨ h₁.IsCell p.2 none) :
    Inv (compCxC X scope N' s.heap.objs.size fp s H) [] (inner fr σ) H { s with heap := h₁, toks := tk } := by
  have hfree := c.hfree I
  have look0 : ∀ x cc, (closOf X.env.cells scope.names []).lookup x = some cc → X.env.cells.lookup x = some cc := fun x cc e => closOf_look _ _ hfree (by intro c' e'; simp at e') e
  have old : ∀ x cc, X.env.cells.lookup x = some cc → cc < s.heap.objs.size := fun x cc e => by
    obtain ⟨v, o, ho, _⟩ := I.cell x cc e
    exact Heap.lt_size ho
  have look : ∀ x cc, (ownC scope.names (s.heap.objs.size + 1) (closOf X.env.cells scope.names [])).lookup x = some cc → X.env.cells.lookup x = some cc ∨ (s.heap.objs.size < cc ∧ h₁.IsCell cc none) := fun x cc e => by
    rcases ownC_look e with h | h
    · exact .inl (look0 x cc h)
    · refine .inr ⟨h, ?_⟩
      rcases hcl _ (PySem.mem_of_lookup e) with z | z
      · exfalso
        obtain ⟨y, _, _, hy⟩ := closOf_mem hfree z
        have := old y cc hy
        exact absurd (Nat.lt_trans h this) (Nat.lt_irrefl _)
      · exact z
  have cellAt : ∀ x cc, X.env.cells.lookup x = some cc → ∃ v, h₁.IsCell cc v := fun x cc e => by
    obtain ⟨v, o, ho, hd⟩ := I.cell x cc e
    exact ⟨v, o, hk _ _ ho, hd⟩
  have ok : (compCxC X scope N' s.heap.objs.size fp s H).Ok := by
    refine ⟨I.ok.mod, c.kind, I.ok.glob, I.ok.blt, Nat.le_refl _, fun x y cc h1 h2 => ?inj, fun x h => ?_, fun x cc h e => Nat.le_of_lt (Nat.lt_of_lt_of_le (Nat.lt_succ_self _) (ownC_cab (by simpa [compCxC] using h) e)), I.ok.hd, I.ok.frames, .inl rfl, fun b hb => ⟨Nat.ne_of_lt (hlt b hb), fun x cc e => (look x cc e).elim (fun e => (hfp b hb).2.2.2.2.1 x cc e) fun e => Nat.ne_of_gt (Nat.lt_trans (hlt b hb) e.1)⟩,
      fun b o e => I.bs b o e, Nat.le_trans I.ok.bsz I.sz, fun b o e hb => ?_, fun b hb hz => ?_, I.stack, I.stkFree⟩
    case inj =>
      rcases look x cc h1 with e1 | e1
      · rcases look y cc h2 with e2 | e2
        · exact I.ok.inj x y cc e1 e2
        · exact absurd (Nat.lt_trans e2.1 (old x cc e1)) (Nat.lt_irrefl _)
      · exact ownC_inj (fun p hp => by
          obtain ⟨y', _, _, hy⟩ := closOf_mem hfree hp
          exact Nat.lt_succ_of_lt (old y' p.2 hy)) (PySem.mem_of_lookup h1) (PySem.mem_of_lookup h2) (Nat.succ_le_of_lt e1.1)
    · have z : scope.names.lookup x = some .free ∨ scope.names.lookup x = some .cell := by
        rcases h with h | h
        · exact relabel_lookC (env := X.env) h (.inl rfl)
        · exact relabel_lookC (env := X.env) h (.inr rfl)
      rcases z with z | z
      · exact ownC_keep _ _ _ (closOf_has _ _ z)
      · exact ownC_has _ _ _ z
    · rcases (hfp b hb).2.2.2.1 with z | z
      · exact I.ok.noex b o e z
      · exact absurd (Nat.lt_of_lt_of_le (Heap.lt_size e) (Nat.le_trans I.ok.bsz z)) (Nat.lt_irrefl _)
    · rcases List.mem_cons.mp (I.stkSub b hz) with e | e
      · exact (hfp b hb).2.1 e
      · exact (hfp b hb).2.2.1 e
  refine ⟨ok, rfl, I.bare, Un.kept hk, ⟨m, hns, fun i x v e1 e2 hv => ?_⟩, fun x cc e => (look x cc e).elim (fun e => cellAt x cc e) fun e => ⟨_, e.2⟩, I.fresh, fun x cc e => (look x cc e).elim (fun e => I.freeC x cc e) fun e => I.hok.fresh (Nat.le_of_lt e.1), fun p hp => by simp [compCxC] at hp, I.hok.kept hk, ?_⟩
  · -- an outer name
    have e1 : N'[i]? = some x := e1
    have e2 : (fr.map fun o => o.bind fun j => (σ[j]?).join)[i]? = some (some v) := e2
    rw [List.getElem?_map] at e2
    cases hfi : fr[i]? with
    | none => rw [hfi] at e2; simp at e2
    | some o =>
      rw [hfi] at e2
      simp only [Option.map_some, Option.some.injEq] at e2
      cases o with
      | none => simp at e2
      | some j =>
        have e3 : (σ[j]?).join = some v := by simpa using e2
        have e4 : σ[j]? = some (some v) := by
          cases hz : σ[j]? with
          | none => rw [hz] at e3; simp at e3
          | some z => rw [hz] at e3; simp at e3; rw [e3]
        have hm : (x, some j) ∈ N'.zip fr := by
          have : (N'.zip fr)[i]? = some (x, some j) := by rw [List.getElem?_zip_eq_some]; exact ⟨e1, hfi⟩
          exact List.mem_of_getElem? this
        have hz := List.all_eq_true.mp c.from_ _ hm
        have hz : (X.N[j]? == some x && (scope.names.lookup x == some .free)) = true := hz
        have hz1 : X.N[j]? = some x ∧ scope.names.lookup x = some .free := by simpa using hz
        obtain ⟨m0, hn0, hl0⟩ := I.loc
        have hxf : (X.env.scope.names.lookup x = some .cell ∨ X.env.scope.names.lookup x = some .free) := by
          have hmem : (x, NameKind.free) ∈ scope.names := PySem.mem_of_lookup hz1.2
          have := List.all_eq_true.mp c.free _ hmem
          simpa using this
        have vis : Vis X.env.scope x := .inr hxf
        obtain ⟨u, ru, lk⟩ := hl0 j x v hz1.1 e4 vis
        refine ⟨u, ru, ?_⟩
        rcases lk with ⟨k, _⟩ | ⟨k, cc, ec, hcell⟩
        · have k : X.env.scope.names.lookup x = some .local := k
          rcases hxf with h | h
          · rw [h] at k; cases k
          · rw [h] at k; cases k
        · obtain ⟨c2, hc2⟩ := closOf_has (cells := X.env.cells) (x := x) scope.names [] hz1.2
          have := look0 x c2 hc2
          rw [ec] at this
          cases this
          have hown : (ownC scope.names (s.heap.objs.size + 1) (closOf X.env.cells scope.names [])).lookup x = some cc := by
            rw [ownC_old fun p hp hc e => ?_]
            · exact hc2
            · have := c.hcell p hp hc
              rw [← e, hz1.2] at this
              cases this
          refine .inr ⟨?_, cc, hown, ?_⟩
          · rcases hv with h | h
            · -- local in the relabelled scope: impossible
              exfalso
              have hl : ∀ (names : List (Str × NameKind)), names.lookup x = some .free → (names.map fun (n, k) => if (k == NameKind.free && X.env.scope.kind == .function && X.env.kindOf n == some .cell) then (n, NameKind.cell) else (n, k)).lookup x ≠ some .local := by
                intro names
                induction names with
                | nil => intro h; simp at h
                | cons p r ih =>
                  obtain ⟨n, k⟩ := p
                  intro h hh
                  have hh : List.lookup x ((if (k == NameKind.free && X.env.scope.kind == .function && X.env.kindOf n == some .cell) = true then (n, NameKind.cell) else (n, k)) :: _) = _ := hh
                  rw [List.lookup_cons] at h
                  cases hx : x == n with
                  | true =>
                    rw [hx] at h
                    cases h
                    by_cases hq : (NameKind.free == NameKind.free && X.env.scope.kind == .function && X.env.kindOf n == some .cell) = true
                    · rw [if_pos hq] at hh; simp [List.lookup_cons, hx] at hh
                    · rw [if_neg hq] at hh; simp [List.lookup_cons, hx] at hh
                  | false =>
                    rw [hx] at h
                    by_cases hq : (k == NameKind.free && X.env.scope.kind == .function && X.env.kindOf n == some .cell) = true
                    · rw [if_pos hq] at hh; simp only [List.lookup_cons, hx] at hh; exact ih h hh
                    · rw [if_neg hq] at hh; simp only [List.lookup_cons, hx] at hh; exact ih h hh
              exact hl _ hz1.2 h
            · exact h
          · obtain ⟨o, ho, hd⟩ := hcell
            exact ⟨o, hk _ _ ho, hd⟩
  · show (fr.map _).length = N'.length
    rw [List.length_map, c.len]

/-- the block run: fin says what is wanted of the outer state behind it -/
theorem comp_blockC {pins : List (Addr × Obj)} {σ : St} {H2 : Hp} {s2 : Shared} {it : Addr} {fp : List Addr} {tn : Nat → Heap → Prop} {J : It} {Q : VK} {RR : Value → Addr → Result → Shared → Prop} {E : Value → Shared → Prop} (c : CompOkC X scope N' fr own) (hc : X.calm = true)
    (hg : ∀ C fp s H, PG (compCxC X scope N' C fp s H) tg g) (ho : GOwn own g) (ht : ∀ C fp s H, PTs (compCxC X scope N' C fp s H) ifs ti) (he : ∀ C fp s H, PE (compCxC X scope N' C fp s H) elt te)
    (I2 : Inv X pins σ H2 s2) (T : Turn X.prog X.w X.K tg J fp it tn) (st2 : tn 0 s2.heap) (f2 : ∀ b ∈ fp, FpOk X pins H2 b)
    (R : ∀ l, H2 l = none → ∃ W : Nat → Nat → List V → Hp → Prop, (∃ m, W 0 m [] (upd H2 l (.lst []))) ∧ ∀ i m ys H', W i m ys H' →
      (J.stop i H' ∧ Q (.ref l) H') ∨ (J.go i H' ∧ ∃ N : List V → Hp → Prop, (∀ zs H'', N zs H'' → ∃ m', m' < m ∧ W (i + 1) m' zs H'') ∧ ∀ x H2, J.yld i H' x H2 → g x (inner fr σ) H2 fun σ3 H3 => ti σ3 H3 fun b H4 => if b = true then
        te σ3 H4 fun y H5 => H5 l = some (.lst ys) ∧ ys.length < sizeLine ∧ N (ys ++ [y]) (upd H5 l (.lst (ys ++ [y]))) else N ys H4))
    (fin : ∀ l C s' H', Inv X pins σ H' s' → (∃ m, s'.heap.Ns C m) → H' C = none → s2.heap.objs.size ≤ C → Q (.ref l) H' → RR (.ref l) C (.ok .next) s') :
    wpAny (model X.prog X.w) X.A (newList []) (fun acc s₃ => wpAny (model X.prog X.w) X.A (newFunctionEnv scope X.env.globals (closOf X.env.cells scope.names []) [] X.env.qual none .none (some X.env)) (fun cenv s₄ =>
      codeAny (model X.prog X.w) X.A (.compStart (.ListComp elt [⟨tg, iter, ifs, 0⟩] scope pos) 0 (.ref it) acc { cenv with scope := relabel scope X.env }) (RR acc cenv.locals) s₄) E s₃) E s2 := by
  refine wpAny_newObj_type (wp_newEnvC (fun h₁ hns₁ hup₁ hcl₁ => ?_))
  dsimp only at hns₁ hup₁ hcl₁ ⊢
  have I3 : Inv X pins σ (upd H2 s2.heap.objs.size (.lst [])) { s2 with heap := s2.heap.push { cls := .type "list", data := .seq ([] : List Value).toArray } } := I2.lnew (its := []) (t' := s2.toks) .nil (Nat.zero_le _)
  have hl := I2.fresh
  obtain ⟨W, ⟨m0, w0⟩, turn⟩ := R _ hl
  -- the block's context
  generalize hs3 : ({ s2 with heap := s2.heap.push { cls := .type "list", data := .seq ([] : List Value).toArray } } : Shared) = s3 at I3
  have hh3 : s2.heap.push { cls := .type "list", dict := none, data := .seq ([] : List Value).toArray } = s3.heap := by rw [← hs3]
  have hz3 : s3.heap.objs.size = s2.heap.objs.size + 1 := by rw [← hs3]; exact Heap.size_push ..
  have up23 : ∀ b o, s2.heap.get? b = some o → s3.heap.get? b = some o := fun b o e => by rw [← hh3]; exact Heap.get?_push_of_some _ e
  have objs : ∀ b ∈ fp, ∃ o, s2.heap.get? b = some o ∧ ∀ v, o.data ≠ .cell v := T.obj _ _ st2
  have lt2 : ∀ b ∈ fp, b < s2.heap.objs.size := fun b hb => by obtain ⟨o, e, _⟩ := objs b hb; exact Heap.lt_size e
  have f3 : ∀ b ∈ fp, FpOk X pins (upd H2 s2.heap.objs.size (.lst [])) b := fun b hb => ⟨by rw [upd_ne (Nat.ne_of_lt (lt2 b hb))]; exact (f2 b hb).1, (f2 b hb).2⟩
  have st3 : tn 0 s3.heap := T.keep _ _ _ st2 fun b _ o e => up23 b o e
  rw [hh3] at hns₁ hup₁ hcl₁ ⊢
  have up34 : ∀ b o, s3.heap.get? b = some o → h₁.get? b = some o := hup₁
  have I4 : Inv (compCxC X scope N' s3.heap.objs.size fp s3 (upd H2 s2.heap.objs.size (.lst []))) [] (inner fr σ) (upd H2 s2.heap.objs.size (.lst [])) { s3 with heap := h₁, toks := s2.toks } :=
    comp_startC c hc I3 f3 (fun b hb => by rw [hz3]; exact Nat.lt_succ_of_lt (lt2 b hb)) hns₁ up34 (hcl₁ _)
  generalize hXX : compCxC X scope N' s3.heap.objs.size fp s3 (upd H2 s2.heap.objs.size (.lst [])) = X' at I4
  have hg' := hg s3.heap.objs.size fp s3 (upd H2 s2.heap.objs.size (.lst []))
  have ht' := ht s3.heap.objs.size fp s3 (upd H2 s2.heap.objs.size (.lst []))
  have he' := he s3.heap.objs.size fp s3 (upd H2 s2.heap.objs.size (.lst []))
  rw [hXX] at hg' ht' he'
  have eP : X'.prog = X.prog := by rw [← hXX]; rfl
  have eW : X'.w = X.w := by rw [← hXX]; rfl
  have eK : X'.K = X.K := by rw [← hXX]; rfl
  have eA : X'.A = X.A := by rw [← hXX]; rfl
  have eC : X'.calm = true := by rw [← hXX]; exact hc
  have eX : X'.xe = fun _ _ => False := by rw [← hXX]; rfl
  have eE : X'.env = compEnvC scope (ownC scope.names (s3.heap.objs.size + 1) (closOf X.env.cells scope.names [])) s3.heap.objs.size X.env := by rw [← hXX]; rfl
  have eN : X'.env.locals = s3.heap.objs.size := by rw [eE]; rfl
  have eF : X'.fs = frs X.stack := by rw [← hXX]; rfl
  have eEx : X'.ex = fp := by rw [← hXX]; rfl
  have ePn : X'.pn = [] := by rw [← hXX]; rfl
  have eS : X'.s₀ = s3 := by rw [← hXX]; rfl
  have eH : X'.H₀ = upd H2 s2.heap.objs.size (.lst []) := by rw [← hXX]; rfl
  have fpIn : ∀ {H' : Hp}, (∀ b ∈ fp, H' b = none) → ∀ b ∈ fp, FpOk X' [] H' b := fun {H'} hn b hb => by
    refine ⟨hn b hb, by rw [eN, hz3]; exact Nat.ne_of_lt (Nat.lt_succ_of_lt (lt2 b hb)), fun z => ?_, .inl (by rw [eEx]; exact hb), fun x cc e => ?_, fun p hp => by rw [ePn] at hp; simp at hp⟩
    · rw [eF] at z
      rcases List.mem_cons.mp (I3.stkSub b z) with e | e
      · exact (f3 b hb).2.1 e
      · exact (f3 b hb).2.2.1 e
    · rw [eE] at e
      rcases ownC_look e with h | h
      · exact (f3 b hb).2.2.2.2.1 x cc (closOf_look _ _ (c.hfree I3) (by intro c' e'; simp at e') h)
      · exact Nat.ne_of_gt (Nat.lt_trans (by rw [hz3]; exact Nat.lt_succ_of_lt (lt2 b hb)) h)
  have loop : ∀ s₅ : Shared, s₅ = { s3 with heap := h₁, toks := s2.toks } →
      codeAny (model X.prog X.w) X.A (.compLoop (.ListComp elt [⟨tg, iter, ifs, 0⟩] scope pos) 0 (.ref it) (.ref s2.heap.objs.size) (compEnvC scope (ownC scope.names (s3.heap.objs.size + 1) (closOf X.env.cells scope.names [])) s3.heap.objs.size X.env)) (RR (.ref s2.heap.objs.size) s3.heap.objs.size) s₅ := by
    rintro s₅ rfl
    refine compLoop_any (fun n s' => ∃ i ys H', Inv X' [] (inner fr σ) H' s' ∧ tn i s'.heap ∧ (∀ b ∈ fp, H' b = none) ∧ W i n ys H') ?_ m0
      ⟨0, [], _, I4, T.keep _ _ _ st3 fun b _ o e => up34 b o e, fun b hb => (f3 b hb).1, w0⟩
    rintro n s6 ⟨i, ys, H6, I6, st6, fr6, w6⟩
    rcases turn i n ys H6 w6 with ⟨stop, q⟩ | ⟨go, NN, hNN, step⟩
    · have D := T.done X' eP eW eK eC i [] s6 _ H6 (fun _ _ => False) I6 (fpIn fr6) st6 stop
      rw [eA] at D
      refine thn D fun r s7 ⟨hr, I7⟩ => ?_
      subst hr
      have un := I7.base
      rw [eF, eEx, eS, eH] at un
      have os7 : s7.os = s3.os := by rw [I7.os, eS]
      have hok7 := I7.hok
      rw [eP, eW] at hok7
      have J3 : Inv X pins σ H6 s7 := I3.call' os7 un hok7 I7.bare fun b hb => ⟨(f3 b hb).2.2.2.1, (f3 b hb).2.1, (f3 b hb).2.2.2.2.1, (f3 b hb).2.2.2.2.2⟩
      obtain ⟨m7, hn7, _⟩ := I7.loc
      rw [eN] at hn7
      have fr7 := I7.free
      rw [eN] at fr7
      exact fin _ _ s7 H6 J3 ⟨m7, hn7⟩ fr7 (by rw [hz3]; exact Nat.le_succ _) q
    · have D := T.item X' eP eW eK eC i [] s6 _ H6 (fun _ _ => False) I6 (fpIn fr6) st6 go
      rw [eA] at D
      refine thn D fun r s7 ⟨u, hr, h7⟩ => ?_
      subst hr
      refine thn h7 fun _ s8 ⟨x, H8, I8, r8, y8, st8, fr8⟩ => ?_
      have I8' := I8.pinned (fpIn fr8) (T.obj _ _ st8)
      have q8 := ho _ _ _ _ (step x H8 y8)
      have A1 := hg' _ s8 _ H8 x u _ I8' r8 q8
      rw [eP, eW, eA, eE, eX] at A1
      refine thn A1 fun _ s9 ⟨σ9, H9, I9, q9, len9, own9⟩ => ?_
      have A2 := ht' _ s9 σ9 H9 _ I9 q9
      rw [eP, eW, eA, eE, eX] at A2
      refine thn A2 fun ok s10 ⟨H10, I10, q10⟩ => ?_
      -- back to the turn's start
      have weak : ∀ {H' : Hp} {s' : Shared}, Inv X' ([] ++ pinsAt fp s8.heap) σ9 H' s' → Inv X' ([] ++ pinsAt fp s8.heap) (inner fr σ) H' s' := fun {H' s'} I' => I'.weak len9.symm fun j v e => by
        by_cases hj : j ∈ own
        · exfalso
          have z := List.all_eq_true.mp c.own_ j hj
          have z : fr[j]? = some none := by simpa using z
          have e : (fr.map fun o => o.bind fun j => (σ[j]?).join)[j]? = some (some v) := e
          rw [List.getElem?_map, z] at e
          simp at e
        · rw [own9 j hj]; exact e
      have again : ∀ {H' : Hp} {s' : Shared}, Inv X' ([] ++ pinsAt fp s8.heap) σ9 H' s' → tn (i + 1) s'.heap ∧ (∀ b ∈ fp, H' b = none) ∧ Inv X' [] (inner fr σ) H' s' := fun {H' s'} I' => by
        refine ⟨T.keep _ _ _ st8 fun b hb o e => (I'.pin (b, o) (List.mem_append_right _ (List.mem_append_right _ (mem_pinsAt hb e)))).1, fun b hb => ?_, (weak I').unpinned⟩
        obtain ⟨o, e, d⟩ := T.obj _ _ st8 b hb
        exact (I'.pin (b, o) (List.mem_append_right _ (List.mem_append_right _ (mem_pinsAt hb e)))).2.1
      cases ok with
      | false =>
        rw [if_neg Bool.false_ne_true] at q10 ⊢
        obtain ⟨m', hm, w'⟩ := hNN _ _ q10
        obtain ⟨t1, t2, t3⟩ := again I10
        exact ⟨m', hm, i + 1, ys, H10, t3, t1, t2, w'⟩
      | true =>
        rw [if_pos rfl] at q10 ⊢
        have A3 := he' _ s10 σ9 H10 _ I10 q10
        rw [eP, eW, eA, eE, eX] at A3
        refine thn A3 fun yv s11 ⟨y, H11, I11, r11, hl11, hz11, q11⟩ => ?_
        have A4 := mt_append (X := X') _ s11 σ9 H11 (.ref s2.heap.objs.size) [y] (.ref s2.heap.objs.size) [yv] (fun _ H' => H' = upd H11 s2.heap.objs.size (.lst (ys ++ [y]))) I11 rfl (.cons r11 .nil) ⟨_, ys, y, rfl, rfl, hl11, hz11, rfl⟩
        rw [eP, eW, eA, eX] at A4
        refine thn A4 fun _ s12 ⟨_, H12, I12, _, e12⟩ => ?_
        subst e12
        obtain ⟨m', hm, w'⟩ := hNN _ _ q11
        obtain ⟨t1, t2, t3⟩ := again I12
        exact ⟨m', hm, i + 1, _, _, t3, t1, t2, w'⟩
  have e5 : ({ s2 with heap := h₁, toks := s2.toks } : Shared) = { s3 with heap := h₁, toks := s2.toks } := by rw [← hs3]
  exact codeAny_compStart_list (loop _ e5) (T.self _ 0 _ _ _ (T.keep _ _ _ st3 fun b _ o e => up34 b o e) (loop _ e5))

/-- [elt for tg in iter if c] -/
theorem pe_compC (c : CompOkC X scope N' fr own) (hc : X.calm = true) (hi : PI X tg iter wi)
    (hg : ∀ C fp s H, PG (compCxC X scope N' C fp s H) tg g) (ho : GOwn own g) (ht : ∀ C fp s H, PTs (compCxC X scope N' C fp s H) ifs ti) (he : ∀ C fp s H, PE (compCxC X scope N' C fp s H) elt te)
    (hs : ∀ x, foldedSetIterable iter X.env x = pure x := by intro _; rfl) : PE X (.ListComp elt [⟨tg, iter, ifs, 0⟩] scope pos) (tComp wi fr g ti te) := by
  intro pins s σ H Q I h
  rw [eval_ListComp]
  refine wpAny_comprehension_free (use := none) rfl hs (closureFor_eq (c.hfree I)) c.kind c.hnames (thn (hi pins s σ H _ I h) fun v s1 h1 => thn h1 fun itv s2 h2 => ?_)
  obtain ⟨it, fp, tn, J, H2, e, I2, T, st2, f2, R⟩ := h2
  subst e
  refine comp_blockC (RR := fun acc C => compPost (model X.prog X.w) X.A X.xe none (EP X pins σ Q) acc C) c hc hg ho ht he I2 T st2 f2 R ?_
  intro l C s' H' I' hn hC hle q
  obtain ⟨m, hn⟩ := hn
  refine ⟨m, hn, fun h' hs' => ⟨.ref l, H', ?_, rfl, q⟩⟩
  have cl : ∀ x cc, X.env.cells.lookup x = some cc → cc ≠ C := fun x cc e z => by
    obtain ⟨v, o, ho, _⟩ := I2.cell x cc e
    exact absurd (Nat.lt_of_lt_of_le (Heap.lt_size ho) (by rw [z]; exact hle)) (Nat.lt_irrefl _)
  exact I'.turned (t' := s'.toks) (fun b o hb e => hs'.extBut b o hb e) hC (Nat.ne_of_gt (Nat.lt_of_lt_of_le I2.lt hle)) (.inr (Nat.le_trans I2.sz hle)) cl fun p hp z =>
    absurd (Nat.lt_of_lt_of_le (Heap.lt_size (I2.pin p hp).1) (by rw [z]; exact hle)) (Nat.lt_irrefl _)

/-- y = [elt for tg in iter if c], where the stores are exchanged -/
theorem ps_compC {i : Nat} {y : Str} {py spos : Pos} (c : CompOkC X scope N' fr own) (hc : X.calm = true) (hN : X.N.Nodup) (hy : X.N[i]? = some y) (hx : X.env.scope.names.lookup y = some .local) (hi : PI X tg iter wi)
    (hg : ∀ C fp s H, PG (compCxC X scope N' C fp s H) tg g) (ho : GOwn own g) (ht : ∀ C fp s H, PTs (compCxC X scope N' C fp s H) ifs ti) (he : ∀ C fp s H, PE (compCxC X scope N' C fp s H) elt te)
    (hsw : swapsWith (.ListComp elt [⟨tg, iter, ifs, 0⟩] scope pos) (some (.Name y py)) spos.line X.env = pure true := by rfl)
    (hs : ∀ x, foldedSetIterable iter X.env x = pure x := by intro _; rfl) : PS X (.Assign [.Name y py] (.ListComp elt [⟨tg, iter, ifs, 0⟩] scope pos) spos) (tAsg (tComp wi fr g ti te) (gName i)) := by
  intro pins s σ H D I h
  rw [exec_Assign_Name_used _ _ _ _ hsw]
  refine wpAny_bind (wpAny_standAt (wpAny_bind ?_))
  show wpAny _ X.A (do let _ ← comprehension (.ListComp elt [⟨tg, iter, ifs, 0⟩] scope pos) scope X.env _ (newList []) false (eval iter X.env) (some (assign (.Name y py) X.env))) _ _ s
  refine wpAny_bind (wpAny_mono (wpAny_comprehension_free (use := some (assign (.Name y py) X.env)) (Q := fun _ s' => SP X pins D .next s') rfl hs (closureFor_eq (c.hfree I)) c.kind c.hnames
    (thn (hi pins s σ H _ I h) fun v s1 h1 => thn h1 fun itv s2 h2 => ?_)) (fun _ s' hq => wpAny_pure (wpAny_pure hq)) fun _ _ e => e)
  obtain ⟨it, fp, tn, J, H2, e, I2, T, st2, f2, R⟩ := h2
  subst e
  refine comp_blockC (Q := fun x H1 => gName i x σ H1 D.nx) (RR := fun acc C => compPost (model X.prog X.w) X.A X.xe (some (assign (.Name y py) X.env)) (fun _ s' => SP X pins D .next s') acc C) c hc hg ho ht he I2 T st2 f2 R ?_
  intro l C s' H' I' hn hC hle q
  obtain ⟨m, hn⟩ := hn
  have cl : ∀ x cc, X.env.cells.lookup x = some cc → cc ≠ C := fun x cc e z => by
    obtain ⟨v, o, ho, _⟩ := I2.cell x cc e
    exact absurd (Nat.lt_of_lt_of_le (Heap.lt_size ho) (by rw [z]; exact hle)) (Nat.lt_irrefl _)
  show wpAny _ X.A (assign (.Name y py) X.env (.ref l)) _ _ s'
  refine wpAny_assign_Name (store_ok2 I' hN hy (.inl hx) (v := .ref l) rfl (fun s5 I5 hsb => ?_) (.inr hx))
  obtain ⟨a, hsb, ha⟩ := hsb
  have hCa : C ≠ a := by
    rcases ha with e | e
    · rw [e]; exact Nat.ne_of_gt (Nat.lt_of_lt_of_le I2.lt hle)
    · exact Ne.symm (cl _ _ e)
  refine ⟨m, hn.sameBut hsb hCa, fun h' hs' => ⟨_, H', ?_, q⟩⟩
  exact I5.turned (t' := s5.toks) (fun b o hb e => hs'.extBut b o hb e) hC (Nat.ne_of_gt (Nat.lt_of_lt_of_le I2.lt hle)) (.inr (Nat.le_trans I2.sz hle)) cl fun p hp z =>
    absurd (Nat.lt_of_lt_of_le (Heap.lt_size (I2.pin p hp).1) (by rw [z]; exact hle)) (Nat.lt_irrefl _)

end
end L2

set_option Elab.async false
set_option linter.all false
set_option maxRecDepth 100000
/-! enumerate in a comprehension; lists of the same things -/
namespace L2
open PySem PySem.Spec PyProof.Rows
theorem comp_enum {K : PySem.W.Frag} {a : Addr} {xs : List V} {fr : List (Option Nat)} {g : TG} {ti : TT} {te : TE} {σ : St} {H1 : Hp} {l : Addr} {Q : VK} (Pv : Nat → List V → Hp → Prop) (h0 : Pv 0 [] (upd H1 l (.lst []))) (hl : ∀ i zs H, Pv i zs H → SqL K H a xs)
    (hs : ∀ i x zs H T, xs[i]? = some x → Pv i zs H → H T = none → CTurn fr g ti te σ l (.ref T) zs (upd H T (.tup [.int (i : Int), x])) (Pv (i + 1))) (hd : ∀ zs H, Pv xs.length zs H → Q (.ref l) H) : CGoal (Ite K a) fr g ti te σ H1 l Q := by
  refine ⟨fun i m zs H => m = xs.length - i ∧ i ≤ xs.length ∧ Pv i zs H, ⟨xs.length, by simp, Nat.zero_le _, h0⟩, ?_⟩
  rintro i m zs H ⟨rfl, hi, p⟩
  have qa := hl i zs H p
  by_cases hlt : i < xs.length
  · refine .inr ⟨⟨xs, xs[i], qa, by simp [hlt]⟩, Pv (i + 1), fun zs' H' p' => ⟨xs.length - (i + 1), by omega, rfl, hlt, p'⟩, fun x H' y => ?_⟩
    obtain ⟨T, x', rfl, hT, rfl, hxy⟩ := y
    exact hs i x' zs _ T (hxy xs qa) p hT
  · have e : i = xs.length := by omega
    subst e
    exact .inl ⟨⟨xs, qa, Nat.le_refl _⟩, hd zs H p⟩
section
variable {X : Cx}
theorem vals_refs : ∀ {xs : List V} {us vs : List Value}, (∀ x ∈ xs, ∃ a, x = .ref a) → Vals xs us → Vals xs vs → us = vs
  | [], _, _, _, .nil, .nil => rfl
  | x :: xs, _, _, h, .cons r rr, .cons q qq => by
    obtain ⟨a, rfl⟩ := h x List.mem_cons_self
    cases r
    cases q
    rw [vals_refs (fun y hy => h y (List.mem_cons_of_mem _ hy)) rr qq]
/-- lists of the very same things -/
def rNeR : R2 := fun x y H Q => ∃ a b xs, x = .ref a ∧ y = .ref b ∧ H a = some (.lst xs) ∧ H b = some (.lst xs) ∧ (∀ x ∈ xs, ∃ a, x = .ref a) ∧ Q (.bl false) H
theorem op_neR (hu : X.A.units + 64 < cLine) : OpR X (compareOp .NotEq) rNeR := by
  intro pins s σ H x y v u Q I rx ry h
  obtain ⟨a, b, xs, rfl, rfl, ha, hb, hr, q⟩ := h
  cases rx
  cases ry
  obtain ⟨its, rv, p, _⟩ := I.list (SqL.of (K := X.K) ha)
  obtain ⟨its2, rv2, p2, _⟩ := I.list (SqL.of (K := X.K) hb)
  have e := vals_refs hr rv rv2
  subst e
  refine PySem.SeqAt.RcNeAt.lists (e := fun _ => true) p.isList p2.isList rfl (by omega) (fun j h1 h2 => PySem.SeqAt.EqAt.same _) _ _ _ _ ⟨.bl _, H, I, rfl, ?_⟩
  have e : (!(List.range its.toArray.size).all fun _ => true) = false := by simp
  rw [e]
  exact q
end
end L2

set_option Elab.async false
set_option linter.all false
set_option maxRecDepth 100000
/-! list(zip(xs, ys)) -/
namespace L2
open PySem PySem.Spec PyProof.Rows
def zObj (TI TO : Addr) (f0 f1 : Value) : Obj := { cls := .type "zip", data := .fields #[f0, f1, .bool false, .ref TI, .ref TO] }
section
variable {prog : Program} {w : World} {A : Around} {E : Value → Shared → Prop} {s : Shared}
theorem upd_z {h : Heap} {z TI TO : Addr} {f0 f1 f1' : Value} (F : Obj → Obj) (e : F (zObj TI TO f0 f1) = zObj TI TO f0 f1') (hi : h.get? z = some (zObj TI TO f0 f1)) : (h.update z F).get? z = some (zObj TI TO f0 f1') := by
  rw [Heap.get?_update_self F hi (by rw [e]; rfl), e]
/-- the owned tuple is not free: up to the draws -/
theorem zip_go {z TI TO i1 i2 : Addr} {N : Nat} {f1 : Value} {Q : Option Value → Shared → Prop} (hz : s.heap.get? z = some (zObj TI TO (.int (N : Int) 0) f1)) (hN : ∃ o, s.heap.get? N = some o) (hTI : IsPair s.heap TI (.ref i1) (.ref i2)) (hTz : TI ≠ z)
    (h : ∀ (h' : Heap) (f1' : Value), h'.get? z = some (zObj TI TO (.int (N : Int) 0) f1') → Heap.SameBut z s.heap h' →
      wpAny (model prog w) A.in1 (Builtin.SmallTypes.nextOf (.ref i1)) (fun x s1 => wpAny (model prog w) A.in1 (Builtin.SmallTypes.nextOf (.ref i2)) (fun y s2 => Q (some (.ref s2.heap.objs.size)) { s2 with heap := s2.heap.push { cls := .type "tuple", data := .seq #[x, y] } })
        (fun e s2 => wpAny (model prog w) A (isInstance e (.type "StopIteration")) (fun b s3 => if b = true then Q none s3 else False) (fun _ _ => False) s2) s1)
        (fun e s2 => wpAny (model prog w) A (isInstance e (.type "StopIteration")) (fun b s3 => if b = true then Q none s3 else False) (fun _ _ => False) s2) { s with heap := h' }) : wpAny (model prog w) A (pyNext (.ref z)) Q E s := by
  have hT : s.TypeIs (.ref z) "zip" := ⟨_, hz, rfl⟩
  obtain ⟨oN, hoN⟩ := hN
  unfold pyNext
  refine wpAny_bind (wpAny_attempt (wpAny_callSpecial?_slot hT PySem.F.slot_zip_next (wpAny_call_entry PySem.F.slot_zip_next hT PySem.F.entry_zip_next ?_ (PySem.F.args_zip_next_1 _))))
  unfold Builtin.«zip.__next__»
  refine wpAny_bind (wpAny_pure ?_)
  refine wpAny_bind (wpAny_field hz rfl rfl (wpAny_bind (wpAny_field hz rfl rfl (wpAny_bind ?_))))
  unfold seqItems?
  refine wpAny_bind (wpAny_load hTI (wpAny_pure ?_))
  dsimp only
  rw [if_neg (by simp)]
  refine wpAny_bind ?_
  unfold Builtin.SmallTypes.ownedTupleIsFree
  refine wpAny_bind (wpAny_field hz rfl rfl ?_)
  refine wpAny_bind (wp_alive ?_)
  rw [Int.toNat_natCast, hoN]
  show wpAny _ _ (if false = true then _ else _) _ _ _
  rw [if_neg (by decide)]
  refine wpAny_bind (wpAny_field hz rfl rfl ?_)
  refine wpAny_mono (Q := fun b s' => b = false ∧ ∃ h' f1', s' = { s with heap := h' } ∧ h'.get? z = some (zObj TI TO (.int (N : Int) 0) f1') ∧ Heap.SameBut z s.heap h') (E := fun _ _ => False) ?first (fun b s' hq => ?rest) (fun _ _ e => e.elim)
  case first =>
    split
    · refine wpAny_bind (wpAny_setField hz rfl (by show 1 < 5; decide) (wpAny_pure ⟨rfl, _, .bool true, rfl, upd_z _ rfl hz, Heap.SameBut.update s.heap z _⟩))
    · exact wpAny_pure ⟨rfl, s.heap, f1, rfl, hz, rfl, fun _ _ => rfl⟩
  case rest =>
    obtain ⟨rfl, h', f1', rfl, hz', sb⟩ := hq
    have H0 := h h' f1' hz' sb
    show wpAny _ _ (if false = true then _ else _) _ _ _
    rw [if_neg (by decide)]
    refine wpAny_bind ?_
    rw [← Array.forIn_toList]
    show wpAny _ _ (forIn [Value.ref i1, Value.ref i2] _ _) _ _ _
    rw [List.forIn_cons]
    have exc : ∀ (e : Value) (s2 : Shared), wpAny (model prog w) A (isInstance e (.type "StopIteration")) (fun b s3 => if b = true then Q none s3 else False) (fun _ _ => False) s2 →
        wpAny (model prog w) A (do
            let __do_lift ← isInstance e (Value.type "StopIteration")
            if __do_lift = true then pure none else throw e) Q E s2 := fun e s2 he => by
      refine wpAny_bind (wpAny_mono he (fun b s3 hb => ?_) fun _ _ x => x.elim)
      cases b with
      | false => rw [if_neg (by decide)] at hb; exact hb.elim
      | true => rw [if_pos rfl] at hb ⊢; exact wpAny_pure hb
    refine wpAny_bind (wpAny_bind (wpAny_holding ?_))
    show wpAny _ _ (if false = true then _ else _) _ _ _
    rw [if_neg (by decide)]
    refine wpAny_bind (wpAny_mono H0 (fun x s1 H1 => wpAny_pure (wpAny_pure ?_)) fun e s2 he => exc e s2 he)
    show wpAny _ _ (forIn [Value.ref i2] _ _) _ _ _
    rw [List.forIn_cons]
    refine wpAny_bind (wpAny_bind (wpAny_holding ?_))
    show wpAny _ _ (if false = true then _ else _) _ _ _
    rw [if_neg (by decide)]
    refine wpAny_bind (wpAny_mono H1 (fun y s2 H2 => wpAny_pure (wpAny_pure ?_)) fun e s2 he => exc e s2 he)
    refine wpAny_pure ?_
    show wpAny _ _ (newTuple [x, y] >>= _) _ _ _
    exact wpAny_bind (wpAny_newTuple (wpAny_pure ⟨_, rfl, wpAny_pure H2⟩) (by show 2 ≤ sizeLine; decide))
theorem next_zip2 {z TI TO i1 i2 l1 l2 : Addr} {N k : Nat} {f1 x y : Value} {xs ys : Array Value} {Q : Option Value → Shared → Prop} (D : ZipApart z TI TO i1 i2 l1 l2) (hz : s.heap.get? z = some (zObj TI TO (.int (N : Int) 0) f1)) (hN : ∃ o, s.heap.get? N = some o) (hTI : IsPair s.heap TI (.ref i1) (.ref i2))
    (h1 : s.heap.IsListIter i1 l1 k) (h2 : s.heap.IsListIter i2 l2 k) (p1 : s.heap.IsList l1 xs) (p2 : s.heap.IsList l2 ys) (hx : xs[k]? = some x) (hy : ys[k]? = some y)
    (h : ∀ h' f1', h'.get? z = some (zObj TI TO (.int (N : Int) 0) f1') → h'.IsListIter i1 l1 (k + 1) → h'.IsListIter i2 l2 (k + 1) → IsPair h' s.heap.objs.size x y → h'.objs.size = s.heap.objs.size + 1 →
      (∀ c o, c ≠ z → c ≠ i1 → c ≠ i2 → s.heap.get? c = some o → h'.get? c = some o) → Q (some (.ref s.heap.objs.size)) { s with heap := h' }) : wpAny (model prog w) A (pyNext (.ref z)) Q E s := by
  refine zip_go hz hN hTI D.TIz fun h' f1' hz' sb => ?_
  have a1 : h'.IsListIter i1 l1 k := h1.at fun o e => (sb.2 _ D.i1z).trans e
  have b1 : h'.IsList l1 xs := p1.at fun o e => (sb.2 _ D.l1z).trans e
  refine wpAny_nextOf_list_item (s := { s with heap := h' }) a1 b1 hx fun h2' a2 sb2 => ?_
  have c1 : h2'.IsListIter i2 l2 k := h2.at fun o e => (sb2.2 _ (Ne.symm D.i12)).trans ((sb.2 _ D.i2z).trans e)
  have d1 : h2'.IsList l2 ys := p2.at fun o e => (sb2.2 _ D.l2i1).trans ((sb.2 _ D.l2z).trans e)
  refine wpAny_nextOf_list_item (s := { s with heap := h2' }) c1 d1 hy fun h3 c2 sb3 => ?_
  have hsz : h3.objs.size = s.heap.objs.size := sb3.1.trans (sb2.1.trans sb.1)
  have hz3 : h3.get? z = some (zObj TI TO (.int (N : Int) 0) f1') := (sb3.2 _ (Ne.symm D.i2z)).trans ((sb2.2 _ (Ne.symm D.i1z)).trans hz')
  have e1 : h3.IsListIter i1 l1 (k + 1) := a2.at fun o e => (sb3.2 _ D.i12).trans e
  show Q (some (.ref h3.objs.size)) { s with heap := h3.push { cls := .type "tuple", data := .seq #[x, y] } }
  rw [hsz]
  refine h _ f1' (Heap.get?_push_of_some _ hz3) (e1.at fun o e => Heap.get?_push_of_some _ e) (c2.at fun o e => Heap.get?_push_of_some _ e) ?_ (by rw [size_push', hsz]) fun c o n1 n2 n3 e => Heap.get?_push_of_some _ ((sb3.2 c n3).trans ((sb2.2 c n2).trans ((sb.2 c n1).trans e)))
  rw [← hsz]
  exact Heap.get?_push_size _ rfl
theorem end_zip2 {z TI TO i1 i2 l1 l2 : Addr} {N k : Nat} {f1 : Value} {xs : Array Value} {Q : Option Value → Shared → Prop} (hA : A.handled = none) (D : ZipApart z TI TO i1 i2 l1 l2) (hz : s.heap.get? z = some (zObj TI TO (.int (N : Int) 0) f1)) (hN : ∃ o, s.heap.get? N = some o) (hTI : IsPair s.heap TI (.ref i1) (.ref i2))
    (h1 : s.heap.IsListIter i1 l1 k) (p1 : s.heap.IsList l1 xs) (hx : xs[k]? = none)
    (h : ∀ h', (∀ c o, c ≠ z → c ≠ i1 → s.heap.get? c = some o → h'.get? c = some o) → Q none { s with heap := h' }) : wpAny (model prog w) A (pyNext (.ref z)) Q E s := by
  refine zip_go hz hN hTI D.TIz fun h' f1' hz' sb => ?_
  have a1 : h'.IsListIter i1 l1 k := h1.at fun o e => (sb.2 _ D.i1z).trans e
  have b1 : h'.IsList l1 xs := p1.at fun o e => (sb.2 _ D.l1z).trans e
  exact wpAny_nextOf_list_end (s := { s with heap := h' }) (by simpa using hA) a1 b1 hx fun h2 e eb ⟨o, ho, hc⟩ => wpAny_isInstance (T := "StopIteration") ⟨o, ho, hc⟩ sub_stop (by rw [if_pos rfl]; exact h h2 fun c o n1 n2 q => eb c o n2 ((sb.2 c n1).trans q))
/-- the zip at its i-th turn -/
structure ZSt (al : Nat → Prop) (z TI TO i1 i2 a b : Addr) (i : Nat) (h : Heap) : Prop where
  to : ∃ p q, IsPair h TO p q
  ti : IsPair h TI (.ref i1) (.ref i2)
  it1 : h.IsListIter i1 a i
  it2 : h.IsListIter i2 b i
  z : (i = 0 ∧ IsZip h z TI TO .none) ∨ (0 < i ∧ ∃ (N : Nat) (f1 : Value), h.get? z = some (zObj TI TO (.int (N : Int) 0) f1) ∧ al N)
theorem ZSt.next {al : Nat → Prop} {z TI TO i1 i2 a b : Addr} {i : Nat} {x y : Value} {xs ys : Array Value} {Q : Option Value → Shared → Prop} (D : ZipApart z TI TO i1 i2 a b) (hal : ∀ N, al N → ∃ o, s.heap.get? N = some o) (st : ZSt al z TI TO i1 i2 a b i s.heap) (p1 : s.heap.IsList a xs) (p2 : s.heap.IsList b ys) (hx : xs[i]? = some x) (hy : ys[i]? = some y)
    (h : ∀ (h' : Heap) (N : Nat) (f1 : Value), h'.get? z = some (zObj TI TO (.int (N : Int) 0) f1) → (N = s.heap.objs.size ∨ al N) → (∃ p q, IsPair h' TO p q) → h'.IsListIter i1 a (i + 1) → h'.IsListIter i2 b (i + 1) → IsPair h' s.heap.objs.size x y →
      (∀ c o, c ≠ z → c ≠ TO → c ≠ i1 → c ≠ i2 → s.heap.get? c = some o → h'.get? c = some o) → Q (some (.ref s.heap.objs.size)) { s with heap := h' }) : wpAny (model prog w) A (pyNext (.ref z)) Q E s := by
  obtain ⟨p, q, hTO⟩ := st.to
  rcases st.z with ⟨_, hz⟩ | ⟨_, N, f1, hz, ho⟩
  · exact wpAny_pyNext_zip_item D hz st.ti hTO st.it1 st.it2 p1 p2 hx hy fun h' a1 a2 a3 a4 a5 a6 a7 => h h' s.heap.objs.size (.bool false) a1 (.inl rfl) ⟨_, _, a2⟩ a3 a4 a5 a7
  · exact next_zip2 D hz (hal N ho) st.ti st.it1 st.it2 p1 p2 hx hy fun h' f1' a1 a3 a4 a5 a6 a7 => h h' N f1' a1 (.inr ho) ⟨_, _, a7 _ _ D.TOz D.TOi1 D.TOi2 hTO⟩ a3 a4 a5 fun c o n1 _ n3 n4 e => a7 c o n1 n3 n4 e
end
/-- pairs made of two rows -/
def PrZ (H : Hp) (v : V) (p : V × V) : Prop := ∃ t, v = .ref t ∧ H t = some (.tup [p.1, p.2])
section
variable {X : Cx} {pins : List (Addr × Obj)} {σ : St}
theorem loop_zip {A : Around} {z TI TO i1 i2 a b S : Addr} {res : Value} {R : Result → Shared → Prop} {H0 : Hp} {xs ys : List V} (hA : A.handled = none) (D : ZipApart z TI TO i1 i2 a b) (hlen : xs.length = ys.length) (hpos : 0 < xs.length) (hz : xs.length ≤ 1000)
    (hS : S ≠ z ∧ S ≠ TI ∧ S ≠ TO ∧ S ≠ i1 ∧ S ≠ i2) (ha : H0 a = some (.lst xs)) (hb : H0 b = some (.lst ys)) :
    ∀ (k i : Nat) (s : Shared) (H : Hp) (acc : List Value) (c : Nat) (out : List V), xs.length - i = k → i ≤ xs.length → Inv X pins σ H s → Same H0 H → (∀ q ∈ [z, TI, TO, i1, i2, S], FpOk X pins H q) → ZSt (fun N => ∃ l, H N = some (.tup l)) z TI TO i1 i2 a b i s.heap →
      s.heap.get? S = some { cls := .type "list", data := .seq acc.toArray c } → Vals out acc → Paired (PrZ H) out ((xs.zip ys).take i) →
      (∀ (s' : Shared) (H' : Hp) (acc' : List Value) (c' : Nat) (out' : List V), Inv X pins σ H' s' → Same H0 H' → FpOk X pins H' S → s'.heap.get? S = some { cls := .type "list", data := .seq acc'.toArray c' } → Vals out' acc' → Paired (PrZ H') out' (xs.zip ys) → R (.ok (.ret res)) s') →
      codeAny (model X.prog X.w) A (.builtin "list.extend.loop" ⟨[.ref S, .ref z, res], []⟩) R s := by
  have hzl : (xs.zip ys).length = xs.length := by rw [List.length_zip]; omega
  intro k
  induction k with
  | zero =>
    intro i s H acc c out hk hi I g0 ff st hSl hv hP hR
    have hin : i = xs.length := by omega
    subst hin
    obtain ⟨its1, rv1, p1, z1⟩ := I.list (SqL.of (K := X.K) (g0 _ _ ha))
    have l1 := rv1.length
    refine codeAny_builtin PySem.F.entry_extend_loop ?_
    rw [Around.under_plainId PySem.F.plain_extend_loop _]
    show wpAny _ A.in1 (pyNext (.ref z) >>= _) _ _ s
    rcases st.z with ⟨h0, _⟩ | ⟨_, N, f1, hz', hal⟩
    · omega
    · obtain ⟨lN, hlN⟩ := hal
      have hoN : ∃ o, s.heap.get? N = some o := by
        obtain ⟨_, _, ⟨o, ho, _⟩, _⟩ := I.tuple (SqT.of (K := X.K) hlN)
        exact ⟨o, ho⟩
      refine wpAny_bind (end_zip2 (by simpa using hA) D hz' hoN st.ti st.it1 p1.isList (by simp; omega) fun h' kp => ?_)
      have kk : ∀ q o, q ∉ [z, i1] → s.heap.get? q = some o → h'.get? q = some o := fun q o hq e => by
        simp only [List.mem_cons, List.not_mem_nil, or_false, not_or] at hq
        exact kp q o hq.1 hq.2 e
      have hf2 : ∀ q ∈ [z, i1], FpOk X pins H q := fun q hq => ff q (by
        simp only [List.mem_cons, List.not_mem_nil, or_false] at hq ⊢
        rcases hq with h | h
        · exact .inl h
        · exact .inr (.inr (.inr (.inl h))))
      have nch : ∀ q u, H q = some u → q ∉ [z, i1] := fun q u e zz => by rw [(hf2 q zz).1] at e; cases e
      have I' : Inv X pins σ H { s with heap := h' } := by
        refine I.step (g' := s.gens) (d' := s.drawn) (t' := s.toks) (ch := [z, i1]) (fun q hq => ?_) (fun q o _ _ hc e _ => kk q o hc e) (fun q o _ _ hc e _ => ⟨o.slots, kk q o hc e⟩) (fun _ _ _ _ n => n)
          (fun q o hc e => ⟨o, kk q o hc e⟩) (fun _ _ e => e) (fun _ _ _ e => e) (fun q ps e => ⟨#[], by rw [e]; simp⟩) (fun m hm => ?_) (fun q u e => ?_) I.bare
        · obtain ⟨f0, f1, f2, f3, f4, f5⟩ := hf2 q hq
          exact ⟨f3, f1, f4, f5⟩
        · obtain ⟨o, es, ep, ho, rr⟩ := hm
          exact ⟨o, es, ep, kk _ o (fun zz => (hf2 _ zz).2.1 rfl) ho, rr⟩
        · refine (I.hok q u e).stay (fun c v hc e' => kk c v ?_ e') (fun _ e' => e') fun _ _ e' => e'
          rcases hc with y | y
          · rw [y]; exact nch q u e
          · exact nch c _ y
      rw [List.take_of_length_le (by omega)] at hP
      exact wpAny_pure (hR _ H acc c out I' g0 (ff S (by simp)) (kp S _ hS.1 hS.2.2.2.1 hSl) hv hP)
  | succ k ih =>
    intro i s H acc c out hk hi I g0 ff st hSl hv hP hR
    have hlt : i < xs.length := by omega
    obtain ⟨its1, rv1, p1, z1⟩ := I.list (SqL.of (K := X.K) (g0 _ _ ha))
    obtain ⟨its2, rv2, p2, z2⟩ := I.list (SqL.of (K := X.K) (g0 _ _ hb))
    obtain ⟨u1, hu1, ru1⟩ := rv1.get (List.getElem?_eq_getElem hlt)
    obtain ⟨u2, hu2, ru2⟩ := rv2.get (List.getElem?_eq_getElem (show i < ys.length by omega))
    refine codeAny_builtin PySem.F.entry_extend_loop ?_
    rw [Around.under_plainId PySem.F.plain_extend_loop _]
    show wpAny _ A.in1 (pyNext (.ref z) >>= _) _ _ s
    refine wpAny_bind (ZSt.next D (fun N hal => by
      obtain ⟨lN, hlN⟩ := hal
      obtain ⟨_, _, ⟨o, ho, _⟩, _⟩ := I.tuple (SqT.of (K := X.K) hlN)
      exact ⟨o, ho⟩) st p1.isList p2.isList (by simpa using hu1) (by simpa using hu2) fun h' N f1 a1 aN aTO a3 a4 a5 kp => ?_)
    have hSl' := kp S _ hS.1 hS.2.2.1 hS.2.2.2.1 hS.2.2.2.2 hSl
    have hal : acc.length = i := by
      have h1 := hv.length
      have h2 := Paired.length hP
      rw [List.length_take] at h2
      omega
    refine wpAny_bind (listUpdate_at hSl' rfl ?_ (by rw [List.size_toArray, sizeLine_eq]; omega) (by rw [Array.size_push, List.size_toArray, sizeLine_eq]; omega))
    have hS2 := get?_update_seq (h := h') (a := S) (c := "list") (xs := acc.toArray) (n := c) hSl' (fun x => x.push (.ref s.heap.objs.size))
    have sb := Heap.SameBut.update h' S (Obj.mapSeq fun x => x.push (.ref s.heap.objs.size))
    generalize h'.update S (Obj.mapSeq fun x => x.push (.ref s.heap.objs.size)) = h2 at hS2 sb
    generalize (if ((acc.toArray.push (Value.ref s.heap.objs.size)).size == acc.toArray.size) = true then c else c + 1) = c2 at hS2
    have nS : s.heap.objs.size ≠ S := Nat.ne_of_gt (Heap.lt_size hSl)
    have kk : ∀ q o, q ∉ [z, TO, i1, i2, S] → s.heap.get? q = some o → h2.get? q = some o := fun q o hq e => by
      simp only [List.mem_cons, List.not_mem_nil, or_false, not_or] at hq
      exact (sb.2 q hq.2.2.2.2).trans (kp q o hq.1 hq.2.1 hq.2.2.1 hq.2.2.2.1 e)
    have ff2 : ∀ q ∈ [z, TO, i1, i2, S], FpOk X pins H q := fun q hq => ff q (by
      simp only [List.mem_cons, List.not_mem_nil, or_false] at hq ⊢
      rcases hq with h | h | h | h | h
      · exact .inl h
      · exact .inr (.inr (.inl h))
      · exact .inr (.inr (.inr (.inl h)))
      · exact .inr (.inr (.inr (.inr (.inl h))))
      · exact .inr (.inr (.inr (.inr (.inr h)))))
    have I2 : Inv X pins σ (upd H s.heap.objs.size (.tup [xs[i], ys[i]])) { s with heap := h2, toks := s.toks } := I.turnedN (t' := s.toks) (ch := [z, TO, i1, i2, S]) (us := [u1, u2]) ff2 kk (Nat.le_refl _) (by show 2 ≤ sizeLine; decide) (.cons ru1 (.cons ru2 .nil))
      ⟨_, (sb.2 _ nS).trans a5, rfl, _, rfl⟩
    have hN0 := I.hok.fresh (Nat.le_refl s.heap.objs.size)
    have gN : Same H (upd H s.heap.objs.size (.tup [xs[i], ys[i]])) := fun q u e => by rw [upd_ne (ne_of_none e hN0)]; exact e
    have hlt2 : ∀ q ∈ [z, TI, TO, i1, i2, S], q ≠ s.heap.objs.size := fun q hq e => by
      have e0 : ∀ o, s.heap.get? q = some o → False := fun o ho => by have := Heap.lt_size ho; rw [e] at this; exact Nat.lt_irrefl _ this
      simp only [List.mem_cons, List.not_mem_nil, or_false] at hq
      obtain ⟨o1, q1, _⟩ := st.it1
      obtain ⟨o2, q2, _⟩ := st.it2
      rcases hq with rfl | rfl | rfl | rfl | rfl | rfl
      · rcases st.z with ⟨_, hzz⟩ | ⟨_, _, _, hzz, _⟩
        · exact e0 _ hzz
        · exact e0 _ hzz
      · exact e0 _ st.ti
      · obtain ⟨_, _, hTO⟩ := st.to
        exact e0 _ hTO
      · exact e0 _ q1
      · exact e0 _ q2
      · exact e0 _ hSl
    have hei : (xs.zip ys)[i]? = some (xs[i], ys[i]) := by rw [List.getElem?_zip_eq_some]; exact ⟨List.getElem?_eq_getElem hlt, List.getElem?_eq_getElem (by omega)⟩
    refine wpAny_pure ⟨plainId_quiet PySem.F.plain_extend_loop _, ih (i + 1) _ (upd H s.heap.objs.size (.tup [xs[i], ys[i]])) (acc ++ [.ref s.heap.objs.size]) c2 (out ++ [.ref s.heap.objs.size]) (by omega) hlt I2 (fun q u e => gN _ _ (g0 _ _ e)) (fun q hq => fp_upd (ff q hq) (hlt2 q hq)) ⟨?_, ?_, ?_, ?_, .inr ⟨Nat.succ_pos _, N, f1, ?_, ?_⟩⟩ ?_ (Paired.snoc hv (show RelV (.ref s.heap.objs.size) (.ref s.heap.objs.size) from rfl)) ?_ hR⟩
    · obtain ⟨p, q, e⟩ := aTO
      exact ⟨p, q, (sb.2 _ (Ne.symm hS.2.2.1)).trans e⟩
    · exact (sb.2 _ (Ne.symm hS.2.1)).trans (kp _ _ D.TIz D.TITO D.TIi1 D.TIi2 st.ti)
    · exact a3.at fun o e => (sb.2 _ (Ne.symm hS.2.2.2.1)).trans e
    · exact a4.at fun o e => (sb.2 _ (Ne.symm hS.2.2.2.2)).trans e
    · exact (sb.2 _ (Ne.symm hS.1)).trans a1
    · rcases aN with e | ⟨lN, e⟩
      · rw [e]; exact ⟨_, upd_same⟩
      · exact ⟨lN, gN _ _ e⟩
    · rw [← List.push_toArray]; exact hS2
    · rw [List.take_add_one, hei]
      exact Paired.snoc (Paired.mapP hP fun _ _ zz => let ⟨t, e1, e2⟩ := zz; ⟨t, e1, gN _ _ e2⟩) ⟨_, rfl, upd_same⟩
end
end L2

set_option Elab.async false
set_option linter.all false
set_option maxRecDepth 100000
namespace L2
open PySem PySem.Spec PyProof.Rows
section
variable {X : Cx} {pins : List (Addr × Obj)} {σ : St} {H : Hp} {s : Shared}
/-- an object of one's own, tracked from now on -/
theorem Inv.track {S : Addr} {xs : List V} (I : Inv X pins σ H s) (f : FpOk X pins H S) (hx : ObjOk X.prog X.w (upd H S (.lst xs)) s.heap S (.lst xs)) : Inv X pins σ (upd H S (.lst xs)) s := by
  obtain ⟨f0, f1, f2, f3, f4, f5⟩ := f
  have := I.step (h' := s.heap) (H' := upd H S (.lst xs)) (g' := s.gens) (t' := s.toks) (d' := s.drawn) (ch := [S]) (fun b hb => by
      have e : b = S := by simpa using hb
      subst e
      exact ⟨f3, f1, f4, f5⟩) (fun b o _ _ _ e _ => e) (fun b o _ _ _ e _ => ⟨o.slots, e⟩) (fun b o hb _ n => by rw [upd_ne (by simpa using hb)]; exact n) (fun b o _ e => ⟨o, e⟩)
    (fun b ys e => by rw [upd_ne (ne_of_none e f0)]; exact e) (fun b o u e => by rw [upd_ne (ne_of_none e f0)]; exact e) (fun b ps e => ⟨#[], by rw [upd_ne (ne_of_none e f0), e]; simp⟩) (fun m hm => hm) (fun b u e => by
      by_cases hb : b = S
      · subst hb
        rw [upd_same] at e
        cases e
        exact hx
      · rw [upd_ne hb] at e
        exact (I.hok b u e).stay (fun c v _ q => q) (fun c q => by rw [upd_ne (ne_of_none q f0)]; exact q) fun c ys q => by rw [upd_ne (ne_of_none q f0)]; exact q) I.bare
  exact this
theorem zip_len : typeLookup (.type "zip") "__len__" = pure none := by rw [typeLookup_type, builtinLookup_eq_fast]; kernel_rfl
theorem zip_hint : typeLookup (.type "zip") "__length_hint__" = pure none := by rw [typeLookup_type, builtinLookup_eq_fast]; kernel_rfl
theorem list_of_zip {A : Around} {E : Value → Shared → Prop} {z TI TO i1 i2 a b : Addr} {xs ys : List V} {Q : Value → Shared → Prop} (hh : A.handled = none) (I : Inv X pins σ H s) (D : ZipApart z TI TO i1 i2 a b) (hlen : xs.length = ys.length) (hpos : 0 < xs.length) (hz : xs.length ≤ 1000) (ha : H a = some (.lst xs)) (hb : H b = some (.lst ys))
    (ff : ∀ q ∈ [z, TI, TO, i1, i2], FpOk X pins H q) (st : ZSt (fun N => ∃ l, H N = some (.tup l)) z TI TO i1 i2 a b 0 s.heap)
    (hQ : ∀ (s' : Shared) (H' : Hp) (out : List V), Same H H' → H s.heap.objs.size = none → Paired (PrZ H') out (xs.zip ys) → Inv X pins σ (upd H' s.heap.objs.size (.lst out)) s' → H' s.heap.objs.size = none → Q (.ref s.heap.objs.size) s') :
    wpAny (model X.prog X.w) A (call (.type "list") [.ref z]) Q E s := by
  have inh : ∀ q ∈ [z, TI, TO, i1, i2], q ≠ s.heap.objs.size := fun q hq e => by
    have e0 : ∀ o, s.heap.get? q = some o → False := fun o ho => by have := Heap.lt_size ho; rw [e] at this; exact Nat.lt_irrefl _ this
    simp only [List.mem_cons, List.not_mem_nil, or_false] at hq
    obtain ⟨o1, q1, _⟩ := st.it1
    obtain ⟨o2, q2, _⟩ := st.it2
    rcases hq with rfl | rfl | rfl | rfl | rfl
    · rcases st.z with ⟨_, hzz⟩ | ⟨_, _, _, hzz, _⟩
      · exact e0 _ hzz
      · exact e0 _ hzz
    · exact e0 _ st.ti
    · obtain ⟨_, _, hTO⟩ := st.to
      exact e0 _ hTO
    · exact e0 _ q1
    · exact e0 _ q2
  have hS : s.heap.objs.size ≠ z ∧ s.heap.objs.size ≠ TI ∧ s.heap.objs.size ≠ TO ∧ s.heap.objs.size ≠ i1 ∧ s.heap.objs.size ≠ i2 := ⟨Ne.symm (inh z (by simp)), Ne.symm (inh TI (by simp)), Ne.symm (inh TO (by simp)), Ne.symm (inh i1 (by simp)), Ne.symm (inh i2 (by simp))⟩
  have fS : FpOk X pins H s.heap.objs.size := I.fpOk (Nat.le_refl _) (I.hok.fresh (Nat.le_refl _))
  refine callType_codes (Q₁ := fun obj s₁ => obj = .ref s.heap.objs.size ∧ s₁ = { s with heap := s.heap.push { cls := .type "list", data := .seq #[] } }) F.called_list (F.typeCall_list_1 _) F.entry_list_init
    (code_list_new _ ⟨rfl, rfl⟩) fun obj s₁ h₁ => ?_
  obtain ⟨rfl, rfl⟩ := h₁
  have o1 : (s.heap.push { cls := .type "list", data := .seq #[] }).get? s.heap.objs.size = some (seqObj "list" #[] 0) := Heap.get?_push_size _ rfl
  refine ⟨⟨_, o1, rfl⟩, F.args_list_init_2 _ _, ?_⟩
  show wpAny _ A.in1.in1 (Builtin.List.listItems (.ref s.heap.objs.size) >>= fun old => Builtin.List.listUpdate (.ref s.heap.objs.size) (fun _ => #[]) >>= fun _ => letGo old.toList.reverse >>= fun _ => Builtin.List.listExtendWith (.ref s.heap.objs.size) (.ref z) .none) _ _ _
  refine wpAny_bind (listItems_at o1 rfl (wpAny_bind (listUpdate_at o1 rfl ?_ (Nat.zero_le _) (Nat.zero_le _))))
  have o2 := get?_update_seq (h := s.heap.push { cls := .type "list", data := .seq #[] }) o1 (fun _ => (#[] : Array Value))
  have oth : ∀ b o, s.heap.get? b = some o → ((s.heap.push { cls := .type "list", data := .seq #[] }).update s.heap.objs.size (Obj.mapSeq (fun _ => (#[] : Array Value)))).get? b = some o := fun b o e =>
    (Heap.get?_update_other _ _ (Nat.ne_of_gt (Heap.lt_size e))).trans (Heap.get?_push_of_some _ e)
  refine wpAny_bind (wpAny_letGo ?_)
  generalize (s.heap.push { cls := .type "list", data := .seq #[] }).update s.heap.objs.size (Obj.mapSeq (fun _ => (#[] : Array Value))) = h2 at o2 oth
  show wpAny _ _ _ _ _ { s with heap := h2 }
  have keepZ : ∀ {h h' : Heap}, ZSt (fun N => ∃ l, H N = some (.tup l)) z TI TO i1 i2 a b 0 h → (∀ q ∈ [z, TI, TO, i1, i2], ∀ o, h.get? q = some o → h'.get? q = some o) → ZSt (fun N => ∃ l, H N = some (.tup l)) z TI TO i1 i2 a b 0 h' := fun {h h'} st k => by
    obtain ⟨p, q, e⟩ := st.to
    refine ⟨⟨p, q, k _ (by simp) _ e⟩, k _ (by simp) _ st.ti, st.it1.at fun o e => k _ (by simp) o e, st.it2.at fun o e => k _ (by simp) o e, ?_⟩
    rcases st.z with ⟨h0, hzz⟩ | ⟨h0, _⟩
    · exact .inl ⟨h0, k _ (by simp) _ hzz⟩
    · exact absurd h0 (Nat.lt_irrefl _)
  have st2 := keepZ st fun q _ o e => oth q o e
  have I2 : Inv X pins σ H { s with heap := h2 } := I.kept (t' := s.toks) oth
  have hzz : IsZip h2 z TI TO .none := by
    rcases st2.z with ⟨_, hzz⟩ | ⟨h0, _⟩
    · exact hzz
    · exact absurd h0 (Nat.lt_irrefl _)
  have ty : Shared.TypeIs { s with heap := h2 } (.ref z) "zip" := ⟨_, hzz, rfl⟩
  have ns : Builtin.List.listSameRef (.ref s.heap.objs.size) (.ref z) = false := by simp [Builtin.List.listSameRef, hS.1]
  unfold Builtin.List.listExtendWith
  refine wpAny_bind (wpAny_typeOf ty ?_)
  rw [if_neg (by rw [ns]; decide)]
  refine wpAny_bind (wpAny_pyIter_zip (s := { s with heap := h2 }) hzz (wpAny_bind (wpAny_holding ?_)))
  unfold Builtin.List.listLengthHint
  refine wpAny_bind (wpAny_specialOf ty zip_len ?_)
  show wpAny _ A.in1.in1 (specialOf (Value.ref z) (Str.ofString "__length_hint__") >>= _) _ _ _
  refine wpAny_bind (wpAny_specialOf ty zip_hint (wpAny_pure ?_))
  rw [if_pos (by rfl)]
  refine wpAny_bind (wpAny_rule ?_)
  refine wpAny_bind ?_
  unfold Builtin.List.listTouch
  refine wpAny_bind (listUpdate_at (s := { s with heap := h2 }) o2 rfl ?_ (Nat.zero_le _) (by show 1 ≤ sizeLine + 1; decide))
  have hS3 := get?_update_seq (h := h2) o2 (fun x => x.push Value.none)
  have sb3 := Heap.SameBut.update h2 s.heap.objs.size (Obj.mapSeq fun x => x.push Value.none)
  generalize h2.update s.heap.objs.size (Obj.mapSeq fun x => x.push Value.none) = h3 at hS3 sb3
  refine listUpdate_at (s := { s with heap := h3 }) hS3 rfl ?_ (by show 1 ≤ sizeLine; decide) (by show 0 ≤ sizeLine + 1; decide)
  have hS4 := get?_update_seq (h := h3) hS3 (fun x => x.pop)
  have sb4 := Heap.SameBut.update h3 s.heap.objs.size (Obj.mapSeq fun x => x.pop)
  generalize h3.update s.heap.objs.size (Obj.mapSeq fun x => x.pop) = h4 at hS4 sb4
  have sb := sb_trans sb3 sb4
  obtain ⟨c4, hS5⟩ : ∃ c4, h4.get? s.heap.objs.size = some { cls := .type "list", data := .seq ([] : List Value).toArray c4 } := ⟨_, hS4⟩
  have I4 : Inv X pins σ H { s with heap := h4 } := by
    obtain ⟨f0, f1, f2, f3, f4, f5⟩ := id fS
    exact I2.turned (t' := s.toks) (fun b o hb e => (sb.2 b hb).trans e) f0 f1 f3 f4 f5
  have st4 := keepZ st2 fun q hq o e => (sb.2 q (inh q hq)).trans e
  refine wpAny_pure ⟨plainId_quiet PySem.F.plain_extend_loop _, loop_zip (pins := pins) (σ := σ) (H0 := H) (by simpa using hh) D hlen hpos hz hS ha hb xs.length 0 _ H [] c4 [] (by omega) (Nat.zero_le _) I4 (fun _ _ q => q) (fun q hq => ?_) st4 hS5 .nil .nil ?_⟩
  · simp only [List.mem_cons, List.not_mem_nil, or_false] at hq
    rcases hq with h | h | h | h | h | h
    · exact ff q (by simp [h])
    · exact ff q (by simp [h])
    · exact ff q (by simp [h])
    · exact ff q (by simp [h])
    · exact ff q (by simp [h])
    · rw [h]; exact fS
  · intro s' H' acc c out I' g fS' hS' hv hP
    refine ⟨rfl, hQ s' H' out g fS.1 hP ?_ fS'.1⟩
    have hl := Paired.length hP
    rw [List.length_zip] at hl
    exact I'.track fS' ⟨by rw [sizeLine_eq]; omega, acc, c, hv, hS'⟩
/-- list(zip(x, y)) -/
theorem pe_listzip {e1 e2 : Expr} {ta : TA} {p1 p2 q1 q2 : Pos} (hc : X.calm = true) (g1 : Gl X "list") (m1 : X.mg "list" = none) (g2 : Gl X "zip") (m2 : X.mg "zip" = none) (ha : PA X [e1, e2] ta)
    (hs : starEach [e1, e2] X.env = [(false, eval e1 X.env), (false, eval e2 X.env)] := by rfl) (hs2 : starEach [e2] X.env = [(false, eval e2 X.env)] := by rfl) : PE X (.Call (.Name "list" p1) [.Call (.Name "zip" p2) [e1, e2] [] q2] [] q1) (fun σ H Q => ta σ H fun vs H1 => ∃ a b xs ys, vs = [.ref a, .ref b] ∧ H1 a = some (.lst xs) ∧ H1 b = some (.lst ys) ∧ xs.length = ys.length ∧ 0 < xs.length ∧ xs.length ≤ 1000 ∧
      ∀ l H' out, H1 l = none → Same H1 H' → H' l = some (.lst out) → Paired (PrZ H') out (xs.zip ys) → Q (.ref l) H') := by
  intro pins s σ H Q I h
  refine wpAny_Call_Name_kw (ld_blt I g1 m1 bt_list' ?_)
  refine PyProof.Rows.callWith_type1 ?_ rfl rfl
  show wpAny _ _ (spliced ((false, eval (.Call (.Name "zip" p2) [e1, e2] [] q2) X.env) :: backTo q1 (starEach [] X.env))) _ _ s
  refine Calls.spliced_cons (wpAny_Call_Name_kw (ld_blt I g2 m2 bt_zip (PyProof.Rows.callWith_type1 (thn (ha q2 pins s σ H _ I h) fun us s1 ⟨vs, H1, I1, r1, q1⟩ => ?_) (by rw [hs, hs2]) (by rw [hs2]; rfl))))
  obtain ⟨a, b, xs, ys, e, hxa, hyb, hlen, hpos, hz, q⟩ := q1
  subst e
  cases r1 with
  | cons r rr =>
    cases rr with
    | cons r' rr =>
      cases rr
      cases r
      cases r'
      obtain ⟨its1, rv1, p1, z1⟩ := I1.list (SqL.of (K := X.K) hxa)
      obtain ⟨its2, rv2, p2, z2⟩ := I1.list (SqL.of (K := X.K) hyb)
      have lt1 : a < s1.heap.objs.size := by obtain ⟨_, e, _⟩ := p1.isList; exact Heap.lt_size e
      have lt2 : b < s1.heap.objs.size := by obtain ⟨_, e, _⟩ := p2.isList; exact Heap.lt_size e
      refine call_zip_2 p1.isList p2.isList fun h' hz' hTI hTO hi1 hi2 hsz hk => ?_
      refine Calls.spliced_nil ?_
      have I2 : Inv X pins σ H1 { s1 with heap := h' } := I1.kept (t' := s1.toks) hk
      refine list_of_zip (s := { s1 with heap := h' }) (I1.ok.hd hc) I2 (zipApart_new lt1 lt2) hlen hpos hz hxa hyb (fun q hq => ?_) ⟨⟨_, _, hTO⟩, hTI, hi1, hi2, .inl ⟨rfl, hz'⟩⟩ fun s' H' out g hn hP I' hn' => ?_
      · have hge : s1.heap.objs.size ≤ q := by
          simp only [List.mem_cons, List.not_mem_nil, or_false] at hq
          rcases hq with h | h | h | h | h
          · rw [h]; exact Nat.le_add_right _ _
          · rw [h]; exact Nat.le_add_right _ _
          · rw [h]; exact Nat.le_add_right _ _
          · rw [h]; exact Nat.le_refl _
          · rw [h]; exact Nat.le_add_right _ _
        exact I1.fpOk hge (I1.hok.fresh hge)
      · refine ⟨.ref h'.objs.size, _, I', rfl, q h'.objs.size _ out hn (fun b o e => ?_) upd_same (Paired.mapP hP fun _ _ zz => ?_)⟩
        · rw [upd_ne (ne_of_none (g _ _ e) hn')]; exact g _ _ e
        · obtain ⟨t, e1, e2⟩ := zz
          exact ⟨t, e1, by rw [upd_ne (ne_of_none e2 hn')]; exact e2⟩
end
end L2

set_option Elab.async false
set_option linter.all false
set_option maxRecDepth 100000
namespace L2
open PySem PySem.Spec PyProof.Rows
theorem dedup_nd : ∀ (ns acc : List Int), (acc ++ ns).Nodup → ns.foldl step_dedup acc = acc ++ ns
  | [], acc, _ => by simp
  | n :: ns, acc, h => by
    have hn : n ∉ acc := fun hm => by
      rw [List.nodup_append] at h
      exact h.2.2 n hm n List.mem_cons_self rfl
    have e : step_dedup acc n = acc ++ [n] := by
      unfold step_dedup
      simp [hn]
    rw [List.foldl_cons, e, dedup_nd ns (acc ++ [n]) (by rw [List.append_assoc]; exact h), List.append_assoc]
    rfl
theorem getD_range (ns : List Int) : (List.range ns.length).map (fun i => ns.getD i 0) = ns := by
  apply List.ext_getElem
  · simp
  · intro i h1 h2
    simp [h2]
theorem first_nd {ns : List Int} (h : ns.Nodup) : firstMet (fun i => ns.getD i 0) ns.length = ns := by
  unfold firstMet
  rw [getD_range]
  have := dedup_nd ns [] (by simpa using h)
  simpa using this
section
variable {X : Cx}
/-- set(xs), the numbers all different -/
theorem call_setN (hc : X.calm = true) : CallR X (.type "set") (fun xs H Q => ∃ (p : Addr) (ns : List Int), xs = [.ref p] ∧ SqL X.K H p (ns.map V.int) ∧ ns.Nodup ∧ ns.length ≤ 100 ∧ ∀ a S, H a = none → Q (.ref a) (upd H a (.set S ns.length))) := by
  intro pins s σ H xs us Q I r h
  obtain ⟨p, ns, rfl, hp, hnd, hl, q⟩ := h
  obtain ⟨u, rfl, ru⟩ := vals1 r
  cases ru
  obtain ⟨its, rv, pl, hz⟩ := I.list hp
  have hlen := rv.length
  rw [List.length_map] at hlen
  have hi := intsAre_of rv
  refine call_set_list (ns := ns) (I.ok.hd hc) pl.isList (by simpa using hi) (by rw [List.size_toArray]; show its.length + 1 < 4096; omega) fun h' tk hS kp => ?_
  have ez : its.toArray.size = ns.length := by rw [List.size_toArray]; exact hlen.symm
  rw [ez, first_nd hnd] at hS
  exact ⟨.ref s.heap.objs.size, _, I.laid (t' := tk) (o := .set _ ns.length) (fun b o e => kp b o (Heap.lt_size e) e) (Nat.le_refl _) hS, rfl, q _ _ (I.hok.fresh (Nat.le_refl _))⟩
theorem call_lenS : CallR X (.builtin "len") (fun xs H Q => ∃ a S n, xs = [.ref a] ∧ H a = some (.set S n) ∧ n ≤ 1000 ∧ Q (.int n) H) := by
  intro pins s σ H xs us Q I r h
  obtain ⟨a, S, n, rfl, ha, hn, q⟩ := h
  obtain ⟨u, rfl, ru⟩ := vals1 r
  cases ru
  obtain ⟨o, es, ep, t, ho, hex, hd, _, _, _, hf, hsz⟩ := (show ObjOk X.prog X.w H s.heap a (.set S n) from I.hok a _ ha)
  refine call_len_set ho hex hd hf (by omega) ?_
  rw [hsz]
  exact ⟨.int n, H, I.tok _, ⟨_, rfl⟩, q⟩
end
end L2

namespace L2.Sp
end L2.Sp

set_option Elab.async false
set_option linter.all false
set_option maxRecDepth 100000
set_option maxHeartbeats 4000000
namespace Law
open PySem L2 L2.Sp
def top (i : Nat) : Stmt := PySem.Challenge.pw_meetvalue_k42_ring_walked.main.body.getD i (.Pass ⟨0, 0, 0, 0⟩)
/-! ### small things -/
/-- a def that keeps its promise, under its name -/
structure Cal (P : Program) (w : World) (K : PySem.W.Frag) (mg : Str → Option Value) (base : Heap) (k : Nat) (x : Str) (ps : List Str) (sp : Sp) : Prop where
  ex : ∃ (f : Addr) (fd : FuncData), FnOk P w K mg base CX0 k f fd ps sp ∧ mg x = some (.ref f) ∧ PySem.W.keepIn K (.ref f) = true ∧ Binds K fd ps []
theorem Cal.mono {P : Program} {w : World} {K : PySem.W.Frag} {mg : Str → Option Value} {base : Heap} {j k : Nat} {x : Str} {ps : List Str} {sp : Sp} (C : Cal P w K mg base j x ps sp) (h : j ≤ k) : Cal P w K mg base k x ps sp := by
  obtain ⟨f, fd, F, a, b, c⟩ := C.ex
  exact ⟨f, fd, F.mono h, a, b, c⟩
theorem pe_cal {X : Cx} {k : Nat} {x : Str} {ps : List Str} {sp : Sp} {p pos : Pos} {e : Expr} {es : List Expr} {t : TA} (C : Cal X.prog X.w X.K X.mg X.base k x ps sp) (hr : Room k X.A) (hg : Gl X x) (ha : PA X (e :: es) t)
    (hdb : (x == ("__debug__" : Str)) = false := by decide) (he : starEach (e :: es) X.env = (false, eval e X.env) :: starEach es X.env := by rfl) (hpl : (backTo pos (starEach es X.env)).any (·.1) = false := by rfl) :
    PE X (.Call (.Name x p) (e :: es) [] pos) (tCall sp [] E0 t) := by
  obtain ⟨f, fd, F, a, b, c⟩ := C.ex
  exact pe_call F hr hg a b c .nil pass0 ha hdb he hpl
theorem same_new {H : Hp} {p : Addr} (h : H p = none) (o : HO) : Same H (upd H p o) := fun b u q => by rw [upd_ne (ne_of_none q h)]; exact q
/-- all but the drawing state -/
def Grow (st : Addr) (H H' : Hp) : Prop := ∀ b o, b ≠ st → H b = some o → H' b = some o
theorem Grow.trans {st : Addr} {H H1 H2 : Hp} (a : Grow st H H1) (b : Grow st H1 H2) : Grow st H H2 := fun c o hc h => b c o hc (a c o hc h)
theorem Grow.of {st : Addr} {H H' : Hp} (a : Same H H') : Grow st H H' := fun c o _ h => a c o h
theorem grow_upd {st : Addr} {H : Hp} {o : HO} : Grow st H (upd H st o) := fun b u hb q => by rw [upd_ne hb]; exact q
theorem Grow.refl {st : Addr} {H : Hp} : Grow st H H := fun _ _ _ q => q
theorem len0 : ([] : List V).length ≤ sizeLine := by decide
theorem len1 {a : V} : ([a] : List V).length ≤ sizeLine := by show 1 ≤ sizeLine; decide
theorem len2 {a b : V} : ([a, b] : List V).length ≤ sizeLine := by show 2 ≤ sizeLine; decide
theorem len3 {a b c : V} : ([a, b, c] : List V).length ≤ sizeLine := by show 3 ≤ sizeLine; decide
theorem len4 {a b c d : V} : ([a, b, c, d] : List V).length ≤ sizeLine := by show 4 ≤ sizeLine; decide
theorem sz_of {n : Nat} (h : n ≤ 1000) : n < sizeLine := small1000 h
section
variable {P : Program} {w : World} {K : PySem.W.Frag} {mg : Str → Option Value} {base : Heap} {f : Addr} {fd : FuncData}
theorem Grow.sqT {st : Addr} {H H' : Hp} (g : Grow st H H') {x : List V} (hs : H st = some (.lst x)) {a : Addr} {ys : List V} (h : SqT K H a ys) : SqT K H' a ys :=
  h.keep fun b u => ⟨fun q => g b _ (ne_of q hs (by intro z; cases z)) q, fun o q => g b _ (ne_of q hs (by intro z; cases z)) q⟩
theorem at_ints (ns : List Int) {r : Int} (h0 : 0 ≤ r) (h1 : r < ns.length) : ∃ n, atI (ns.map V.int) r = some (.int n) := by
  obtain ⟨k, rfl⟩ := Int.eq_ofNat_of_zero_le h0
  have hk : k < ns.length := by omega
  exact ⟨ns[k], atI_nat (by rw [List.getElem?_map, List.getElem?_eq_getElem hk]; rfl)⟩
/-- a statement, then the rest from what is told between -/
def tCut (t u : TS) : TS := fun D σ H => ∃ R : St → Hp → Prop, t { D with nx := R } σ H ∧ ∀ σ' H', R σ' H' → u D σ' H'
theorem pss_cut {X : Cx} {st : Stmt} {rest : List Stmt} {t u : TS} (h1 : PS X st t) (h2 : PSs X rest u) : PSs X (st :: rest) (tCut t u) := by
  intro pins s σ H D I h
  obtain ⟨R, ha, hb⟩ := h
  refine wpAny_execs_cons (thn (h1 pins s σ H { D with nx := R } I ha) fun f s1 q => ?_)
  cases f with
  | next =>
    obtain ⟨σ', H', I', q⟩ := q
    exact h2 pins s1 σ' H' D I' (hb σ' H' q)
  | ret v => exact q
  | brk => exact q
  | cont => exact q
theorem SqL.past {H H1 H' : Hp} {l a : Addr} {xs : List V} (g1 : Same H H1) (g : Grow l H1 H') (hl : H l = none) (h : SqL K H a xs) : SqL K H' a xs := by
  rcases h with (z | ⟨o, z⟩) | z
  · exact .inl (.inl (g _ _ (ne_of_none z hl) (g1 _ _ z)))
  · exact .inl (.inr ⟨o, g _ _ (ne_of_none z hl) (g1 _ _ z)⟩)
  · exact .inr z
theorem past {H H1 H' : Hp} {l : Addr} (g1 : Same H H1) (g : Grow l H1 H') (hl : H l = none) : Same H H' := fun z o ho => g _ _ (ne_of_none ho hl) (g1 _ _ ho)
theorem yesT {σ : St} {H : Hp} {A B : Hp → Prop} (h : A H) : tYes σ H (fun b H4 => if b = true then A H4 else B H4) := by
  show (if true = true then A H else B H)
  rw [if_pos rfl]
  exact h
end
theorem paired_get {α β : Type} {F : α → β → Prop} : ∀ {xs : List α} {ys : List β} {i : Nat} {x : α}, Paired F xs ys → xs[i]? = some x → ∃ y, ys[i]? = some y ∧ F x y
  | _, _, _, _, .nil, e => by simp at e
  | _, _, 0, _, .cons r _, e => by simp at e; subst e; exact ⟨_, rfl, r⟩
  | _, _, i + 1, x, .cons _ t, e => by
    obtain ⟨u, h1, h2⟩ := paired_get (i := i) (x := x) t (by simpa using e)
    exact ⟨u, by simpa using h1, h2⟩
theorem take_snoc {α : Type} {xs : List α} {i : Nat} {x : α} (h : xs[i]? = some x) : xs.take (i + 1) = xs.take i ++ [x] := by
  rw [List.take_add_one, h]; rfl
theorem bt_max : bootBuiltins "max" = some (.builtin "max") := by decide +kernel
theorem bt_sorted : bootBuiltins "sorted" = some (.builtin "sorted") := by decide +kernel
theorem bt_any : bootBuiltins "any" = some (.builtin "any") := by decide +kernel
theorem bt_all : bootBuiltins "all" = some (.builtin "all") := by decide +kernel
theorem bt_isi : bootBuiltins "isinstance" = some (.builtin "isinstance") := by decide +kernel
theorem bt_tuple : bootBuiltins "tuple" = some (.type "tuple") := by decide +kernel
theorem bt_int : bootBuiltins "int" = some (.type "int") := by decide +kernel
theorem bt_bool : bootBuiltins "bool" = some (.type "bool") := by decide +kernel
theorem bt_list : bootBuiltins "list" = some (.type "list") := by decide +kernel
theorem bt_rev : bootBuiltins "reversed" = some (.type "reversed") := by decide +kernel
theorem bt_str : bootBuiltins "str" = some (.type "str") := by decide +kernel
theorem bt_set : bootBuiltins "set" = some (.type "set") := by decide +kernel
theorem bt_dict : bootBuiltins "dict" = some (.type "dict") := by decide +kernel
theorem at_strs (ns : List Str) {r : Int} (h0 : 0 ≤ r) (h1 : r < ns.length) : ∃ t, t ∈ ns ∧ atI (ns.map V.str) r = some (.str t) := by
  obtain ⟨k, rfl⟩ := Int.eq_ofNat_of_zero_le h0
  have hk : k < ns.length := by omega
  exact ⟨ns[k], List.getElem_mem hk, atI_nat (by rw [List.getElem?_map, List.getElem?_eq_getElem hk]; rfl)⟩
section
variable {K : PySem.W.Frag}
theorem isi_str (d : D) : isiD d "str" = (match d with | .str _ => true | _ => false) := by cases d <;> first | rfl | decide | simp [isiD]
theorem isi_tup (d : D) : isiD d "tuple" = (match d with | .tup _ => true | _ => false) := by cases d <;> first | rfl | decide | simp [isiD]
theorem isi_int (d : D) : isiD d "int" = (match d with | .int _ => true | .bl _ => true | _ => false) := by cases d <;> first | rfl | decide | simp [isiD]
theorem isi_bool (d : D) : isiD d "bool" = (match d with | .bl _ => true | _ => false) := by cases d <;> first | rfl | decide | simp [isiD]
theorem dec_str' {a b : Str} : decide (V.str a = V.str b) = decide (a = b) := by
  rw [Bool.eq_iff_iff, decide_eq_true_iff, decide_eq_true_iff]
  exact ⟨fun h => V.str.inj h, fun h => by rw [h]⟩
theorem ix_tupC {X : Cx} {scope : Scope} {N' : List Str} {C : Addr} {fp : List Addr} {s : Shared} {H : Hp} : IxR (compCx X scope N' C fp s H) (rIxT X.K) := ix_tup
theorem sameR {H : Hp} : Same H H := fun _ _ h => h
theorem DAll.last {H : Hp} : ∀ {ds : List D} {vs : List V} {y : V}, DAll K H ds vs → vs[vs.length - 1]? = some y → ∃ ds' d, ds = ds' ++ [d] ∧ DAll K H ds' vs.dropLast ∧ DV K H d y
  | [], vs, y, h, e => by simp only [DAll] at h; subst h; simp at e
  | [d], vs, y, h, e => by
    simp only [DAll] at h
    obtain ⟨z, _, rfl, h1, rfl⟩ := h
    simp at e
    subst e
    exact ⟨[], d, rfl, by simp [DAll], h1⟩
  | d :: d2 :: ds, vs, y, h, e => by
    simp only [DAll] at h
    obtain ⟨z, r, rfl, h1, h2⟩ := h
    have h2' : DAll K H (d2 :: ds) r := by simp only [DAll]; exact h2
    obtain ⟨z2, r2, rfl, _, _⟩ := h2
    obtain ⟨ds', d', e1, h3, h4⟩ := DAll.last h2' (y := y) (by simpa using e)
    refine ⟨d :: ds', d', by rw [e1]; rfl, ?_, h4⟩
    rw [List.dropLast_cons_of_ne_nil (by simp)]
    simp only [DAll]
    exact ⟨z, _, rfl, h1, h3⟩
theorem small_le {n : Nat} (h : n ≤ 1000) : n ≤ sizeLine := Nat.le_of_lt (sz_of h)
theorem inV_strs (t : Str) (ts : List Str) : inV (.str t) (ts.map V.str) = decide (t ∈ ts) := by
  rw [Bool.eq_iff_iff, decide_eq_true_iff]
  unfold inV
  simp only [List.any_map, List.any_eq_true, Function.comp]
  constructor
  · rintro ⟨y, hy, e⟩
    have e : (y == t) = true := e
    rw [beq_iff_eq] at e
    exact e ▸ hy
  · intro h
    exact ⟨t, h, by show (t == t) = true; simp⟩
theorem drop_cons {α : Type} {xs : List α} {i : Nat} {x : α} (h : xs[i]? = some x) : xs.drop i = x :: xs.drop (i + 1) := by
  obtain ⟨hi, e⟩ := List.getElem?_eq_some_iff.mp h
  rw [← e]
  exact List.drop_eq_getElem_cons hi
theorem DAll.snoc {H : Hp} {ds : List D} {vs : List V} {d : D} {v : V} (h : DAll K H ds vs) (h' : DV K H d v) : DAll K H (ds ++ [d]) (vs ++ [v]) := DAll.append h (by simp only [DAll]; exact ⟨v, [], rfl, h', rfl⟩)
theorem isi_bb {b : Bool} : isiD (.bl b) "bool" = true := by rw [isi_bool]
theorem dvb {H : Hp} {b : Bool} : DV K H (.bl b) (.bl b) := by simp only [DV]
theorem ne_self {b : V} : (!decide (b = b)) = false := by rw [decide_eq_true rfl]; rfl
theorem cut_ints (ns : List Int) (lo hi : Option Int) : ∃ ms : List Int, cutV (ns.map V.int) lo hi = ms.map V.int := by
  refine ⟨(ns.drop (HT.sIx (ns.map V.int).length 0 lo)).take (HT.sIx (ns.map V.int).length (ns.map V.int).length hi - HT.sIx (ns.map V.int).length 0 lo), ?_⟩
  unfold cutV
  rw [List.map_take, List.map_drop]
theorem item_int {ms : List Int} {i : Nat} {x : V} (hx : (ms.map V.int)[i]? = some x) : ∃ n, x = .int n := by
  rw [List.getElem?_map] at hx
  cases e : ms[i]? with
  | none => rw [e] at hx; cases hx
  | some n => rw [e] at hx; cases hx; exact ⟨n, rfl⟩
mutual
def nD : D → Nat
  | .tup ds => 1 + nL ds
  | _ => 1
def nL : List D → Nat
  | [] => 0
  | d :: ds => nD d + nL ds
end
theorem nD_pos : ∀ d : D, 0 < nD d
  | .tup ds => by simp only [nD]; omega
  | .non => by simp only [nD]; omega
  | .bl _ => by simp only [nD]; omega
  | .int _ => by simp only [nD]; omega
  | .str _ => by simp only [nD]; omega
  | .lst => by simp only [nD]; omega
  | .dic => by simp only [nD]; omega
theorem nL_append : ∀ ds es : List D, nL (ds ++ es) = nL ds + nL es
  | [], es => by simp [nL]
  | d :: ds, es => by simp only [List.cons_append, nL, nL_append ds es]; omega
theorem nL_len : ∀ ds : List D, ds.length ≤ nL ds
  | [] => Nat.le_refl _
  | d :: ds => by
    have := nL_len ds
    have := nD_pos d
    simp only [List.length_cons, nL]; omega
theorem mem_nL : ∀ {ds : List D} {d : D}, d ∈ ds → nD d ≤ nL ds
  | _, _, .head ds => by simp only [nL]; omega
  | _, _, .tail b h => by have := mem_nL h; simp only [nL]; omega
end
end Law

set_option Elab.async false
set_option linter.all false
set_option maxRecDepth 100000
set_option maxHeartbeats 4000000
namespace Law
open PySem L2 L2.Sp
/-! ### trees and the places in them -/
def pD (ws : List Str) : D := .tup (ws.map D.str)
mutual
inductive Tr : D → List (List Str) → Prop
  | leaf {w : Str} {r : List D} : w ≠ "place" → w ≠ "and" → w ≠ "or" → Tr (.tup (.str w :: r)) []
  | place {ws : List Str} : Tr (.tup [.str "place", pD ws]) [ws]
  | node {w : Str} {ds : List D} {ps : List (List Str)} : (w = "and" ∨ w = "or") → Trs ds ps → Tr (.tup [.str w, .tup ds]) ps
inductive Trs : List D → List (List Str) → Prop
  | nil : Trs [] []
  | cons {d : D} {ds : List D} {ps qs : List (List Str)} : Tr d ps → Trs ds qs → Trs (d :: ds) (ps ++ qs)
end
theorem Trs.append : ∀ {ds es : List D} {ps qs : List (List Str)}, Trs ds ps → Trs es qs → Trs (ds ++ es) (ps ++ qs)
  | [], es, ps, qs, h, h' => by cases h; exact h'
  | d :: ds, es, ps, qs, h, h' => by
    cases h with
    | cons h1 h2 => rw [List.append_assoc]; exact .cons h1 (Trs.append h2 h')
theorem Trs.one {d : D} {ps : List (List Str)} (h : Tr d ps) : Trs [d] ps := by have := Trs.cons h .nil; rwa [List.append_nil] at this
theorem Trs.last : ∀ {ds : List D} {d : D} {ps : List (List Str)}, Trs (ds ++ [d]) ps → ∃ p1 p2, ps = p1 ++ p2 ∧ Trs ds p1 ∧ Tr d p2
  | [], d, ps, h => by
    cases h with
    | cons h1 h2 => cases h2; exact ⟨[], _, by simp, .nil, h1⟩
  | e :: ds, d, ps, h => by
    cases h with
    | cons h1 h2 =>
      obtain ⟨p1, p2, e1, h3, h4⟩ := Trs.last h2
      subst e1
      exact ⟨_, p2, (List.append_assoc _ _ _).symm, .cons h1 h3, h4⟩
theorem any_mem {α : Type} {f : α → Bool} {ps qs : List α} (h : ∀ p, p ∈ qs ↔ p ∈ ps) : qs.any f = ps.any f := by
  rw [Bool.eq_iff_iff, List.any_eq_true, List.any_eq_true]
  constructor
  · rintro ⟨x, hx, hf⟩; exact ⟨x, (h x).mp hx, hf⟩
  · rintro ⟨x, hx, hf⟩; exact ⟨x, (h x).mpr hx, hf⟩
def begB (ws us : List Str) : Bool := decide (us.take ws.length = ws)
def leanB (o p : List Str) : Bool := begB p o || begB o p
def intoB (o p : List Str) : Bool := decide (p.length < o.length) && begB p o
section
variable {P : Program} {w : World} {K : PySem.W.Frag} {mg : Str → Option Value} {base : Heap} {f : Addr} {fd : FuncData}
theorem dall_strs {H : Hp} : ∀ {ws : List Str} {ys : List V}, DAll K H (ws.map D.str) ys → ys = ws.map V.str
  | [], ys, h => by simp only [List.map_nil, DAll] at h; exact h
  | w :: ws, ys, h => by
    simp only [List.map_cons, DAll, DV] at h
    obtain ⟨y, r, rfl, ⟨rfl, _⟩, h2⟩ := h
    rw [dall_strs h2]; rfl
theorem dv_path {H : Hp} {ws : List Str} {v : V} (h : DV K H (pD ws) v) : ∃ a, v = .ref a ∧ SqT K H a (ws.map V.str) ∧ ws.length ≤ 100 := by
  simp only [pD, DV] at h
  obtain ⟨a, ys, rfl, hq, hall, hl⟩ := h
  rw [dall_strs hall] at hq
  exact ⟨a, rfl, hq, by simpa using hl⟩
abbrev sBeg : Stmt := top 3
theorem scBeg : FnScope ["path", "longer"] ["path", "longer"] (defScope sBeg) := ⟨rfl, rfl, rfl, by decide +kernel, rfl, by decide +kernel, by decide +kernel⟩
def spBeg (K : PySem.W.Frag) : Sp := fun args H Q _ => ∃ (a b : Addr) (ws us : List Str), args = [.ref a, .ref b] ∧ SqT K H a (ws.map V.str) ∧ SqT K H b (us.map V.str) ∧ ∀ H', Same H H' → Q (.bl (begB ws us)) H'
theorem ok_beg (F : Fun K "begins" "begins" sBeg f fd) (m1 : mg "len" = none) : FnOk P w K mg base CX0 1 f fd ["path", "longer"] (spBeg K) := by
  refine F.ok scBeg (fun vs H Q E h => ?_) (fun cdv A outer s H vs Q E hr h => ?_)
  · obtain ⟨a, b, ws, us, rfl, _⟩ := h
    rfl
  obtain ⟨a, b, ws, us, rfl, ha, hb, q⟩ := h
  refine ⟨_, pss_one (ps_ret (pe_cmpR (op_eqS hr.units) (pe_slice sl_tupA (pv 1) po_none (po_some (pe_callB call_len_seq rfl m1 PySem.boot_len (pa_cons (pv 0) pa_nil)))) (pv 0) (nomark _))), ?_⟩
  refine ⟨_, rfl, _, rfl, a, _, rfl, .inr ha, _, rfl, b, _, rfl, hb, fun p H1 g1 hp => ?_⟩
  rw [List.length_map, cut_to] at hp
  exact ⟨_, rfl, p, a, us.take ws.length, ws, rfl, rfl, hp, g1.seqT ha, q _ g1⟩
abbrev sPlaces : Stmt := top 4
theorem scPlaces : FnScope ["trees", "waiting", "places", "tree"] ["trees"] (defScope sPlaces) := ⟨rfl, rfl, rfl, by decide +kernel, rfl, by decide +kernel, by decide +kernel⟩
def spPlaces (K : PySem.W.Frag) : Sp := fun args H Q _ => ∃ (a : Addr) (vs : List V) (ds : List D) (ps : List (List Str)), args = [.ref a] ∧ SqT K H a vs ∧ DAll K H ds vs ∧ Trs ds ps ∧ nL ds ≤ 900 ∧
  ∀ (H' : Hp) (l : Addr) (us : List V) (qs : List (List Str)), Same H H' → H' l = some (.lst us) → DAll K H (qs.map pD) us → (∀ p, p ∈ qs ↔ p ∈ ps) → qs.length ≤ 900 → Q (.ref l) H'
theorem mem_bits {x : Str} : inV (.str x) [.str "and", .str "or"] = decide (x = "and" ∨ x = "or") := by
  have := inV_strs x ["and", "or"]
  have e : (["and", "or"] : List Str).map V.str = [.str "and", .str "or"] := rfl
  rw [e] at this
  rw [this]
  congr 1
  simp
theorem ok_places (F : Fun K "places_of" "places_of" sPlaces f fd) (m1 : mg "len" = none) (m2 : mg "list" = none) : FnOk P w K mg base CX0 1 f fd ["trees"] (spPlaces K) := by
  refine F.ok scPlaces (fun vs H Q E h => ?_) (fun cdv A outer s H vs Q E hr h => ?_)
  · obtain ⟨a, vs, ds, ps, rfl, _⟩ := h
    rfl
  obtain ⟨a, vs, ds0, ps0, rfl, hq, hall0, htr0, hn0, q⟩ := h
  refine ⟨_, pss_cons (ps_set (i := 1) scPlaces.nd rfl (Or.inl rfl) (pe_callTy call_list_of rfl m2 bt_list (pa_cons (pv 0) pa_nil)))
    (pss_cons (ps_set (i := 2) scPlaces.nd rfl (Or.inl rfl) (pe_lst pa_nil))
    (pss_cons (ps_while PassesOwn.never (pt_cmpR op_gt (pe_callB call_len_seq rfl m1 PySem.boot_len (pa_cons (pv 1) pa_nil)) pe_int (nomark _))
      (pss_cons (ps_set (i := 3) scPlaces.nd rfl (Or.inl rfl) (pe_bm0 PySem.F.plainAttrs_list PySem.F.slot_list_pop PySem.F.type_list_pop mt_pop (pv 1)))
      (pss_one (ps_if (pt_cmpR op_eq (pe_ix ix_tup (pv 3) pe_int (fun _ _ => rfl)) pe_str (nomark _))
        (pss_one (ps_expr (pe_bm PySem.F.plainAttrs_list PySem.F.slot_list_append PySem.F.type_list_append mt_append (pv 2) (pa_cons (pe_ix ix_tup (pv 3) pe_int (fun _ _ => rfl)) pa_nil))))
        (pss_one (ps_if (pt_cmpR op_in_seq (pe_ix ix_tup (pv 3) pe_int (fun _ _ => rfl)) (pe_tup (pa_cons pe_str (pa_cons pe_str pa_nil))) rfl)
          (pss_one (ps_expr (pe_bm PySem.F.plainAttrs_list PySem.F.slot_list_extend PySem.F.type_list_extend mt_extT (pv 1) (pa_cons (pe_ix ix_tup (pv 3) pe_int (fun _ _ => rfl)) pa_nil)))) pss_nil))))))
    (pss_one (ps_ret (pv 2))))), ?_⟩
  refine ⟨_, rfl, a, vs, rfl, .inr hq, fun l hl => ⟨len0, fun l2 hl2 => ?_⟩⟩
  have g1 := same_new hl (.lst vs)
  have g2 := same_new hl2 (.lst [])
  have n12 : l ≠ l2 := ne_of_none upd_same hl2
  have hl2' : H l2 = none := by
    cases e : H l2 with
    | none => rfl
    | some o => rw [g1 _ _ e] at hl2; cases hl2
  refine ⟨fun m σ H' => ∃ (ds : List D) (ws us : List V) (ps qs : List (List Str)) (z : Option V), m = nL ds ∧ σ = [some (.ref a), some (.ref l), some (.ref l2), z] ∧ Same H H' ∧ H' l = some (.lst ws) ∧ H' l2 = some (.lst us) ∧ DAll K H ds ws ∧ Trs ds ps ∧ DAll K H (qs.map pD) us ∧ (∀ p, (p ∈ qs ∨ p ∈ ps) ↔ p ∈ ps0) ∧ qs.length + nL ds ≤ 900,
    ⟨_, ds0, vs, [], ps0, [], none, rfl, rfl, fun b o h => g2 _ _ (g1 _ _ h), g2 _ _ upd_same, upd_same, hall0, htr0, by simp only [List.map_nil, DAll], fun p => by simp, by simpa using hn0⟩, ?_⟩
  rintro m σ H' ⟨ds, ws, us, ps, qs, z, rfl, rfl, g, hlw, hlu, hall, htr, hqs, hmem, hn⟩
  have hlen := hall.length
  have hql := hqs.length
  rw [List.length_map] at hql
  have hln := nL_len ds
  refine ⟨_, rfl, l, ws, rfl, .inl (SqL.of hlw), _, _, rfl, rfl, _, rfl, ?_⟩
  cases ds with
  | nil =>
    simp only [DAll] at hall
    subst hall
    cases htr
    exact iteF ⟨_, rfl, q H' l2 us qs g hlu hqs (fun p => by have := hmem p; simpa using this) (by omega)⟩
  | cons d0 ds1 =>
    have e1 : decide (((ws.length : Nat) : Int) > 0) = true := decide_eq_true (by rw [hlen, List.length_cons]; omega)
    rw [e1]
    refine iteT ⟨fun σ' H'' => ∃ m', m' < nL (d0 :: ds1) ∧ ∃ (ds : List D) (ws us : List V) (ps qs : List (List Str)) (z : Option V), m' = nL ds ∧ σ' = [some (.ref a), some (.ref l), some (.ref l2), z] ∧ Same H H'' ∧ H'' l = some (.lst ws) ∧ H'' l2 = some (.lst us) ∧ DAll K H ds ws ∧ Trs ds ps ∧ DAll K H (qs.map pD) us ∧ (∀ p, (p ∈ qs ∨ p ∈ ps) ↔ p ∈ ps0) ∧ qs.length + nL ds ≤ 900, fun _ _ h => h, ?_⟩
    obtain ⟨y, hy⟩ : ∃ y, ws[ws.length - 1]? = some y := ⟨_, List.getElem?_eq_getElem (by rw [hlen, List.length_cons]; omega)⟩
    obtain ⟨ds', dl, eds, h3, h4⟩ := DAll.last hall hy
    rw [eds] at htr
    obtain ⟨p1, p2, eps, ht1, ht2⟩ := htr.last
    subst eps
    have enl : nL (d0 :: ds1) = nL ds' + nD dl := by rw [eds, nL_append]; simp [nL]
    generalize hHb : upd H' l (.lst ws.dropLast) = Hb
    have sp : Same H Hb := fun b o h => by rw [← hHb, upd_ne (ne_of_none h hl)]; exact g _ _ h
    have hbl : Hb l = some (.lst ws.dropLast) := by rw [← hHb]; exact upd_same
    have hbu : Hb l2 = some (.lst us) := by rw [← hHb, upd_ne (Ne.symm n12)]; exact hlu
    refine ⟨_, rfl, .inl ⟨rfl, _, SqL.of hlw⟩, l, ws, y, rfl, rfl, hlw, hy, ?_⟩
    rw [hHb]
    have hpos := nD_pos dl
    have h4' := h4
    cases ht2 with
    | leaf n1 n2 n3 =>
      rename_i wd r
      simp only [DV, DAll] at h4
      obtain ⟨c, ys, rfl, hc, ⟨_, _, rfl, ⟨rfl, _⟩, _⟩, _⟩ := h4
      refine ⟨_, rfl, c, _, _, _, rfl, rfl, sp.seqT hc, atI_nat (j := 0) rfl, rfl, _, rfl, ?_⟩
      rw [dec_str', decide_eq_false n1]
      refine iteF ⟨_, rfl, c, _, _, _, rfl, rfl, sp.seqT hc, atI_nat (j := 0) rfl, len2, fun t ht => ⟨t, _, rfl, .inr (SqT.of upd_same), rfl, rfl, _, rfl, ?_⟩⟩
      rw [mem_bits, decide_eq_false (by rintro (h | h); exact n2 h; exact n3 h)]
      have k := same_new ht (.tup [.str "and", .str "or"])
      refine iteF ⟨nL ds', by omega, ds', _, us, p1, qs, _, rfl, rfl, fun b o h => k _ _ (sp _ _ h), k _ _ hbl, k _ _ hbu, h3, ht1, hqs, fun p => by have := hmem p; simpa using this, by omega⟩
    | place =>
      rename_i wp
      simp only [DV, DAll] at h4
      obtain ⟨c, ys, rfl, hc, ⟨_, _, rfl, ⟨rfl, _⟩, y2, _, rfl, hy2, rfl⟩, _⟩ := h4
      refine ⟨_, rfl, c, _, _, _, rfl, rfl, sp.seqT hc, atI_nat (j := 0) rfl, rfl, _, rfl, ?_⟩
      rw [dec_str', decide_eq_true rfl]
      have hp2 : 2 ≤ nD (.tup [.str "place", pD wp]) := by simp only [nD, nL]; omega
      refine iteT ⟨_, rfl, .inl ⟨rfl, _, SqL.of hbu⟩, _, rfl, c, _, _, _, rfl, rfl, sp.seqT hc, atI_nat (j := 1) rfl, l2, _, _, rfl, rfl, hbu, sz_of (by omega), ?_⟩
      refine ⟨nL ds', by omega, ds', _, us ++ [y2], p1, qs ++ [wp], _, rfl, rfl, fun b o h => by rw [upd_ne (ne_of_none h hl2')]; exact sp _ _ h, by rw [upd_ne n12]; exact hbl, upd_same, h3, ht1, ?_, fun p => ?_, by rw [List.length_append]; simp; omega⟩
      · rw [List.map_append]
        exact DAll.snoc hqs hy2
      · have := hmem p
        simp only [List.mem_append, List.mem_singleton] at this ⊢
        rw [← this]
        constructor
        · rintro ((h | h) | h)
          · exact .inl h
          · exact .inr (.inr h)
          · exact .inr (.inl h)
        · rintro (h | h | h)
          · exact .inl (.inl h)
          · exact .inr h
          · exact .inl (.inr h)
    | node hw hts =>
      rename_i wd es
      simp only [DV, DAll] at h4
      obtain ⟨c, ys, rfl, hc, ⟨_, _, rfl, ⟨rfl, _⟩, y2, _, rfl, ⟨c2, zs, rfl, hc2, hes, hl100⟩, rfl⟩, _⟩ := h4
      have n1 : wd ≠ "place" := by rcases hw with rfl | rfl <;> decide +kernel
      refine ⟨_, rfl, c, _, _, _, rfl, rfl, sp.seqT hc, atI_nat (j := 0) rfl, rfl, _, rfl, ?_⟩
      rw [dec_str', decide_eq_false n1]
      refine iteF ⟨_, rfl, c, _, _, _, rfl, rfl, sp.seqT hc, atI_nat (j := 0) rfl, len2, fun t ht => ⟨t, _, rfl, .inr (SqT.of upd_same), rfl, rfl, _, rfl, ?_⟩⟩
      rw [mem_bits, decide_eq_true hw]
      have k := same_new ht (.tup [.str "and", .str "or"])
      have hbl2 := k _ _ hbl
      have e5 := hes.length
      have e6 := nL_len es
      have e7 : nD (.tup [.str wd, .tup es]) = 3 + nL es := by simp only [nD, nL]; omega
      have e8 := h3.length
      have e9 := nL_len ds'
      refine iteT ⟨_, rfl, .inl ⟨rfl, _, SqL.of hbl2⟩, _, rfl, c, _, _, _, rfl, rfl, k.seqT (sp.seqT hc), atI_nat (j := 1) rfl, l, c2, _, _, rfl, rfl, hbl2, k.seqT (sp.seqT hc2), small_le (by omega), ?_⟩
      refine ⟨nL (ds' ++ es), by rw [nL_append]; omega, ds' ++ es, _, us, p1 ++ p2, qs, _, rfl, rfl, fun b o h => by rw [upd_ne (ne_of_none h hl)]; exact k _ _ (sp _ _ h), upd_same, by rw [upd_ne (Ne.symm n12)]; exact k _ _ hbu, DAll.append h3 hes, ht1.append hts, hqs, hmem, by rw [nL_append]; omega⟩
end
end Law

set_option Elab.async false
set_option linter.all false
set_option maxRecDepth 100000
set_option maxHeartbeats 4000000
namespace Law
open PySem L2 L2.Sp
theorem lean_few (o p : List Str) {n : Nat} (hn : n = min p.length o.length) : decide (p.take n = o.take n) = leanB o p := by
  subst hn
  unfold leanB begB
  rw [Bool.eq_iff_iff, Bool.or_eq_true, decide_eq_true_iff, decide_eq_true_iff, decide_eq_true_iff]
  rcases Nat.le_total p.length o.length with h | h
  · rw [Nat.min_eq_left h, List.take_length]
    constructor
    · intro e; exact .inl e.symm
    · rintro (e | e)
      · exact e.symm
      · rw [List.take_of_length_le h] at e; subst e; rw [List.take_length]
  · rw [Nat.min_eq_right h, List.take_length]
    constructor
    · intro e; exact .inr e
    · rintro (e | e)
      · rw [List.take_of_length_le h] at e; subst e; rw [List.take_length]
      · exact e
theorem call_lenC {X : Cx} {scope : Scope} {N' : List Str} {C : Addr} {fp : List Addr} {s : Shared} {H : Hp} : CallR (compCx X scope N' C fp s H) (.builtin "len") (fun xs H Q => ∃ p ys, xs = [.ref p] ∧ (SqL X.K H p ys ∨ SqT X.K H p ys) ∧ Q (.int ys.length) H) := call_len_seq
def rowD (rp : List Str) (ds : List D) : D := .tup [pD rp, .tup ds]
section
variable {P : Program} {w : World} {K : PySem.W.Frag} {mg : Str → Option Value} {base : Heap} {f : Addr} {fd : FuncData}
theorem dv_row {H : Hp} {rp : List Str} {ds : List D} {v : V} (h : DV K H (rowD rp ds) v) : ∃ a b c vs, v = .ref a ∧ SqT K H a [.ref b, .ref c] ∧ SqT K H b (rp.map V.str) ∧ SqT K H c vs ∧ DAll K H ds vs := by
  simp only [rowD, DV, DAll] at h
  obtain ⟨a, ys, rfl, hq, ⟨y1, _, rfl, h1, y2, _, rfl, ⟨c, vs, rfl, hc, hall, _⟩, rfl⟩, _⟩ := h
  obtain ⟨b, rfl, hb, _⟩ := dv_path h1
  exact ⟨a, b, c, vs, rfl, hq, hb, hc, hall⟩
def spLn (K : PySem.W.Frag) (fB : List Str → List Str → Bool) : Sp := fun args H Q _ => ∃ (v1 v2 : V) (rp op : List Str) (ds es : List D) (ps : List (List Str)), args = [v1, v2] ∧ DV K H (rowD rp ds) v1 ∧ DV K H (rowD op es) v2 ∧ Trs ds ps ∧ nL ds ≤ 900 ∧ ∀ H', Same H H' → Q (.bl (ps.any (fB op))) H'
theorem nd_po : (["place", "other"] : List Str).Nodup := by decide +kernel
abbrev sLeans : Stmt := top 1
theorem scLeans : FnScope ["row", "other"] ["row", "other"] (defScope sLeans) := ⟨rfl, rfl, rfl, by decide +kernel, rfl, by decide +kernel, by decide +kernel⟩
theorem all_get {α : Type} {H : Hp} {qs : List (List Str)} {us : List V} {i : Nat} {x : V} (h : DAll K H (qs.map pD) us) (hx : us[i]? = some x) : ∃ q a, qs[i]? = some q ∧ x = .ref a ∧ SqT K H a (q.map V.str) := by
  obtain ⟨d, h1, h2⟩ := h.get hx
  rw [List.getElem?_map] at h1
  cases e : qs[i]? with
  | none => rw [e] at h1; cases h1
  | some q =>
    rw [e] at h1
    cases h1
    obtain ⟨a, rfl, ha, _⟩ := dv_path h2
    exact ⟨q, a, rfl, rfl, ha⟩
theorem ok_leans (F : Fun K "leans" "leans" sLeans f fd) (B : Cal P w K mg base 1 "begins" ["path", "longer"] (spBeg K)) (C : Cal P w K mg base 1 "places_of" ["trees"] (spPlaces K)) (m1 : mg "any" = none) : FnOk P w K mg base CX0 2 f fd ["row", "other"] (spLn K leanB) := by
  refine F.ok scLeans (fun vs H Q E h => ?_) (fun cdv A outer s H vs Q E hr h => ?_)
  · obtain ⟨v1, v2, rp, op, ds, es, ps, rfl, _⟩ := h
    rfl
  obtain ⟨v1, v2, rp, op, ds, es, ps, rfl, h1, h2, htr, hn, q⟩ := h
  obtain ⟨a, b, c, vs, rfl, hq, hb, hc, hall⟩ := dv_row h1
  obtain ⟨a', b', c', vs', rfl, hq', hb', hc', _⟩ := dv_row h2
  refine ⟨_, pss_one (ps_ret (pe_callB (call_any_list rfl) rfl m1 bt_any (pa_cons (pe_comp (N' := ["place", "other"]) (fr := [none, some 1]) (own := [0]) ⟨rfl, rfl, rfl, rfl, rfl, rfl, rfl⟩ rfl (pi_list (pe_cal C hr rfl (pa_cons (pe_ix ix_tup (pv 0) pe_int (fun _ _ => rfl)) pa_nil)))
      (fun _ _ _ _ => pg_name (i := 0) nd_po rfl (Or.inl rfl)) (own_name 0) (fun _ _ _ _ => pts_nil)
      (fun _ _ _ _ => pe_or (pe_cal B hr rfl (pa_cons (pv 0) (pa_cons (pe_ix ix_tupC (pv 1) pe_int (fun _ _ => rfl)) pa_nil))) (pe_one (pe_cal B hr rfl (pa_cons (pe_ix ix_tupC (pv 1) pe_int (fun _ _ => rfl)) (pa_cons (pv 0) pa_nil)))))) pa_nil))), ?_⟩
  refine ⟨_, rfl, a, _, _, _, rfl, rfl, hq, atI_nat (j := 1) rfl, c, vs, ds, ps, rfl, hc, hall, htr, hn, fun H1 l us qs g1 hl hqs hmem hlen => ?_⟩
  have hlu := hqs.length
  rw [List.length_map] at hlu
  refine ⟨l, rfl, ⟨_, SqL.of hl⟩, fun l2 hl2 => ?_⟩
  refine comp_boolsL (xs := us) (qs.map (leanB op)) hl2 (SqL.of hl) (by simp [hlu]) (by simp; omega) (fun i x bb ys H' N hx hbb g fin => ?_) (fun H' g hL => ?_)
  · obtain ⟨qq, aq, eq, rfl, haq⟩ := all_get (α := Nat) hqs hx
    rw [List.getElem?_map, eq] at hbb
    cases hbb
    have gg : Same H H' := fun b o h => g _ _ (g1 _ _ h)
    dsimp only [CTurn, gName]
    refine yesT ⟨_, rfl, _, rfl, a', _, _, _, rfl, rfl, gg.seqT hq', atI_nat (j := 0) rfl, aq, b', qq, op, rfl, gg.seqT haq, gg.seqT hb', fun H2 g2 => ⟨_, rfl, ?_⟩⟩
    cases e : begB qq op with
    | true =>
      have e2 : leanB op qq = true := by unfold leanB; rw [e]; rfl
      rw [e2] at fin
      exact iteT (fin _ g2)
    | false =>
      have e2 : leanB op qq = begB op qq := by unfold leanB; rw [e]; rfl
      rw [e2] at fin
      have gh : Same H H2 := fun b o h => g2 _ _ (gg _ _ h)
      exact iteF ⟨_, rfl, a', _, _, _, rfl, rfl, gh.seqT hq', atI_nat (j := 0) rfl, _, rfl, b', aq, op, qq, rfl, gh.seqT hb', gh.seqT haq, fun H3 g3 => fin _ (fun b o h => g3 _ _ (g2 _ _ h))⟩
  · refine ⟨l2, _, rfl, hL, ?_⟩
    have e : (qs.map (leanB op)).any id = ps.any (leanB op) := by rw [List.any_map]; exact any_mem hmem
    rw [e]
    exact q _ (fun b o h => g _ _ (g1 _ _ h))
abbrev sInto : Stmt := top 2
theorem scInto : FnScope ["row", "other"] ["row", "other"] (defScope sInto) := ⟨rfl, rfl, rfl, by decide +kernel, rfl, by decide +kernel, by decide +kernel⟩
theorem dec_lt {a b : Nat} : decide ((a : Int) < (b : Int)) = decide (a < b) := by rw [Bool.eq_iff_iff, decide_eq_true_iff, decide_eq_true_iff]; omega
theorem ok_into (F : Fun K "leans_into" "leans_into" sInto f fd) (B : Cal P w K mg base 1 "begins" ["path", "longer"] (spBeg K)) (C : Cal P w K mg base 1 "places_of" ["trees"] (spPlaces K)) (m1 : mg "any" = none) (m2 : mg "len" = none) : FnOk P w K mg base CX0 2 f fd ["row", "other"] (spLn K intoB) := by
  refine F.ok scInto (fun vs H Q E h => ?_) (fun cdv A outer s H vs Q E hr h => ?_)
  · obtain ⟨v1, v2, rp, op, ds, es, ps, rfl, _⟩ := h
    rfl
  obtain ⟨v1, v2, rp, op, ds, es, ps, rfl, h1, h2, htr, hn, q⟩ := h
  obtain ⟨a, b, c, vs, rfl, hq, hb, hc, hall⟩ := dv_row h1
  obtain ⟨a', b', c', vs', rfl, hq', hb', hc', _⟩ := dv_row h2
  refine ⟨_, pss_one (ps_ret (pe_callB (call_any_list rfl) rfl m1 bt_any (pa_cons (pe_comp (N' := ["place", "other"]) (fr := [none, some 1]) (own := [0]) ⟨rfl, rfl, rfl, rfl, rfl, rfl, rfl⟩ rfl (pi_list (pe_cal C hr rfl (pa_cons (pe_ix ix_tup (pv 0) pe_int (fun _ _ => rfl)) pa_nil)))
      (fun _ _ _ _ => pg_name (i := 0) nd_po rfl (Or.inl rfl)) (own_name 0) (fun _ _ _ _ => pts_nil)
      (fun _ _ _ _ => pe_and (pe_cmpR op_lt (pe_callB call_lenC rfl m2 PySem.boot_len (pa_cons (pv 0) pa_nil)) (pe_callB call_lenC rfl m2 PySem.boot_len (pa_cons (pe_ix ix_tupC (pv 1) pe_int (fun _ _ => rfl)) pa_nil)) (nomark _)) (pe_one (pe_cal B hr rfl (pa_cons (pv 0) (pa_cons (pe_ix ix_tupC (pv 1) pe_int (fun _ _ => rfl)) pa_nil)))))) pa_nil))), ?_⟩
  refine ⟨_, rfl, a, _, _, _, rfl, rfl, hq, atI_nat (j := 1) rfl, c, vs, ds, ps, rfl, hc, hall, htr, hn, fun H1 l us qs g1 hl hqs hmem hlen => ?_⟩
  have hlu := hqs.length
  rw [List.length_map] at hlu
  refine ⟨l, rfl, ⟨_, SqL.of hl⟩, fun l2 hl2 => ?_⟩
  refine comp_boolsL (xs := us) (qs.map (intoB op)) hl2 (SqL.of hl) (by simp [hlu]) (by simp; omega) (fun i x bb ys H' N hx hbb g fin => ?_) (fun H' g hL => ?_)
  · obtain ⟨qq, aq, eq, rfl, haq⟩ := all_get (α := Nat) hqs hx
    rw [List.getElem?_map, eq] at hbb
    cases hbb
    have gg : Same H H' := fun b o h => g _ _ (g1 _ _ h)
    dsimp only [CTurn, gName]
    refine yesT ⟨_, rfl, aq, _, rfl, .inr (gg.seqT haq), _, rfl, a', _, _, _, rfl, rfl, gg.seqT hq', atI_nat (j := 0) rfl, b', _, rfl, .inr (gg.seqT hb'), _, _, rfl, rfl, _, rfl, ?_⟩
    rw [List.length_map, List.length_map, dec_lt]
    cases e : decide (qq.length < op.length) with
    | true =>
      have e2 : intoB op qq = begB qq op := by unfold intoB; rw [e]; rfl
      rw [e2] at fin
      exact iteT ⟨_, rfl, _, rfl, a', _, _, _, rfl, rfl, gg.seqT hq', atI_nat (j := 0) rfl, aq, b', qq, op, rfl, gg.seqT haq, gg.seqT hb', fin⟩
    | false =>
      have e2 : intoB op qq = false := by unfold intoB; rw [e]; rfl
      rw [e2] at fin
      exact iteF (fin _ sameR)
  · refine ⟨l2, _, rfl, hL, ?_⟩
    have e : (qs.map (intoB op)).any id = ps.any (intoB op) := by rw [List.any_map]; exact any_mem hmem
    rw [e]
    exact q _ (fun b o h => g _ _ (g1 _ _ h))
theorem bt_min : bootBuiltins "min" = some (.builtin "min") := by decide +kernel
end
end Law

set_option Elab.async false
set_option linter.all false
set_option maxRecDepth 100000
set_option maxHeartbeats 4000000
namespace Law
open PySem L2 L2.Sp
theorem ix_listC {X : Cx} {scope : Scope} {N' : List Str} {C : Addr} {fp : List Addr} {s : Shared} {H : Hp} : IxR (compCx X scope N' C fp s H) (rIxL X.K) := ix_list
theorem len_4 {α : Type} {l : List α} (h : l.length = 4) : ∃ a b c d, l = [a, b, c, d] := by
  match l, h with
  | [a, b, c, d], _ => exact ⟨a, b, c, d, rfl⟩
theorem len_5 {α : Type} {l : List α} (h : l.length = 5) : ∃ a b c d e, l = [a, b, c, d, e] := by
  match l, h with
  | [a, b, c, d, e], _ => exact ⟨a, b, c, d, e, rfl⟩
def I61 (n : Int) : Prop := 0 ≤ n ∧ n < 2305843009213693951
section
variable {P : Program} {w : World} {K : PySem.W.Frag} {mg : Str → Option Value} {base : Heap} {f : Addr} {fd : FuncData}
abbrev sCell : Stmt := top 9
theorem scCell : FnScope ["_law_script", "_law_k"] ["_law_script", "_law_k"] (defScope sCell) := ⟨rfl, rfl, rfl, by decide +kernel, rfl, by decide +kernel, by decide +kernel⟩
def spCell (K : PySem.W.Frag) : Sp := fun args H Q _ => ∃ (a : Addr) (ns : List Int) (k : Nat), args = [.ref a, .int (k : Int)] ∧ SqL K H a (ns.map V.int) ∧ ∀ n, Q (.int n) H
theorem ok_cell (F : Fun K "_law_cell_at" "_law_cell_at" sCell f fd) (m1 : mg "len" = none) : FnOk P w K mg base CX0 1 f fd ["_law_script", "_law_k"] (spCell K) := by
  refine F.ok scCell (fun vs H Q E h => ?_) (fun cdv A outer s H vs Q E hr h => ?_)
  · obtain ⟨a, ns, k, rfl, _⟩ := h
    rfl
  obtain ⟨a, ns, k, rfl, hq, q⟩ := h
  refine ⟨_, pss_cons (ps_if (pt_cmpR op_lt (pv 1) (pe_callB call_len_seq rfl m1 PySem.boot_len (pa_cons (pv 0) pa_nil)) (nomark _)) (pss_one (ps_ret (pe_ix ix_list (pv 0) (pv 1) (fun _ _ => rfl)))) pss_nil)
    (pss_one (ps_ret pe_int)), ?_⟩
  refine ⟨_, rfl, _, rfl, a, _, rfl, .inl hq, _, _, rfl, rfl, _, rfl, ite2 (fun h => ?_) (fun _ => q 0)⟩
  have hk : k < ns.length := by
    have h := of_decide_eq_true h
    rw [List.length_map] at h
    omega
  exact ⟨_, rfl, _, rfl, a, _, _, _, rfl, rfl, hq, atI_nat (by rw [List.getElem?_map, List.getElem?_eq_getElem hk]; rfl), q _⟩
/-! ### numbers -/
abbrev sMixed : Stmt := top 10
theorem scMixed : FnScope ["_law_cell", "_law_many", "_law_found", "_law_number", "_law_k"] ["_law_cell", "_law_many"] (defScope sMixed) := ⟨rfl, rfl, rfl, by decide +kernel, rfl, by decide +kernel, by decide +kernel⟩
def spMixed : Sp := fun args H Q _ => ∃ (c : Int) (m : Nat), args = [.int c, .int (m : Int)] ∧ m ≤ 100 ∧ ∀ (H' : Hp) (l : Addr) (ns : List Int), Same H H' → H' l = some (.lst (ns.map V.int)) → ns.length = m → (∀ n ∈ ns, I61 n) → Q (.ref l) H'
theorem ok_mixed (F : Fun K "_law_mixed" "_law_mixed" sMixed f fd) (m1 : mg "range" = none) : FnOk P w K mg base CX0 1 f fd ["_law_cell", "_law_many"] spMixed := by
  refine F.ok scMixed (fun vs H Q E h => ?_) (fun cdv A outer s H vs Q E hr h => ?_)
  · obtain ⟨c, m, rfl, _⟩ := h
    rfl
  obtain ⟨c, m, rfl, hm, q⟩ := h
  refine ⟨_, pss_cons (ps_set (i := 2) scMixed.nd rfl (Or.inl rfl) (pe_lst pa_nil))
    (pss_cons (ps_set (i := 3) scMixed.nd rfl (Or.inl rfl) (pe_op op_add (pe_op op_mul (pe_op op_mod (pv 0) pe_int) pe_int) pe_int))
    (pss_cons (ps_for PassesOwn.never rfl (pi_range1 rfl m1 (pa_cons (pv 1) pa_nil)) (pg_name (i := 4) scMixed.nd rfl (Or.inl rfl))
      (pss_cons (ps_set (i := 3) scMixed.nd rfl (Or.inl rfl) (pe_op op_mod (pe_op op_add (pe_op op_add (pe_op op_mulW (pv 3) (pe_op op_add (pv 3) pe_int)) (pe_op op_mul pe_int (pv 4))) pe_int) pe_int))
      (pss_one (ps_expr (pe_bm PySem.F.plainAttrs_list PySem.F.slot_list_append PySem.F.type_list_append mt_append (pv 2) (pa_cons (pv 3) pa_nil))))))
    (pss_one (ps_ret (pv 2))))), ?_⟩
  refine ⟨len0, fun l hl => ?_⟩
  have g1 := same_new hl (.lst [])
  refine ⟨_, rfl, _, _, rfl, rfl, (by show (0 : Int) < 2305843009213693951; decide), _, _, rfl, rfl, .inr ⟨by decide, by decide⟩, _, _, rfl, rfl, ?_⟩
  have b1 := Int.emod_nonneg c (show (2305843009213693951 : Int) ≠ 0 by decide)
  have b2 := Int.emod_lt_of_pos c (show (0 : Int) < 2305843009213693951 by decide)
  refine ⟨_, rfl, (m : Int), rfl, by omega, by omega, ?_⟩
  refine for_range (fun i σ H' => ∃ (x : Int) (ns : List Int) (z : Option V), σ = [some (.int c), some (.int (m : Int)), some (.ref l), some (.int x), z] ∧ Same H H' ∧ H' l = some (.lst (ns.map V.int)) ∧ (0 ≤ x ∧ x < 2 ^ 100) ∧ ns.length = i ∧ ∀ n ∈ ns, I61 n)
    ⟨_, [], none, rfl, g1, upd_same, ⟨by omega, by omega⟩, rfl, fun n hn => by cases hn⟩ (fun i σ H' hi hinv => ?_) (fun σ H' hinv => ?_)
  · obtain ⟨x, ns, z, rfl, g, hl1, hx, hlen, hns⟩ := hinv
    refine ⟨_, rfl, _, rfl, _, _, rfl, rfl, _, _, rfl, rfl, ⟨⟨hx.1, by omega⟩, ⟨by omega, by omega⟩⟩, _, rfl, _, _, rfl, rfl, .inl ⟨by decide, by decide⟩, _, _, rfl, rfl, _, _, rfl, rfl, _, _, rfl, rfl, (by show (0 : Int) < 2305843009213693951; decide), ?_⟩
    have y1 : I61 ((x * (x + 48271) + 11 * (0 + (i : Int)) + 3) % 2305843009213693951) := ⟨Int.emod_nonneg _ (by decide), Int.emod_lt_of_pos _ (by decide)⟩
    refine ⟨_, rfl, .inl ⟨rfl, _, SqL.of hl1⟩, _, rfl, l, _, _, rfl, rfl, hl1, ?_, ?_⟩
    · rw [List.length_map]; exact sz_of (by omega)
    · refine ⟨((x * (x + 48271) + 11 * (0 + (i : Int)) + 3) % 2305843009213693951), ns ++ [((x * (x + 48271) + 11 * (0 + (i : Int)) + 3) % 2305843009213693951)], _, rfl, fun b o h => by rw [upd_ne (ne_of_none h hl)]; exact g _ _ h, by rw [List.map_append]; exact upd_same, ⟨y1.1, by have := y1.2; omega⟩, by rw [List.length_append, hlen]; rfl, fun n hn => ?_⟩
      rcases List.mem_append.mp hn with h | h
      · exact hns n h
      · rw [List.mem_singleton.mp h]; exact y1
  · obtain ⟨x, ns, z, rfl, g, hl1, hx, hlen, hns⟩ := hinv
    exact ⟨_, rfl, q H' l ns g hl1 (by omega) hns⟩
/-! ### names -/
def abc : Str := "abcdefghijklmnopqrstuvwxyz"
theorem abc_len : abc.cps.toList.length = 26 := by decide +kernel
theorem abc_at {r : Int} (h0 : 0 ≤ r) (h1 : r < 26) : ∃ c, atI abc.cps.toList r = some c := by
  obtain ⟨k, rfl⟩ := Int.eq_ofNat_of_zero_le h0
  exact ⟨_, atI_nat (List.getElem?_eq_getElem (by rw [abc_len]; omega))⟩
abbrev sNames : Stmt := top 11
theorem scNames : FnScope ["_law_x", "_law_letters", "_law_one", "_law_other", "_law_ahead"] ["_law_x"] (defScope sNames) := ⟨rfl, rfl, rfl, by decide +kernel, rfl, by decide +kernel, by decide +kernel⟩
def NmV (K : PySem.W.Frag) (H : Hp) (a : Addr) (ts : List Str) : Prop := SqL K H a (ts.map V.str) ∧ ts.length = 3 ∧ ∀ t ∈ ts, t.length ≤ 40
def spNames (K : PySem.W.Frag) : Sp := fun args H Q _ => ∃ x : Int, args = [.int x] ∧ 0 ≤ x ∧ ∀ (H' : Hp) (l : Addr) (ts : List Str), Same H H' → NmV K H' l ts → Q (.ref l) H'
theorem app_len {t u : Str} {m n : Nat} (h : t.length ≤ m) (h' : u.length ≤ n) : (t ++ u).length ≤ m + n := by rw [strLen_append]; omega
theorem ok_names (F : Fun K "_law_names" "_law_names" sNames f fd) : FnOk P w K mg base CX0 1 f fd ["_law_x"] (spNames K) := by
  refine F.ok scNames (fun vs H Q E h => ?_) (fun cdv A outer s H vs Q E hr h => ?_)
  · obtain ⟨x, rfl, _⟩ := h
    rfl
  obtain ⟨x, rfl, hx, q⟩ := h
  refine ⟨_, pss_cons (ps_set (i := 1) scNames.nd rfl (Or.inl rfl) pe_str)
    (pss_cons (ps_set (i := 2) scNames.nd rfl (Or.inl rfl) (pe_ix ix_str (pv 1) (pe_op op_mod (pv 0) pe_int) (fun _ _ => rfl)))
    (pss_cons (ps_set (i := 3) scNames.nd rfl (Or.inl rfl) (pe_ix ix_str (pv 1) (pe_op op_mod (pe_op op_add (pe_op op_add (pe_op op_mod (pv 0) pe_int) pe_int) (pe_op op_mod (pe_op op_fdiv (pv 0) pe_int) pe_int)) pe_int) (fun _ _ => rfl)))
    (pss_cons (ps_set (i := 4) scNames.nd rfl (Or.inl rfl) pe_str)
    (pss_cut (ps_if (pt_cmpR op_eq (pe_op op_mod (pe_op op_fdiv (pv 0) pe_int) pe_int) pe_int (nomark _))
      (pss_one (ps_set (i := 4) scNames.nd rfl (Or.inl rfl) (pe_op op_mul_str (pe_ix ix_str (pv 1) (pe_op op_mod (pe_op op_fdiv (pv 0) pe_int) pe_int) (fun _ _ => rfl)) (pe_op op_mod (pe_op op_fdiv (pv 0) pe_int) pe_int)))) pss_nil)
    (pss_one (ps_ret (pe_lst (pa_cons (pe_op op_add_str (pv 4) (pv 2)) (pa_cons (pe_op op_add_str (pe_op op_add_str (pv 4) (pv 2)) (pv 3)) (pa_cons (pe_op op_add_str (pv 4) (pv 3)) pa_nil)))))))))), ?_⟩
  have al : abc.length ≤ sizeLine := small_le (by decide +kernel)
  obtain ⟨c1, e1⟩ := abc_at (r := x % 26) (Int.emod_nonneg _ (by decide)) (Int.emod_lt_of_pos _ (by decide))
  obtain ⟨c2, e2⟩ := abc_at (r := (x % 26 + 1 + x / 26 % 25) % 26) (Int.emod_nonneg _ (by decide)) (Int.emod_lt_of_pos _ (by decide))
  refine ⟨_, rfl, _, rfl, _, _, rfl, rfl, (by show (0 : Int) < 26; decide), _, _, c1, rfl, rfl, al, e1, ?_⟩
  refine ⟨_, rfl, _, rfl, _, _, rfl, rfl, (by show (0 : Int) < 26; decide), _, _, rfl, rfl, _, rfl, _, _, rfl, rfl, ⟨by decide, by decide⟩, _, _, rfl, rfl, (by show (0 : Int) < 25; decide), _, _, rfl, rfl, _, _, rfl, rfl, (by show (0 : Int) < 26; decide), _, _, c2, rfl, rfl, al, e2, ?_⟩
  refine ⟨fun σ' H' => ∃ t : Str, σ' = [some (.int x), some (.str abc), some (.str ⟨#[c1]⟩), some (.str ⟨#[c2]⟩), some (.str t)] ∧ H' = H ∧ t.length ≤ 30, ?_, ?_⟩
  · refine ⟨_, rfl, _, _, rfl, rfl, ⟨by decide, by decide⟩, _, _, rfl, rfl, (by show (0 : Int) < 4; decide), rfl, _, rfl, ite2 (fun _ => ?_) (fun _ => ⟨_, rfl, rfl, by decide⟩)⟩
    obtain ⟨c3, e3⟩ := abc_at (r := x / 2600 % 26) (Int.emod_nonneg _ (by decide)) (Int.emod_lt_of_pos _ (by decide))
    have m1 := Int.emod_nonneg (x / 67600) (show (29 : Int) ≠ 0 by decide)
    have m2 := Int.emod_lt_of_pos (x / 67600) (show (0 : Int) < 29 by decide)
    refine ⟨_, rfl, _, rfl, _, _, rfl, rfl, ⟨by decide, by decide⟩, _, _, rfl, rfl, (by show (0 : Int) < 26; decide), _, _, c3, rfl, rfl, al, e3, _, rfl, _, _, rfl, rfl, ⟨by decide, by decide⟩, _, _, rfl, rfl, (by show (0 : Int) < 29; decide), ?_⟩
    refine ⟨_, _, rfl, rfl, by show 1 ≤ 1000; decide, by omega, by omega, _, rfl, rfl, ?_⟩
    exact Nat.le_trans (PyProof.Rows.len_mul_leN (x := ⟨#[c3]⟩) (L := 1) (N := 29) (Nat.le_refl 1) (by omega)) (by decide)
  · rintro σ1 H1 ⟨t, rfl, rfl, ht⟩
    have o1 : ∀ c : Nat, (⟨#[c]⟩ : Str).length ≤ 1 := fun c => Nat.le_refl 1
    have l1 := app_len ht (o1 c1)
    have l2 := app_len l1 (o1 c2)
    have l3 := app_len ht (o1 c2)
    refine ⟨_, rfl, _, rfl, _, _, rfl, rfl, small_le (by have := o1 c1; omega), _, rfl, _, rfl, _, _, rfl, rfl, small_le (by have := o1 c1; omega), _, rfl, _, _, rfl, rfl, small_le (by have := o1 c2; omega), _, rfl, _, rfl, _, _, rfl, rfl, small_le (by have := o1 c2; omega), len3, fun l hl => ?_⟩
    refine q _ l [t ++ ⟨#[c1]⟩, (t ++ ⟨#[c1]⟩) ++ ⟨#[c2]⟩, t ++ ⟨#[c2]⟩] (same_new hl _) ⟨SqL.of upd_same, rfl, fun u hu => ?_⟩
    simp only [List.mem_cons, List.not_mem_nil, or_false] at hu
    rcases hu with rfl | rfl | rfl <;> omega
/-! ### a path -/
def nmAt (ts : List Str) (y : Int) : Str := ts.getD (y % 3).toNat ""
theorem nm_at {ts : List Str} (h : ts.length = 3) (y : Int) : atI (ts.map V.str) (y % 3) = some (.str (nmAt ts y)) ∧ nmAt ts y ∈ ts := by
  have h0 := Int.emod_nonneg y (show (3 : Int) ≠ 0 by decide)
  have h1 := Int.emod_lt_of_pos y (show (0 : Int) < 3 by decide)
  obtain ⟨k, ek⟩ := Int.eq_ofNat_of_zero_le h0
  have hk : k < ts.length := by omega
  have e : nmAt ts y = ts[k] := by
    unfold nmAt
    rw [ek]
    simp [List.getD_eq_getElem?_getD, List.getElem?_eq_getElem hk]
  constructor
  · rw [ek, e]
    exact atI_nat (by rw [List.getElem?_map, List.getElem?_eq_getElem hk]; rfl)
  · rw [e]; exact List.getElem_mem hk
theorem dv_pD {H : Hp} {p : Addr} {ws : List Str} (h : SqT K H p (ws.map V.str)) (hl : ws.length ≤ 100) (hw : ∀ t ∈ ws, t.length ≤ 1000) : DV K H (pD ws) (.ref p) := by
  simp only [pD, DV]
  refine ⟨p, _, rfl, h, ?_, by simpa using hl⟩
  clear h hl
  induction ws with
  | nil => simp only [List.map_nil, DAll]
  | cons x ws ih =>
    simp only [List.map_cons, DAll, DV]
    exact ⟨_, _, rfl, ⟨rfl, hw x List.mem_cons_self⟩, ih fun t ht => hw t (List.mem_cons_of_mem _ ht)⟩
abbrev sPath : Stmt := top 12
theorem scPath : FnScope ["_law_x", "_law_names_here", "_law_xs"] ["_law_x", "_law_names_here"] (defScope sPath) := ⟨rfl, rfl, rfl, by decide +kernel, rfl, by decide +kernel, by decide +kernel⟩
theorem nd_yn : (["_law_y", "_law_names_here"] : List Str).Nodup := by decide +kernel
def spPath (K : PySem.W.Frag) : Sp := fun args H Q _ => ∃ (x : Int) (a : Addr) (ts : List Str), args = [.int x, .ref a] ∧ NmV K H a ts ∧ ∀ (H' : Hp) (v : V) (ws : List Str), Same H H' → DV K H' (pD ws) v → ws.length ≤ 4 → Q v H'
theorem ok_path (F : Fun K "_law_path" "_law_path" sPath f fd) (M : Cal P w K mg base 1 "_law_mixed" ["_law_cell", "_law_many"] spMixed) (m1 : mg "tuple" = none) : FnOk P w K mg base CX0 2 f fd ["_law_x", "_law_names_here"] (spPath K) := by
  refine F.ok scPath (fun vs H Q E h => ?_) (fun cdv A outer s H vs Q E hr h => ?_)
  · obtain ⟨x, a, ts, rfl, _⟩ := h
    rfl
  obtain ⟨x, a, ts, rfl, ⟨hq, h3, h40⟩, q⟩ := h
  refine ⟨_, pss_cons (ps_set (i := 2) scPath.nd rfl (Or.inl rfl) (pe_cal M hr rfl (pa_cons (pv 0) (pa_cons pe_int pa_nil))))
    (pss_one (ps_ret (pe_callTy call_tuple_of rfl m1 bt_tuple (pa_cons (pe_comp (N' := ["_law_y", "_law_names_here"]) (fr := [none, some 1]) (own := [0]) ⟨rfl, rfl, rfl, rfl, rfl, rfl, rfl⟩ rfl
      (pi_list (pe_slice sl_list (pv 2) (po_some pe_int) (po_some (pe_op op_add pe_int (pe_ix ix_list (pe_lst (pa_cons pe_int (pa_cons pe_int (pa_cons pe_int (pa_cons pe_int pa_nil))))) (pe_op op_mod (pe_ix ix_list (pv 2) pe_int (fun _ _ => rfl)) pe_int) (fun _ _ => rfl))))))
      (fun _ _ _ _ => pg_name (i := 0) nd_yn rfl (Or.inl rfl)) (own_name 0) (fun _ _ _ _ => pts_nil) (fun _ _ _ _ => pe_ix ix_listC (pv 1) (pe_op op_mod (pv 0) pe_int) (fun _ _ => rfl))) pa_nil)))), ?_⟩
  refine ⟨_, rfl, x, 4, rfl, by decide, fun H1 l ns g1 hl hlen hns => ?_⟩
  obtain ⟨n0, n1, n2, n3, rfl⟩ := len_4 hlen
  refine ⟨_, rfl, _, rfl, len4, fun l4 hl4 => ?_⟩
  have g2 := same_new hl4 (.lst [.int 0, .int 0, .int 1, .int 2])
  have hl' := g2 _ _ hl
  obtain ⟨r, hr1, er⟩ : ∃ r : Nat, r ≤ 2 ∧ atI ([.int 0, .int 0, .int 1, .int 2] : List V) (n0 % 4) = some (.int (r : Int)) := by
    have := Int.emod_nonneg n0 (show (4 : Int) ≠ 0 by decide)
    have := Int.emod_lt_of_pos n0 (show (0 : Int) < 4 by decide)
    have : n0 % 4 = 0 ∨ n0 % 4 = 1 ∨ n0 % 4 = 2 ∨ n0 % 4 = 3 := by omega
    rcases this with e | e | e | e <;> rw [e]
    · exact ⟨0, by decide, rfl⟩
    · exact ⟨0, by decide, rfl⟩
    · exact ⟨1, by decide, rfl⟩
    · exact ⟨2, by decide, rfl⟩
  refine ⟨_, rfl, l, _, _, _, rfl, rfl, SqL.of hl', atI_nat (j := 0) rfl, _, _, rfl, rfl, (by show (0 : Int) < 4; decide), l4, _, _, _, rfl, rfl, SqL.of upd_same, er, _, _, rfl, rfl, _, rfl, l, _, rfl, SqL.of hl', fun l5 hl5 => ?_⟩
  have ec : cutV ([n0, n1, n2, n3].map V.int) (some 1) (some (2 + (r : Int))) = (([n0, n1, n2, n3].drop 1).take (2 + r - 1)).map V.int := by
    have h := cut_between V.int [n0, n1, n2, n3] 1 (2 + r)
    have e : ((2 + r : Nat) : Int) = 2 + (r : Int) := by omega
    rw [e] at h
    exact h
  rw [ec]
  generalize hys : ([n0, n1, n2, n3].drop 1).take (2 + r - 1) = ys
  have yl : ys.length ≤ 3 := by rw [← hys, List.length_take]; simp; omega
  have g3 := same_new hl5 (.lst (ys.map V.int))
  generalize hH3 : upd (upd H1 l4 _) l5 _ = H3
  have g03 : Same H H3 := by rw [← hH3]; exact fun b o h => g3 _ _ (g2 _ _ (g1 _ _ h))
  have hl5' : H3 l5 = some (.lst (ys.map V.int)) := by rw [← hH3]; exact upd_same
  refine ⟨l5, rfl, ⟨_, SqL.of hl5'⟩, fun l6 hl6 => ?_⟩
  refine comp_valsL (xs := ys.map V.int) (ys.map fun y => V.str (nmAt ts y)) hl6 (SqL.of hl5') (by simp) (by simp; omega) (fun i x b zs H' N hx hb g fin => ?_) (fun H' g hL => ?_)
  · rw [List.getElem?_map] at hx hb
    cases e : ys[i]? with
    | none => rw [e] at hx; cases hx
    | some y =>
      rw [e] at hx hb
      cases hx
      cases hb
      dsimp only [CTurn, gName]
      exact yesT ⟨_, rfl, _, rfl, _, _, rfl, rfl, (by show (0 : Int) < 3; decide), a, _, _, _, rfl, rfl, g.seq (g03.seq hq), (nm_at h3 y).1, fin _ sameR⟩
  · refine ⟨l6, _, rfl, .inl ⟨SqL.of hL, fun p hp => ?_⟩⟩
    have g4 := same_new hp (.tup (ys.map fun y => V.str (nmAt ts y)))
    have ew : (ys.map fun y => V.str (nmAt ts y)) = (ys.map (nmAt ts)).map V.str := by rw [List.map_map]; rfl
    refine q _ _ (ys.map (nmAt ts)) (fun b o h => g4 _ _ (g _ _ (g03 _ _ h))) (dv_pD (SqT.of (by rw [← ew]; exact upd_same)) (by simp; omega) (fun t ht => ?_)) (by simp; omega)
    obtain ⟨y, _, rfl⟩ := List.mem_map.mp ht
    have := h40 _ (nm_at h3 y).2
    omega
end
end Law

set_option Elab.async false
set_option linter.all false
set_option maxRecDepth 100000
set_option maxHeartbeats 4000000
namespace Law
open PySem L2 L2.Sp
def ifC : Stmt → Expr
  | .If c _ _ _ => c
  | _ => .Constant .none 0 ⟨0, 0, 0, 0⟩
def ifB : Stmt → List Stmt
  | .If _ b _ _ => b
  | _ => []
def isS : D → Bool
  | .str t => decide (t.length ≤ 1000)
  | _ => false
def okTs (n : Nat) (es : List Expr) : Bool := match ceL 40 es with
  | some ds => decide (ds.length = n) && ds.all isS
  | none => false
theorem pa_ts {n : Nat} {es : List Expr} (h : okTs n es = true) : ∃ ds : List D, ds.length = n ∧ ds.all isS = true ∧ ∀ X : Cx, PA X es (tMks X.K ds) := by
  unfold okTs at h
  split at h
  · rename_i ds e
    simp only [Bool.and_eq_true, decide_eq_true_iff] at h
    exact ⟨ds, h.1, h.2, fun X => (pe_ce (X := X) 40).2 es ds e⟩
  · cases h
theorem isS_of {d : D} (h : isS d = true) : ∃ t, d = .str t ∧ t.length ≤ 1000 := by
  cases d with
  | str t => exact ⟨t, rfl, of_decide_eq_true h⟩
  | _ => cases h
section
variable {P : Program} {w : World} {K : PySem.W.Frag} {mg : Str → Option Value} {base : Heap} {f : Addr} {fd : FuncData}
theorem dvn {H : Hp} {a : Addr} {ds : List D} {vs : List V} (h : H a = some (.tup vs)) (hv : DAll K H ds vs) (l : ds.length ≤ 100) : DV K H (.tup ds) (.ref a) := by
  simp only [DV]
  exact ⟨a, vs, rfl, SqT.of h, hv, l⟩
theorem das {H : Hp} {t : Str} (h : t.length ≤ 1000) : DV K H (.str t) (.str t) := by simp only [DV]; exact ⟨trivial, h⟩
theorem dai {H : Hp} {i : Int} : DV K H (.int i) (.int i) := by simp only [DV]
theorem dab {H : Hp} {b : Bool} : DV K H (.bl b) (.bl b) := by simp only [DV]
theorem dan {H : Hp} : DV K H .non .non := by simp only [DV]
theorem da0 {H : Hp} : DAll K H [] [] := by simp only [DAll]
theorem dac {H : Hp} {d : D} {ds : List D} {v : V} {vs : List V} (h : DV K H d v) (h' : DAll K H ds vs) : DAll K H (d :: ds) (v :: vs) := by simp only [DAll]; exact ⟨v, vs, rfl, h, h'⟩
abbrev sLeaf : Stmt := top 13
theorem scLeaf : FnScope ["_law_x", "_law_xs", "_law_some", "_law_low"] ["_law_x"] (defScope sLeaf) := ⟨rfl, rfl, rfl, by decide +kernel, rfl, by decide +kernel, by decide +kernel⟩
def pst : Stmt := .Pass ⟨0, 0, 0, 0⟩
theorem body_leaf : ∃ (p1 p2 p3 p4 : Pos) (es : List Expr), defBody sLeaf = (defBody sLeaf).getD 0 pst :: .If (ifC ((defBody sLeaf).getD 1 pst)) (.Assign [.Name "_law_some" p1] (.List es p2) p3 :: (ifB ((defBody sLeaf).getD 1 pst)).tail) [] p4 :: (defBody sLeaf).drop 2 ∧ okTs 12 es = true :=
  ⟨_, _, _, _, _, rfl, by decide +kernel⟩
def spLeaf (K : PySem.W.Frag) : Sp := fun args H Q _ => ∃ x : Int, args = [.int x] ∧ ∀ (H' : Hp) (v : V) (d : D), Same H H' → DV K H' d v → Tr d [] → nD d ≤ 5 → Q v H'
theorem tr_word {r : List D} : Tr (.tup (.str "word" :: r)) [] := .leaf (by decide +kernel) (by decide +kernel) (by decide +kernel)
theorem tr_text {r : List D} : Tr (.tup (.str "text" :: r)) [] := .leaf (by decide +kernel) (by decide +kernel) (by decide +kernel)
theorem tr_span {r : List D} : Tr (.tup (.str "span" :: r)) [] := .leaf (by decide +kernel) (by decide +kernel) (by decide +kernel)
theorem md {n : Int} {k : Nat} (h : 0 < k) : ∃ r : Nat, r < k ∧ n % (k : Int) = (r : Int) := by
  have h0 := Int.emod_nonneg n (show (k : Int) ≠ 0 by omega)
  have h1 := Int.emod_lt_of_pos n (show (0 : Int) < (k : Int) by omega)
  obtain ⟨r, e⟩ := Int.eq_ofNat_of_zero_le h0
  exact ⟨r, by omega, e⟩
theorem ok_leaf (F : Fun K "_law_leaf" "_law_leaf" sLeaf f fd) (M : Cal P w K mg base 1 "_law_mixed" ["_law_cell", "_law_many"] spMixed) : FnOk P w K mg base CX0 2 f fd ["_law_x"] (spLeaf K) := by
  refine F.ok scLeaf (fun vs H Q E h => ?_) (fun cdv A outer s H vs Q E hr h => ?_)
  · obtain ⟨x, rfl, _⟩ := h
    rfl
  obtain ⟨x, rfl, q⟩ := h
  obtain ⟨p1, p2, p3, p4, es, hb, hes⟩ := body_leaf
  obtain ⟨ts, htl, hts, ha⟩ := pa_ts hes
  rw [hb]
  refine ⟨_, pss_cons (ps_set (i := 1) scLeaf.nd rfl (Or.inl rfl) (pe_cal M hr rfl (pa_cons (pv 0) (pa_cons pe_int pa_nil))))
    (pss_cons (ps_if (pt_cmpR op_lt (pe_op op_mod (pe_ix ix_list (pv 1) pe_int (fun _ _ => rfl)) pe_int) pe_int (nomark _))
      (pss_cons (ps_set (i := 2) scLeaf.nd rfl (Or.inl rfl) (pe_lst (ha _)))
      (pss_one (ps_ret (pe_tup (pa_cons pe_str (pa_cons (pe_ix ix_list (pv 2) (pe_op op_mod (pe_ix ix_list (pv 1) pe_int (fun _ _ => rfl)) pe_int) (fun _ _ => rfl)) pa_nil)))))) pss_nil)
    (pss_cons (ps_if (pt_cmpR op_eq (pe_op op_mod (pe_ix ix_list (pv 1) pe_int (fun _ _ => rfl)) pe_int) pe_int (nomark _))
      (pss_one (ps_ret (pe_tup (pa_cons pe_str (pa_cons (pe_ix ix_list (pe_lst (pa_cons pe_str (pa_cons pe_str (pa_cons pe_str (pa_cons pe_str (pa_cons pe_str pa_nil)))))) (pe_op op_mod (pe_ix ix_list (pv 1) pe_int (fun _ _ => rfl)) pe_int) (fun _ _ => rfl)) pa_nil))))) pss_nil)
    (pss_cons (ps_set (i := 3) scLeaf.nd rfl (Or.inl rfl) (pe_op op_sub (pe_op op_mod (pe_ix ix_list (pv 1) pe_int (fun _ _ => rfl)) pe_int) pe_int))
    (pss_cut (ps_if (pt_cmpR op_eq (pe_op op_mod (pe_ix ix_list (pv 1) pe_int (fun _ _ => rfl)) pe_int) pe_int (nomark _))
      (pss_one (ps_set (i := 3) scLeaf.nd rfl (Or.inl rfl) (pe_op op_sub (pe_op op_mod (pe_op op_mul (pe_op op_mul (pe_ix ix_list (pv 1) pe_int (fun _ _ => rfl)) (pe_ix ix_list (pv 1) pe_int (fun _ _ => rfl))) (pe_ix ix_list (pv 1) pe_int (fun _ _ => rfl))) (pe_op op_pow pe_int pe_int)) (pe_op op_mul pe_int (pe_op op_pow pe_int pe_int))))) pss_nil)
    (pss_cons (ps_if (pt_cmpR op_eq (pe_op op_mod (pe_ix ix_list (pv 1) pe_int (fun _ _ => rfl)) pe_int) pe_int (nomark _))
      (pss_one (ps_ret (pe_tup (pa_cons pe_str (pa_cons pe_non (pa_cons (pv 3) pa_nil)))))) pss_nil)
    (pss_one (ps_ret (pe_tup (pa_cons pe_str (pa_cons (pv 3) (pa_cons (pe_ix ix_list (pe_lst (pa_cons (pv 3) (pa_cons (pv 3) (pa_cons (pe_op op_add (pv 3) (pe_op op_mod (pe_ix ix_list (pv 1) pe_int (fun _ _ => rfl)) pe_int)) (pa_cons (pe_op op_add (pv 3) (pe_op op_mod (pe_ix ix_list (pv 1) pe_int (fun _ _ => rfl)) pe_int)) (pa_cons (pe_op op_sub (pv 3) pe_int) (pa_cons pe_non pa_nil)))))))
      (pe_op op_mod (pe_op op_fdiv (pe_ix ix_list (pv 1) pe_int (fun _ _ => rfl)) pe_int) pe_int) (fun _ _ => rfl)) pa_nil))))))))))), ?_⟩
  refine ⟨_, rfl, x, 5, rfl, by decide, fun H1 l ns g1 hl hlen hns => ?_⟩
  obtain ⟨n0, n1, n2, n3, n4, rfl⟩ := len_5 hlen
  have L : ∀ {H2 : Hp}, Same H1 H2 → SqL K H2 l ([n0, n1, n2, n3, n4].map V.int) := fun g => SqL.of (g _ _ hl)
  have i1 := hns n1 (by simp)
  have i3 := hns n3 (by simp)
  refine ⟨_, rfl, l, _, _, _, rfl, rfl, L sameR, atI_nat (j := 0) rfl, _, _, rfl, rfl, (by show (0 : Int) < 8; decide), _, _, rfl, rfl, _, rfl, ite2 (fun _ => ?_) (fun _ => ?_)⟩
  · intro vs H2 g2 hall
    have hvl := hall.length
    refine ⟨small_le (by omega), fun l2 hl2 => ?_⟩
    have g3 := same_new hl2 (.lst vs)
    obtain ⟨r, hr12, er⟩ := md (n := n1) (k := 12) (by decide)
    have er : n1 % 12 = (r : Int) := er
    have ev : vs[r]? = some vs[r] := List.getElem?_eq_getElem (by omega)
    obtain ⟨d, hd1, hd2⟩ := hall.get ev
    obtain ⟨t, rfl, ht⟩ := isS_of (List.all_eq_true.mp hts d (List.mem_of_getElem? hd1))
    simp only [DV] at hd2
    refine ⟨_, rfl, _, rfl, l, _, _, _, rfl, rfl, L (fun b o h => g3 _ _ (g2 _ _ h)), atI_nat (j := 1) rfl, _, _, rfl, rfl, (by show (0 : Int) < 12; decide), l2, _, _, _, rfl, rfl, SqL.of upd_same, by show atI vs (n1 % 12) = some vs[r]; rw [er]; exact atI_nat ev, len2, fun p hp => ?_⟩
    rw [hd2.1]
    refine q _ _ _ (fun b o h => same_new hp _ _ _ (g3 _ _ (g2 _ _ (g1 _ _ h)))) (dvn upd_same (dac (das (by decide)) (dac (das ht) da0)) (by simp)) tr_word (by simp [nD, nL])
  refine ⟨_, rfl, l, _, _, _, rfl, rfl, L sameR, atI_nat (j := 0) rfl, _, _, rfl, rfl, (by show (0 : Int) < 8; decide), rfl, _, rfl, ite2 (fun _ => ?_) (fun _ => ?_)⟩
  · refine ⟨by show 5 ≤ sizeLine; decide, fun l2 hl2 => ?_⟩
    have g3 := same_new hl2 (.lst [.str "", .str "a", .str "b", .str "ab", .str " ,"])
    obtain ⟨r, hr5, er⟩ := md (n := n1) (k := 5) (by decide)
    obtain ⟨t, et, ht⟩ : ∃ t : Str, atI ([.str "", .str "a", .str "b", .str "ab", .str " ,"] : List V) (n1 % 5) = some (.str t) ∧ t.length ≤ 1000 := by
      have er : n1 % 5 = (r : Int) := er
      rw [er]
      have : r = 0 ∨ r = 1 ∨ r = 2 ∨ r = 3 ∨ r = 4 := by omega
      rcases this with rfl | rfl | rfl | rfl | rfl
      · exact ⟨"", rfl, by decide⟩
      · exact ⟨"a", rfl, by decide⟩
      · exact ⟨"b", rfl, by decide⟩
      · exact ⟨"ab", rfl, by decide⟩
      · exact ⟨" ,", rfl, by decide⟩
    refine ⟨_, rfl, l, _, _, _, rfl, rfl, L g3, atI_nat (j := 1) rfl, _, _, rfl, rfl, (by show (0 : Int) < 5; decide), l2, _, _, _, rfl, rfl, SqL.of upd_same, et, len2, fun p hp => ?_⟩
    refine q _ _ _ (fun b o h => same_new hp _ _ _ (g3 _ _ (g1 _ _ h))) (dvn upd_same (dac (das (by decide)) (dac (das ht) da0)) (by simp)) tr_text (by simp [nD, nL])
  refine ⟨_, rfl, l, _, _, _, rfl, rfl, L sameR, atI_nat (j := 1) rfl, _, _, rfl, rfl, (by show (0 : Int) < 7; decide), _, _, rfl, rfl, ?_⟩
  refine ⟨fun σ' H' => ∃ (lo : Int) (z : Option V), σ' = [some (.int x), some (.ref l), z, some (.int lo)] ∧ H' = H1, ?_, ?_⟩
  · refine ⟨_, rfl, l, _, _, _, rfl, rfl, L sameR, atI_nat (j := 2) rfl, _, _, rfl, rfl, (by show (0 : Int) < 8; decide), rfl, _, rfl, ite2 (fun _ => ?_) (fun _ => ⟨_, _, rfl, rfl⟩)⟩
    refine ⟨_, rfl, l, _, _, _, rfl, rfl, L sameR, atI_nat (j := 1) rfl, _, rfl, l, _, _, _, rfl, rfl, L sameR, atI_nat (j := 2) rfl, _, _, rfl, rfl, .inl ⟨by have := i1.1; omega, by have := i1.2; omega⟩, _, rfl, l, _, _, _, rfl, rfl, L sameR, atI_nat (j := 3) rfl, _, _, rfl, rfl, .inr ⟨by have := i3.1; omega, by have := i3.2; omega⟩, ?_⟩
    exact ⟨_, _, rfl, rfl, ⟨by decide, by decide, by decide⟩, _, _, rfl, rfl, (by show (0 : Int) < 10 ^ Int.toNat 50; decide), _, _, rfl, rfl, ⟨by decide, by decide, by decide⟩, _, _, rfl, rfl, .inl ⟨by decide, by decide⟩, _, _, rfl, rfl, _, _, rfl, rfl⟩
  · rintro σ1 H2 ⟨lo, z, rfl, rfl⟩
    refine ⟨_, rfl, l, _, _, _, rfl, rfl, L sameR, atI_nat (j := 3) rfl, _, _, rfl, rfl, (by show (0 : Int) < 8; decide), rfl, _, rfl, ite2 (fun _ => ?_) (fun _ => ?_)⟩
    · refine ⟨_, rfl, len3, fun p hp => ?_⟩
      refine q _ _ _ (fun b o h => same_new hp _ _ _ (g1 _ _ h)) (dvn upd_same (dac (das (by decide)) (dac dan (dac dai da0))) (by simp)) tr_span (by simp [nD, nL])
    · refine ⟨_, rfl, _, rfl, _, rfl, _, rfl, _, rfl, l, _, _, _, rfl, rfl, L sameR, atI_nat (j := 4) rfl, _, _, rfl, rfl, (by show (0 : Int) < 4; decide), _, _, rfl, rfl, _, rfl, _, rfl, l, _, _, _, rfl, rfl, L sameR, atI_nat (j := 4) rfl, _, _, rfl, rfl, (by show (0 : Int) < 4; decide), _, _, rfl, rfl, _, rfl, _, _, rfl, rfl, by show 6 ≤ sizeLine; decide, fun l2 hl2 => ?_⟩
      have g3 := same_new hl2 (.lst [.int lo, .int lo, .int (lo + n4 % 4), .int (lo + n4 % 4), .int (lo - 1), .non])
      obtain ⟨r, hr6, er⟩ := md (n := n3 / 8) (k := 6) (by decide)
      obtain ⟨v, d, ev, hvd, h1⟩ : ∃ (v : V) (d : D), atI ([.int lo, .int lo, .int (lo + n4 % 4), .int (lo + n4 % 4), .int (lo - 1), .non] : List V) (n3 / 8 % 6) = some v ∧ (∀ Hx, DV K Hx d v) ∧ nD d = 1 := by
        have er : n3 / 8 % 6 = (r : Int) := er
        rw [er]
        have : r = 0 ∨ r = 1 ∨ r = 2 ∨ r = 3 ∨ r = 4 ∨ r = 5 := by omega
        rcases this with rfl | rfl | rfl | rfl | rfl | rfl
        · exact ⟨_, .int lo, atI_nat (j := 0) rfl, fun _ => dai, by simp [nD]⟩
        · exact ⟨_, .int lo, atI_nat (j := 1) rfl, fun _ => dai, by simp [nD]⟩
        · exact ⟨_, .int _, atI_nat (j := 2) rfl, fun _ => dai, by simp [nD]⟩
        · exact ⟨_, .int _, atI_nat (j := 3) rfl, fun _ => dai, by simp [nD]⟩
        · exact ⟨_, .int _, atI_nat (j := 4) rfl, fun _ => dai, by simp [nD]⟩
        · exact ⟨_, .non, atI_nat (j := 5) rfl, fun _ => dan, by simp [nD]⟩
      refine ⟨_, rfl, l, _, _, _, rfl, rfl, L g3, atI_nat (j := 3) rfl, _, _, rfl, rfl, ⟨by decide, by decide⟩, _, _, rfl, rfl, (by show (0 : Int) < 6; decide), l2, _, _, _, rfl, rfl, SqL.of upd_same, ev, len3, fun p hp => ?_⟩
      refine q _ _ _ (fun b o h => same_new hp _ _ _ (g3 _ _ (g1 _ _ h))) (dvn upd_same (dac (das (by decide)) (dac dai (dac (hvd _) da0))) (by simp)) tr_span (by simp [nD, nL, h1])
end
end Law

set_option Elab.async false
set_option linter.all false
set_option maxRecDepth 100000
set_option maxHeartbeats 4000000
namespace Law
open PySem L2 L2.Sp
theorem len_8 {α : Type} {l : List α} (h : l.length = 8) : ∃ a b c d e f g i, l = [a, b, c, d, e, f, g, i] := by
  match l, h with
  | [a, b, c, d, e, f, g, i], _ => exact ⟨a, b, c, d, e, f, g, i, rfl⟩
theorem cut_V (xs : List V) (n : Nat) : cutV xs none (some (n : Int)) = xs.take n := by
  have := cut_to id xs n
  simpa using this
theorem nL_take : ∀ (ds : List D) (n : Nat), nL (ds.take n) ≤ nL ds
  | [], n => by simp [nL]
  | d :: ds, 0 => by simp [nL]
  | d :: ds, n + 1 => by
    have := nL_take ds n
    simp only [List.take_succ_cons, nL]; omega
section
variable {P : Program} {w : World} {K : PySem.W.Frag} {mg : Str → Option Value} {base : Heap} {f : Addr} {fd : FuncData}
theorem DAll.take {H : Hp} : ∀ {ds : List D} {vs : List V} (n : Nat), DAll K H ds vs → DAll K H (ds.take n) (vs.take n)
  | [], vs, n, h => by simp only [DAll] at h; subst h; simp [DAll]
  | d :: ds, vs, 0, h => by simp [DAll]
  | d :: ds, vs, n + 1, h => by
    simp only [DAll] at h
    obtain ⟨y, r, rfl, h1, h2⟩ := h
    simp only [List.take_succ_cons, DAll]
    exact ⟨y, _, rfl, h1, DAll.take n h2⟩
theorem dvq {H : Hp} {a : Addr} {ds : List D} {vs : List V} (h : SqT K H a vs) (hv : DAll K H ds vs) (l : ds.length ≤ 100) : DV K H (.tup ds) (.ref a) := by
  simp only [DV]
  exact ⟨a, vs, rfl, h, hv, l⟩
theorem tr_no {wd : Str} {r : List D} (h : wd ≠ "place" ∧ wd ≠ "and" ∧ wd ≠ "or") : Tr (.tup (.str wd :: r)) [] := .leaf h.1 h.2.1 h.2.2
theorem tr_two {wd : Str} {a b : D} (h : wd = "and" ∨ wd = "or") (t1 : Tr a []) (t2 : Tr b []) : Tr (.tup [.str wd, .tup [a, b]]) [] := .node h (.cons t1 (.cons t2 .nil))
abbrev sPlain : Stmt := top 14
theorem scPlain : FnScope ["_law_x", "_law_names_here", "_law_xs", "_law_way", "_law_one", "_law_other", "_law_fields", "_law_record"] ["_law_x", "_law_names_here"] (defScope sPlain) := ⟨rfl, rfl, rfl, by decide +kernel, rfl, by decide +kernel, by decide +kernel⟩
def spPlain (K : PySem.W.Frag) : Sp := fun args H Q _ => ∃ (x : Int) (a : Addr) (ts : List Str), args = [.int x, .ref a] ∧ NmV K H a ts ∧ ∀ (H' : Hp) (v : V) (d : D), Same H H' → DV K H' d v → Tr d [] → nD d ≤ 40 → Q v H'
theorem up {H H' : Hp} {d : D} {v : V} (g : Same H H') (h : DV K H d v) : DV K H' d v := DV.mono (DKeep.same g) _ _ h
theorem ok_plain (F : Fun K "_law_plain" "_law_plain" sPlain f fd) (M : Cal P w K mg base 1 "_law_mixed" ["_law_cell", "_law_many"] spMixed) (Lf : Cal P w K mg base 2 "_law_leaf" ["_law_x"] (spLeaf K)) : FnOk P w K mg base CX0 3 f fd ["_law_x", "_law_names_here"] (spPlain K) := by
  refine F.ok scPlain (fun vs H Q E h => ?_) (fun cdv A outer s H vs Q E hr h => ?_)
  · obtain ⟨x, a, ts, rfl, _⟩ := h
    rfl
  obtain ⟨x, a, ts, rfl, ⟨hq, h3, h40⟩, q⟩ := h
  have hr1 := hr.mono (show 1 ≤ 2 by decide)
  refine ⟨_, pss_cons (ps_set (i := 2) scPlain.nd rfl (Or.inl rfl) (pe_cal M hr1 rfl (pa_cons (pv 0) (pa_cons pe_int pa_nil))))
    (pss_cons (ps_set (i := 3) scPlain.nd rfl (Or.inl rfl) (pe_op op_mod (pe_ix ix_list (pv 2) pe_int (fun _ _ => rfl)) pe_int))
    (pss_cons (ps_set (i := 4) scPlain.nd rfl (Or.inl rfl) (pe_cal Lf hr rfl (pa_cons (pe_ix ix_list (pv 2) pe_int (fun _ _ => rfl)) pa_nil)))
    (pss_cons (ps_set (i := 5) scPlain.nd rfl (Or.inl rfl) (pe_cal Lf hr rfl (pa_cons (pe_ix ix_list (pv 2) pe_int (fun _ _ => rfl)) pa_nil)))
    (pss_cons (ps_if (pt_cmpR op_lt (pv 3) pe_int (nomark _)) (pss_one (ps_ret (pv 4))) pss_nil)
    (pss_cons (ps_if (pt_cmpR op_lt (pv 3) pe_int (nomark _)) (pss_one (ps_ret (pe_ix ix_list (pe_lst (pa_cons (pe_tup (pa_cons pe_str (pa_cons (pe_tup (pa_cons (pv 4) (pa_cons (pv 5) pa_nil))) pa_nil))) (pa_cons (pe_tup (pa_cons pe_str (pa_cons (pe_tup (pa_cons (pv 4) (pa_cons (pv 5) pa_nil))) pa_nil))) (pa_cons (pe_tup (pa_cons pe_str (pa_cons (pv 4) pa_nil))) pa_nil)))) (pe_op op_sub (pv 3) pe_int) (fun _ _ => rfl)))) pss_nil)
    (pss_cons (ps_if (pt_cmpR op_eq (pv 3) pe_int (nomark _)) (pss_one (ps_ret (pe_tup (pa_cons pe_str (pa_cons (pe_slice sl_tupA (pe_tup (pa_cons (pv 4) (pa_cons (pv 5) pa_nil))) po_none (po_some (pe_op op_mod (pe_ix ix_list (pv 2) pe_int (fun _ _ => rfl)) pe_int))) (pa_cons (pe_cmpR op_eq (pe_op op_mod (pe_ix ix_list (pv 2) pe_int (fun _ _ => rfl)) pe_int) pe_int (nomark _)) pa_nil)))))) pss_nil)
    (pss_cons (ps_set (i := 6) scPlain.nd rfl (Or.inl rfl) (pe_tup (pa_cons (pe_tup (pa_cons (pe_ix ix_list (pv 1) (pe_op op_mod (pe_ix ix_list (pv 2) pe_int (fun _ _ => rfl)) pe_int) (fun _ _ => rfl)) (pa_cons (pv 4) (pa_cons (pe_cmpR op_gt (pe_op op_mod (pe_ix ix_list (pv 2) pe_int (fun _ _ => rfl)) pe_int) pe_int (nomark _)) pa_nil))))
      (pa_cons (pe_tup (pa_cons (pe_ix ix_list (pv 1) (pe_op op_mod (pe_op op_add (pe_ix ix_list (pv 2) pe_int (fun _ _ => rfl)) pe_int) pe_int) (fun _ _ => rfl)) (pa_cons (pv 5) (pa_cons (pe_cmpR op_gt (pe_op op_mod (pe_ix ix_list (pv 2) pe_int (fun _ _ => rfl)) pe_int) pe_int (nomark _)) pa_nil)))) pa_nil))))
    (pss_cons (ps_set (i := 7) scPlain.nd rfl (Or.inl rfl) (pe_tup (pa_cons pe_str (pa_cons (pe_slice sl_tupA (pv 6) po_none (po_some (pe_ix ix_list (pe_lst (pa_cons pe_int (pa_cons pe_int (pa_cons pe_int (pa_cons pe_int pa_nil))))) (pe_op op_mod (pe_ix ix_list (pv 2) pe_int (fun _ _ => rfl)) pe_int) (fun _ _ => rfl)))) (pa_cons (pe_cmpR op_gt (pe_op op_mod (pe_ix ix_list (pv 2) pe_int (fun _ _ => rfl)) pe_int) pe_int (nomark _)) pa_nil)))))
    (pss_cons (ps_if (pt_cmpR op_eq (pv 3) pe_int (nomark _)) (pss_one (ps_ret (pe_tup (pa_cons pe_str (pa_cons (pe_tup (pa_cons (pv 7) (pa_cons (pv 5) pa_nil))) pa_nil))))) pss_nil)
    (pss_cons (ps_if (pt_cmpR op_eq (pv 3) pe_int (nomark _)) (pss_one (ps_ret (pe_tup (pa_cons pe_str (pa_cons (pe_tup (pa_cons (pv 7) (pa_cons (pe_tup (pa_cons pe_str (pa_cons (pe_tup (pa_cons pe_str (pa_cons (pe_tup (pa_cons (pe_tup (pa_cons (pe_ix ix_list (pv 1) (pe_op op_mod (pe_ix ix_list (pv 2) pe_int (fun _ _ => rfl)) pe_int) (fun _ _ => rfl)) (pa_cons (pv 5) (pa_cons pe_bl pa_nil)))) pa_nil)) (pa_cons pe_bl pa_nil)))) pa_nil))) pa_nil))) pa_nil))))) pss_nil)
    (pss_one (ps_ret (pv 7))))))))))))), ?_⟩
  refine ⟨_, rfl, x, 8, rfl, by decide, fun H1 l ns g1 hl hlen hns => ?_⟩
  obtain ⟨n0, n1, n2, n3, n4, n5, n6, n7, rfl⟩ := len_8 hlen
  have L : ∀ {H2 : Hp}, Same H1 H2 → SqL K H2 l ([n0, n1, n2, n3, n4, n5, n6, n7].map V.int) := fun g => SqL.of (g _ _ hl)
  refine ⟨_, rfl, l, _, _, _, rfl, rfl, L sameR, atI_nat (j := 0) rfl, _, _, rfl, rfl, (by show (0 : Int) < 12; decide), ?_⟩
  have w0 := Int.emod_nonneg n0 (show (12 : Int) ≠ 0 by decide)
  have w1 := Int.emod_lt_of_pos n0 (show (0 : Int) < 12 by decide)
  refine ⟨_, rfl, l, _, _, _, rfl, rfl, L sameR, atI_nat (j := 1) rfl, n1, rfl, fun H2 v1 d1 g2 hv1 t1 z1 => ?_⟩
  refine ⟨_, rfl, l, _, _, _, rfl, rfl, L g2, atI_nat (j := 2) rfl, n2, rfl, fun H3 v2 d2 g3 hv2 t2 z2 => ?_⟩
  have g13 : Same H1 H3 := fun b o h => g3 _ _ (g2 _ _ h)
  have g03 : Same H H3 := fun b o h => g13 _ _ (g1 _ _ h)
  have hv1 := up g3 hv1
  clear g2 g3
  refine ⟨_, rfl, _, _, rfl, rfl, _, rfl, ite2 (fun _ => ?_) (fun c4 => ?_)⟩
  · exact ⟨_, rfl, q H3 v1 d1 g03 hv1 t1 (by omega)⟩
  have c4 : ¬ n0 % 12 < 4 := fun h => c4 (decide_eq_true h)
  refine ⟨_, rfl, _, _, rfl, rfl, _, rfl, ite2 (fun c7 => ?_) (fun c7 => ?_)⟩
  · have c7 : n0 % 12 < 7 := of_decide_eq_true c7
    refine ⟨_, rfl, _, rfl, len2, fun a1 ha1 => ⟨len2, fun a2 ha2 => ⟨_, rfl, _, rfl, len2, fun a3 ha3 => ⟨len2, fun a4 ha4 => ⟨_, rfl, len2, fun a5 ha5 => ⟨len3, fun a6 ha6 => ?_⟩⟩⟩⟩⟩⟩
    have k1 := same_new ha1 (.tup [v1, v2])
    have k2 := same_new ha2 (.tup [.str "or", .ref a1])
    have k3 := same_new ha3 (.tup [v1, v2])
    have k4 := same_new ha4 (.tup [.str "and", .ref a3])
    have k5 := same_new ha5 (.tup [.str "not", v1])
    have k6 := same_new ha6 (.lst [.ref a2, .ref a4, .ref a5])
    have K5 : Same H3 _ := fun b o h => k6 _ _ (k5 _ _ (k4 _ _ (k3 _ _ (k2 _ _ (k1 _ _ h)))))
    have e1 := k6 _ _ (k5 _ _ (k4 _ _ (k3 _ _ (k2 _ _ (upd_same (a := a1))))))
    have e2 := k6 _ _ (k5 _ _ (k4 _ _ (k3 _ _ (upd_same (a := a2)))))
    have e3 := k6 _ _ (k5 _ _ (k4 _ _ (upd_same (a := a3))))
    have e4 := k6 _ _ (k5 _ _ (upd_same (a := a4)))
    have e5 := k6 _ _ (upd_same (a := a5))
    have g := fun b o h => K5 b o (g03 b o h)
    have : n0 % 12 - 4 = 0 ∨ n0 % 12 - 4 = 1 ∨ n0 % 12 - 4 = 2 := by omega
    rcases this with e | e | e
    · refine ⟨_, rfl, _, _, rfl, rfl, a6, [.ref a2, .ref a4, .ref a5], n0 % 12 - 4, .ref a2, rfl, rfl, SqL.of upd_same, by rw [e]; exact atI_nat (j := 0) rfl, ?_⟩
      exact q _ _ (.tup [.str "or", .tup [d1, d2]]) g (dvn e2 (dac (das (by decide)) (dac (dvn e1 (dac (up K5 hv1) (dac (up K5 hv2) da0)) (by simp)) da0)) (by simp)) (tr_two (.inr rfl) t1 t2) (by simp only [nD, nL]; omega)
    · refine ⟨_, rfl, _, _, rfl, rfl, a6, [.ref a2, .ref a4, .ref a5], n0 % 12 - 4, .ref a4, rfl, rfl, SqL.of upd_same, by rw [e]; exact atI_nat (j := 1) rfl, ?_⟩
      exact q _ _ (.tup [.str "and", .tup [d1, d2]]) g (dvn e4 (dac (das (by decide)) (dac (dvn e3 (dac (up K5 hv1) (dac (up K5 hv2) da0)) (by simp)) da0)) (by simp)) (tr_two (.inl rfl) t1 t2) (by simp only [nD, nL]; omega)
    · refine ⟨_, rfl, _, _, rfl, rfl, a6, [.ref a2, .ref a4, .ref a5], n0 % 12 - 4, .ref a5, rfl, rfl, SqL.of upd_same, by rw [e]; exact atI_nat (j := 2) rfl, ?_⟩
      exact q _ _ (.tup [.str "not", d1]) g (dvn e5 (dac (das (by decide)) (dac (up K5 hv1) da0)) (by simp)) (tr_no (by decide +kernel)) (by simp only [nD, nL]; omega)
  refine ⟨_, rfl, rfl, _, rfl, ite2 (fun _ => ?_) (fun _ => ?_)⟩
  · obtain ⟨r, _, er⟩ := md (n := n3) (k := 3) (by decide)
    have er : n3 % 3 = (r : Int) := er
    refine ⟨_, rfl, _, rfl, len2, fun a1 ha1 => ?_⟩
    have k1 := same_new ha1 (.tup [v1, v2])
    refine ⟨_, rfl, l, _, _, _, rfl, rfl, L (fun b o h => k1 _ _ (g13 _ _ h)), atI_nat (j := 3) rfl, _, _, rfl, rfl, (by show (0 : Int) < 3; decide), _, rfl, a1, _, rfl, SqT.of upd_same, fun p H4 g4 hp => ?_⟩
    rw [er, cut_V] at hp
    have g14 : Same H1 H4 := fun b o h => g4 _ _ (k1 _ _ (g13 _ _ h))
    refine ⟨_, rfl, l, _, _, _, rfl, rfl, L g14, atI_nat (j := 4) rfl, _, _, rfl, rfl, (by show (0 : Int) < 2; decide), rfl, len3, fun a2 ha2 => ?_⟩
    have k2 := same_new ha2 (.tup [.str "list", .ref p, .bl (decide (V.int (n4 % 2) = V.int 0))])
    have K4 : Same H3 _ := fun b o h => k2 _ _ (g4 _ _ (k1 _ _ h))
    have hz := nL_take [d1, d2] r
    have hz2 : nL [d1, d2] = nD d1 + nD d2 := by simp only [nL]; omega
    exact q _ _ (.tup [.str "list", .tup ([d1, d2].take r), .bl (decide (V.int (n4 % 2) = V.int 0))]) (fun b o h => K4 _ _ (g03 _ _ h)) (dvn upd_same (dac (das (by decide)) (dac (dvq (k2.seqT hp) (DAll.take r (dac (up K4 hv1) (dac (up K4 hv2) da0))) (by simp; omega)) (dac dab da0))) (by simp)) (tr_no (by decide +kernel)) (by simp only [nD, nL]; omega)
  have nb := fun y => h40 _ (nm_at h3 y).2
  refine ⟨_, rfl, _, rfl, l, _, _, _, rfl, rfl, L g13, atI_nat (j := 3) rfl, _, _, rfl, rfl, (by show (0 : Int) < 3; decide), a, _, _, _, rfl, rfl, g03.seq hq, (nm_at h3 n3).1, _, rfl, _, rfl, l, _, _, _, rfl, rfl, L g13, atI_nat (j := 4) rfl, _, _, rfl, rfl, (by show (0 : Int) < 4; decide), _, _, rfl, rfl, len3, fun a1 ha1 => ?_⟩
  have k1 := same_new ha1 (.tup [.str (nmAt ts n3), v1, .bl (decide (n4 % 4 > 0))])
  have s1 : Same H3 _ := k1
  have g11 : Same H1 _ := fun b o h => k1 _ _ (g13 _ _ h)
  refine ⟨_, rfl, _, rfl, l, _, _, _, rfl, rfl, L g11, atI_nat (j := 3) rfl, _, _, rfl, rfl, _, _, rfl, rfl, (by show (0 : Int) < 3; decide), a, _, _, _, rfl, rfl, k1.seq (g03.seq hq), (nm_at h3 (n3 + 1)).1, _, rfl, _, rfl, l, _, _, _, rfl, rfl, L g11, atI_nat (j := 5) rfl, _, _, rfl, rfl, (by show (0 : Int) < 4; decide), _, _, rfl, rfl, len3, fun a2 ha2 => ⟨len2, fun a3 ha3 => ?_⟩⟩
  have k2 := same_new ha2 (.tup [.str (nmAt ts (n3 + 1)), v2, .bl (decide (n5 % 4 > 0))])
  have k3 := same_new ha3 (.tup [.ref a1, .ref a2])
  have e1 := k3 _ _ (k2 _ _ (upd_same (a := a1)))
  have e2 := k3 _ _ (upd_same (a := a2))
  have K3 : Same H3 _ := fun b o h => k3 _ _ (k2 _ _ (k1 _ _ h))
  have e3 := (fun {Hx : Hp} (_ : Same Hx (upd Hx a3 (.tup [.ref a1, .ref a2]))) => (upd_same : upd Hx a3 (.tup [.ref a1, .ref a2]) a3 = some (.tup [.ref a1, .ref a2]))) k3
  clear k1 k2 k3 g11 s1
  revert e1 e2 K3 e3
  generalize upd (upd (upd H3 a1 _) a2 _) a3 _ = H4
  intro e1 e2 K3 e3
  obtain ⟨r, hr2, er⟩ : ∃ r : Nat, r ≤ 2 ∧ atI ([.int 1, .int 2, .int 2, .int 0] : List V) (n6 % 4) = some (.int (r : Int)) := by
    have := Int.emod_nonneg n6 (show (4 : Int) ≠ 0 by decide)
    have := Int.emod_lt_of_pos n6 (show (0 : Int) < 4 by decide)
    have : n6 % 4 = 0 ∨ n6 % 4 = 1 ∨ n6 % 4 = 2 ∨ n6 % 4 = 3 := by omega
    rcases this with e | e | e | e <;> rw [e]
    · exact ⟨1, by decide, rfl⟩
    · exact ⟨2, by decide, rfl⟩
    · exact ⟨2, by decide, rfl⟩
    · exact ⟨0, by decide, rfl⟩
  refine ⟨_, rfl, len4, fun l4 hl4 => ?_⟩
  have k4 := same_new hl4 (.lst [.int 1, .int 2, .int 2, .int 0])
  refine ⟨_, rfl, l, _, _, _, rfl, rfl, L (fun b o h => k4 _ _ (K3 _ _ (g13 _ _ h))), atI_nat (j := 6) rfl, _, _, rfl, rfl, (by show (0 : Int) < 4; decide), l4, _, _, _, rfl, rfl, SqL.of upd_same, er, _, rfl, a3, _, rfl, SqT.of (k4 _ _ e3), fun p H5 g5 hp => ?_⟩
  rw [cut_V] at hp
  have g45 : Same H4 H5 := fun b o h => g5 _ _ (k4 _ _ h)
  have g35 : Same H3 H5 := fun b o h => g45 _ _ (K3 _ _ h)
  refine ⟨_, rfl, l, _, _, _, rfl, rfl, L (fun b o h => g35 _ _ (g13 _ _ h)), atI_nat (j := 7) rfl, _, _, rfl, rfl, (by show (0 : Int) < 3; decide), _, _, rfl, rfl, len3, fun a4 ha4 => ?_⟩
  have k6 := same_new ha4 (.tup [.str "record", .ref p, .bl (decide (n7 % 3 > 0))])
  have g36 : Same H3 _ := fun b o h => k6 _ _ (g35 _ _ h)
  have fld : ∀ y, (nmAt ts y).length ≤ 1000 := fun y => by have := nb y; omega
  have hrec := (dvn (K := K) (upd_same (H := H5) (a := a4) (o := .tup [.str "record", .ref p, .bl (decide (n7 % 3 > 0))])) (dac (das (by decide)) (dac (dvq (k6.seqT hp) (DAll.take r (dac (dvn (k6 _ _ (g45 _ _ e1)) (dac (das (fld n3)) (dac (up g36 hv1) (dac dab da0))) (by simp)) (dac (dvn (k6 _ _ (g45 _ _ e2)) (dac (das (fld (n3 + 1))) (dac (up g36 hv2) (dac dab da0))) (by simp)) da0))) (by simp; omega)) (dac dab da0))) (by simp))
  have hz := nL_take [D.tup [.str (nmAt ts n3), d1, .bl (decide (n4 % 4 > 0))], D.tup [.str (nmAt ts (n3 + 1)), d2, .bl (decide (n5 % 4 > 0))]] r
  have hz2 : nL [D.tup [.str (nmAt ts n3), d1, .bl (decide (n4 % 4 > 0))], D.tup [.str (nmAt ts (n3 + 1)), d2, .bl (decide (n5 % 4 > 0))]] ≤ 16 := by simp only [nL, nD]; omega
  revert hrec g36
  generalize upd H5 a4 _ = H6
  intro g36 hrec
  generalize hdr : D.tup [D.str "record", .tup ([D.tup [.str (nmAt ts n3), d1, .bl (decide (n4 % 4 > 0))], D.tup [.str (nmAt ts (n3 + 1)), d2, .bl (decide (n5 % 4 > 0))]].take r), .bl (decide (n7 % 3 > 0))] = dr at hrec
  have tr : Tr dr [] := by rw [← hdr]; exact tr_no (by decide +kernel)
  have zr : nD dr ≤ 20 := by rw [← hdr]; simp only [nD, nL] at hz hz2 ⊢; omega
  have g06 : Same H H6 := fun b o h => g36 _ _ (g03 _ _ h)
  have hv2' := up g36 hv2
  refine ⟨_, rfl, rfl, _, rfl, ite2 (fun _ => ?_) (fun _ => ?_)⟩
  · refine ⟨_, rfl, _, rfl, len2, fun b1 hb1 => ⟨len2, fun b2 hb2 => ?_⟩⟩
    have m1 := same_new hb1 (.tup [.ref a4, v2])
    have m2 := same_new hb2 (.tup [.str "or", .ref b1])
    have mm : Same H6 _ := fun b o h => m2 _ _ (m1 _ _ h)
    exact q _ _ (.tup [.str "or", .tup [dr, d2]]) (fun b o h => mm _ _ (g06 _ _ h)) (dvn upd_same (dac (das (by decide)) (dac (dvn (m2 _ _ upd_same) (dac (up mm hrec) (dac (up mm hv2') da0)) (by simp)) da0)) (by simp)) (tr_two (.inr rfl) tr t2) (by simp only [nD, nL]; omega)
  refine ⟨_, rfl, rfl, _, rfl, ite2 (fun _ => ?_) (fun _ => ?_)⟩
  · refine ⟨_, rfl, _, rfl, _, rfl, l, _, _, _, rfl, rfl, L (fun b o h => g36 _ _ (g13 _ _ h)), atI_nat (j := 3) rfl, _, _, rfl, rfl, (by show (0 : Int) < 3; decide), a, _, _, _, rfl, rfl, g06.seq hq, (nm_at h3 n3).1, _, rfl, len3, fun b1 hb1 => ⟨len1, fun b2 hb2 => ⟨len3, fun b3 hb3 => ⟨len2, fun b4 hb4 => ⟨len2, fun b5 hb5 => ⟨len2, fun b6 hb6 => ?_⟩⟩⟩⟩⟩⟩
    have m1 := same_new hb1 (.tup [.str (nmAt ts n3), v2, .bl true])
    have m2 := same_new hb2 (.tup [.ref b1])
    have m3 := same_new hb3 (.tup [.str "record", .ref b2, .bl true])
    have m4 := same_new hb4 (.tup [.str "not", .ref b3])
    have m5 := same_new hb5 (.tup [.ref a4, .ref b4])
    have m6 := same_new hb6 (.tup [.str "and", .ref b5])
    have mm : Same H6 _ := fun b o h => m6 _ _ (m5 _ _ (m4 _ _ (m3 _ _ (m2 _ _ (m1 _ _ h)))))
    exact q _ _ (.tup [.str "and", .tup [dr, .tup [.str "not", .tup [.str "record", .tup [.tup [.str (nmAt ts n3), d2, .bl true]], .bl true]]]]) (fun b o h => mm _ _ (g06 _ _ h))
      (dvn upd_same (dac (das (by decide)) (dac (dvn (m6 _ _ upd_same) (dac (up mm hrec) (dac (dvn (m6 _ _ (m5 _ _ upd_same)) (dac (das (by decide)) (dac (dvn (m6 _ _ (m5 _ _ (m4 _ _ upd_same))) (dac (das (by decide)) (dac (dvn (m6 _ _ (m5 _ _ (m4 _ _ (m3 _ _ upd_same)))) (dac (dvn (m6 _ _ (m5 _ _ (m4 _ _ (m3 _ _ (m2 _ _ upd_same))))) (dac (das (fld n3)) (dac (up mm hv2') (dac dab da0))) (by simp)) da0) (by simp)) (dac dab da0))) (by simp)) da0)) (by simp)) da0)) (by simp)) da0)) (by simp))
      (tr_two (.inl rfl) tr (tr_no (by decide +kernel))) (by simp only [nD, nL]; omega)
  · exact ⟨_, rfl, q H6 _ dr g06 hrec tr (by omega)⟩
end
end Law

set_option Elab.async false
set_option linter.all false
set_option maxRecDepth 100000
set_option maxHeartbeats 4000000
namespace Law
open PySem L2 L2.Sp
section
variable {P : Program} {w : World} {K : PySem.W.Frag} {mg : Str → Option Value} {base : Heap} {f : Addr} {fd : FuncData}
abbrev sSpoken : Stmt := top 15
theorem scSpoken : FnScope ["_law_xs", "_law_names_here"] ["_law_xs", "_law_names_here"] (defScope sSpoken) := ⟨rfl, rfl, rfl, by decide +kernel, rfl, by decide +kernel, by decide +kernel⟩
theorem len_3 {α : Type} {l : List α} (h : l.length = 3) : ∃ a b c, l = [a, b, c] := by
  match l, h with
  | [a, b, c], _ => exact ⟨a, b, c, rfl⟩
theorem nd_xn : (["_law_x", "_law_names_here"] : List Str).Nodup := by decide +kernel
/-- a list of paths -/
def PsV (K : PySem.W.Frag) (H : Hp) (l : Addr) (qs : List (List Str)) : Prop := ∃ us, H l = some (.lst us) ∧ DAll K H (qs.map pD) us ∧ ∀ q ∈ qs, q.length ≤ 5
def spSpoken (K : PySem.W.Frag) : Sp := fun args H Q _ => ∃ (lx a : Addr) (ns : List Int) (ts : List Str), args = [.ref lx, .ref a] ∧ SqL K H lx (ns.map V.int) ∧ ns.length = 3 ∧ NmV K H a ts ∧ ∀ (H' : Hp) (l : Addr) (qs : List (List Str)), Same H H' → H l = none → PsV K H' l qs → qs.length ≤ 3 → (∀ q ∈ qs, q.length ≤ 4) → Q (.ref l) H'
theorem ok_spoken (F : Fun K "_law_spoken" "_law_spoken" sSpoken f fd) (C : Cal P w K mg base 2 "_law_path" ["_law_x", "_law_names_here"] (spPath K)) : FnOk P w K mg base CX0 3 f fd ["_law_xs", "_law_names_here"] (spSpoken K) := by
  refine F.ok scSpoken (fun vs H Q E h => ?_) (fun cdv A outer s H vs Q E hr h => ?_)
  · obtain ⟨lx, a, ns, ts, rfl, _⟩ := h
    rfl
  obtain ⟨lx, a, ns, ts, rfl, hx, hlen, ⟨hq, h3, h40⟩, q⟩ := h
  refine ⟨_, pss_one (ps_ret (pe_comp (N' := ["_law_x", "_law_names_here"]) (fr := [none, some 1]) (own := [0]) ⟨rfl, rfl, rfl, rfl, rfl, rfl, rfl⟩ rfl
      (pi_list (pe_slice sl_list (pv 0) (po_some pe_int) (po_some (pe_op op_add pe_int (pe_ix ix_list (pe_lst (pa_cons pe_int (pa_cons pe_int (pa_cons pe_int (pa_cons pe_int (pa_cons pe_int pa_nil)))))) (pe_op op_mod (pe_ix ix_list (pv 0) pe_int (fun _ _ => rfl)) pe_int) (fun _ _ => rfl))))))
      (fun _ _ _ _ => pg_name (i := 0) nd_xn rfl (Or.inl rfl)) (own_name 0) (fun _ _ _ _ => pts_nil) (fun _ _ _ _ => pe_cal C hr rfl (pa_cons (pv 0) (pa_cons (pv 1) pa_nil))))), ?_⟩
  obtain ⟨n0, n1, n2, rfl⟩ := len_3 hlen
  refine ⟨_, rfl, _, rfl, by show 5 ≤ sizeLine; decide, fun l4 hl4 => ?_⟩
  have g2 := same_new hl4 (.lst [.int 0, .int 1, .int 1, .int 2, .int 3])
  obtain ⟨r, hr1, er⟩ : ∃ r : Nat, r ≤ 3 ∧ atI ([.int 0, .int 1, .int 1, .int 2, .int 3] : List V) (n0 % 5) = some (.int (r : Int)) := by
    have := Int.emod_nonneg n0 (show (5 : Int) ≠ 0 by decide)
    have := Int.emod_lt_of_pos n0 (show (0 : Int) < 5 by decide)
    have : n0 % 5 = 0 ∨ n0 % 5 = 1 ∨ n0 % 5 = 2 ∨ n0 % 5 = 3 ∨ n0 % 5 = 4 := by omega
    rcases this with e | e | e | e | e <;> rw [e]
    · exact ⟨0, by decide, rfl⟩
    · exact ⟨1, by decide, rfl⟩
    · exact ⟨1, by decide, rfl⟩
    · exact ⟨2, by decide, rfl⟩
    · exact ⟨3, by decide, rfl⟩
  refine ⟨_, rfl, lx, _, _, _, rfl, rfl, g2.seq hx, atI_nat (j := 0) rfl, _, _, rfl, rfl, (by show (0 : Int) < 5; decide), l4, _, _, _, rfl, rfl, SqL.of upd_same, er, _, _, rfl, rfl, _, rfl, lx, _, rfl, g2.seq hx, fun l5 hl5 => ?_⟩
  have ec : cutV ([n0, n1, n2].map V.int) (some 1) (some (1 + (r : Int))) = (([n0, n1, n2].drop 1).take (1 + r - 1)).map V.int := by
    have h := cut_between V.int [n0, n1, n2] 1 (1 + r)
    have e : ((1 + r : Nat) : Int) = 1 + (r : Int) := by omega
    rw [e] at h
    exact h
  rw [ec]
  generalize hys : ([n0, n1, n2].drop 1).take (1 + r - 1) = ys
  have yl : ys.length ≤ 3 := by rw [← hys, List.length_take]; simp; omega
  have g3 := same_new hl5 (.lst (ys.map V.int))
  generalize hH3 : upd (upd H l4 _) l5 _ = H3
  have g03 : Same H H3 := by rw [← hH3]; exact fun b o h => g3 _ _ (g2 _ _ h)
  have hl5' : H3 l5 = some (.lst (ys.map V.int)) := by rw [← hH3]; exact upd_same
  refine ⟨l5, rfl, ⟨_, SqL.of hl5'⟩, fun l6 hl6 => ?_⟩
  have hl6H : H l6 = none := by
    cases e : H l6 with
    | none => rfl
    | some o => rw [g03 _ _ e] at hl6; cases hl6
  refine comp_list (xs := ys.map V.int) (fun i zs H' => ∃ qs : List (List Str), Same H3 H' ∧ H' l6 = some (.lst zs) ∧ DAll K H' (qs.map pD) zs ∧ qs.length = i ∧ ∀ q ∈ qs, q.length ≤ 4)
    ⟨[], same_new hl6 _, upd_same, by simp only [List.map_nil, DAll], rfl, fun q hq => by cases hq⟩ (fun i zs H' _ ⟨_, g, _⟩ => SqL.of (g _ _ hl5')) (fun i x zs H' hx hinv => ?_) (fun zs H' hinv => ?_)
  · obtain ⟨qs, g, hl, hall, hlen, hq4⟩ := hinv
    obtain ⟨n, rfl⟩ := item_int hx
    have hi := (List.getElem?_eq_some_iff.mp hx).1
    rw [List.length_map] at hi
    have hzl := hall.length
    rw [List.length_map] at hzl
    dsimp only [CTurn, gName]
    refine yesT ⟨_, rfl, _, rfl, n, a, ts, rfl, ⟨g.seq (g03.seq hq), h3, h40⟩, fun H5 v ws g5 hv hw4 => ?_⟩
    have hl' := g5 _ _ hl
    have kp : DKeep K H5 (upd H5 l6 (.lst (zs ++ [v]))) := DKeep.put hl'
    refine ⟨hl', sz_of (by omega), qs ++ [ws], fun b o h => by rw [upd_ne (ne_of_none h hl6)]; exact g5 _ _ (g _ _ h), upd_same, ?_, by rw [List.length_append, hlen]; rfl, fun q hq => ?_⟩
    · rw [List.map_append]
      exact DAll.snoc (DAll.mono ((DKeep.same g5).trans kp) _ _ hall) (DV.mono kp _ _ hv)
    · rcases List.mem_append.mp hq with z | z
      · exact hq4 q z
      · rw [List.mem_singleton.mp z]; exact hw4
  · obtain ⟨qs, g, hl, hall, hlen, hq4⟩ := hinv
    rw [List.length_map] at hlen
    exact q H' l6 qs (fun b o h => g _ _ (g03 _ _ h)) hl6H ⟨zs, hl, hall, fun q hq => by have := hq4 q hq; omega⟩ (by omega) hq4
end
end Law

set_option Elab.async false
set_option linter.all false
set_option maxRecDepth 100000
set_option maxHeartbeats 4000000
namespace Law
open PySem L2 L2.Sp
section
variable {P : Program} {w : World} {K : PySem.W.Frag} {mg : Str → Option Value} {base : Heap} {f : Addr} {fd : FuncData}
abbrev sWith : Stmt := top 16
theorem scWith : FnScope ["_law_x", "_law_spoken_here", "_law_names_here", "_law_tree", "_law_k", "_law_place", "_law_pair"] ["_law_x", "_law_spoken_here", "_law_names_here"] (defScope sWith) := ⟨rfl, rfl, rfl, by decide +kernel, rfl, by decide +kernel, by decide +kernel⟩
def spWith (K : PySem.W.Frag) : Sp := fun args H Q _ => ∃ (x : Int) (ls a : Addr) (qs : List (List Str)) (ts : List Str), args = [.int x, .ref ls, .ref a] ∧ PsV K H ls qs ∧ qs.length ≤ 3 ∧ NmV K H a ts ∧
  ∀ (H' : Hp) (v : V) (d : D) (ps : List (List Str)), Same H H' → DV K H' d v → Tr d ps → (∀ p, p ∈ ps ↔ p ∈ qs) → nD d ≤ 150 → Q v H'
def PairInv (K : PySem.W.Frag) (Hs : Hp) (pre : List (Option V)) (ps : List (List Str)) (ws : List Str) (N c : Nat) (σ : St) (H' : Hp) : Prop :=
  ∃ (t : Addr) (vs : List V) (ds : List D) (px : List (List Str)), σ = pre ++ [some (.ref t)] ∧ Same Hs H' ∧ SqT K H' t vs ∧ DAll K H' ds vs ∧ Trs ds px ∧ (∀ p, p ∈ px ↔ p ∈ ps ∨ p = ws) ∧ nL ds ≤ N ∧ ds.length ≤ c ∧ 2 ≤ ds.length
theorem nD_pD {ws : List Str} : nD (pD ws) = 1 + ws.length := by
  unfold pD
  simp only [nD]
  congr 1
  induction ws with
  | nil => rfl
  | cons x ws ih => simp only [List.map_cons, nL, nD, List.length_cons, ih]; omega
theorem dap {H : Hp} {a : Addr} {ws : List Str} {y : V} (h : H a = some (.tup [.str "place", y])) (hy : DV K H (pD ws) y) : DV K H (.tup [.str "place", pD ws]) (.ref a) := dvn h (dac (das (by decide)) (dac hy da0)) (by simp)
theorem bt_enum : bootBuiltins "enumerate" = some (.type "enumerate") := by decide +kernel
theorem ok_with (F : Fun K "_law_tree_with" "_law_tree_with" sWith f fd) (Pl : Cal P w K mg base 3 "_law_plain" ["_law_x", "_law_names_here"] (spPlain K)) (Lf : Cal P w K mg base 2 "_law_leaf" ["_law_x"] (spLeaf K)) (m1 : mg "enumerate" = none) : FnOk P w K mg base CX0 4 f fd ["_law_x", "_law_spoken_here", "_law_names_here"] (spWith K) := by
  refine F.ok scWith (fun vs H Q E h => ?_) (fun cdv A outer s H vs Q E hr h => ?_)
  · obtain ⟨x, ls, a, qs, ts, rfl, _⟩ := h
    rfl
  obtain ⟨x, ls, a, qs, ts, rfl, ⟨us, hls, hus, hq4⟩, hq3, hnm, q⟩ := h
  have hr2 := hr.mono (show 2 ≤ 3 by decide)
  have hul := hus.length
  rw [List.length_map] at hul
  refine ⟨_, pss_cons (ps_set (i := 3) scWith.nd rfl (Or.inl rfl) (pe_cal Pl hr rfl (pa_cons (pv 0) (pa_cons (pv 2) pa_nil))))
    (pss_cut (ps_if (PW.pt (pw_and (pt_cmpR (op_neE hr.units) (pv 1) (pe_lst pa_nil) (nomark _)) (pw_and1 (pt_cmpR op_eq (pe_op op_mod (pv 0) pe_int) pe_int (nomark _)))))
      (pss_one (ps_set (i := 3) scWith.nd rfl (Or.inl rfl) (pe_tup (pa_cons pe_str (pa_cons (pe_ix ix_list (pv 1) pe_int (fun _ _ => rfl)) pa_nil))))) pss_nil)
    (pss_cons (ps_for PassesOwn.never rfl (pi_enum rfl m1 (pa_cons (pv 1) pa_nil)) (pg_tup (n := 2) rfl (pgs_cons (pg_name (i := 4) scWith.nd rfl (Or.inl rfl)) (pgs_cons (pg_name (i := 5) scWith.nd rfl (Or.inl rfl)) pgs_nil)))
      (pss_cons (ps_set (i := 6) scWith.nd rfl (Or.inl rfl) (pe_tup (pa_cons (pv 3) (pa_cons (pe_tup (pa_cons pe_str (pa_cons (pv 5) pa_nil))) pa_nil))))
      (pss_cut (ps_if (pt_cmpR op_eq (pe_op op_mod (pe_op op_fdiv (pv 0) (pe_op op_add (pv 4) pe_int)) pe_int) pe_int (nomark _)) (pss_one (ps_set (i := 6) scWith.nd rfl (Or.inl rfl) (pe_tup (pa_cons (pe_ix ix_tup (pv 6) pe_int (fun _ _ => rfl)) (pa_cons (pv 3) pa_nil))))) pss_nil)
      (pss_cut (ps_if (pt_cmpR op_eq (pe_op op_mod (pe_op op_fdiv (pv 0) (pe_op op_add (pv 4) pe_int)) pe_int) pe_int (nomark _)) (pss_one (ps_set (i := 6) scWith.nd rfl (Or.inl rfl) (pe_op op_catTA (pv 6) (pe_tup (pa_cons (pe_cal Lf hr2 rfl (pa_cons (pe_op op_fdiv (pv 0) pe_int) pa_nil)) pa_nil))))) pss_nil)
      (pss_cut (ps_if (pt_cmpR op_eq (pe_op op_mod (pe_op op_fdiv (pv 0) (pe_op op_add (pv 4) pe_int)) pe_int) pe_int (nomark _)) (pss_one (ps_set (i := 6) scWith.nd rfl (Or.inl rfl) (pe_op op_catTA (pe_tup (pa_cons (pe_cal Lf hr2 rfl (pa_cons (pe_op op_fdiv (pv 0) pe_int) pa_nil)) pa_nil)) (pv 6)))) pss_nil)
      (pss_one (ps_set (i := 3) scWith.nd rfl (Or.inl rfl) (pe_tup (pa_cons (pe_ix ix_list (pe_lst (pa_cons pe_str (pa_cons pe_str pa_nil))) (pe_op op_mod (pe_op op_fdiv (pv 0) (pe_op op_add (pv 4) pe_int)) pe_int) (fun _ _ => rfl)) (pa_cons (pv 6) pa_nil))))))))))
    (pss_one (ps_ret (pv 3))))), ?_⟩
  refine ⟨_, rfl, _, rfl, x, a, ts, rfl, hnm, fun H1 v0 d0 g1 hv0 t0 z0 => ?_⟩
  have hls1 := g1 _ _ hls
  have hus1 := DAll.mono (DKeep.same (K := K) g1) _ _ hus
  refine ⟨fun σ' H' => ∃ (v : V) (d : D) (ps : List (List Str)), σ' = [some (.int x), some (.ref ls), some (.ref a), some v, none, none, none] ∧ Same H1 H' ∧ DV K H' d v ∧ Tr d ps ∧ (∀ p ∈ ps, p ∈ qs) ∧ nD d ≤ 40, ?_, ?_⟩
  · refine ⟨_, rfl, len0, fun l0 hl0 => ?_⟩
    have k0 := same_new hl0 (.lst [])
    refine ⟨ls, l0, us, rfl, rfl, k0 _ _ hls1, upd_same, _, rfl, ?_⟩
    cases us with
    | nil => exact iteF (iteF ⟨v0, d0, [], rfl, k0, up k0 hv0, t0, (fun p hp => by cases hp), z0⟩)
    | cons u us =>
      cases qs with
      | nil => simp at hul
      | cons q0 qs =>
        refine iteT ⟨_, rfl, _, _, rfl, rfl, (by show (0 : Int) < 3; decide), rfl, _, rfl, ite2 (fun _ => ?_) (fun _ => ⟨v0, d0, [], rfl, k0, up k0 hv0, t0, (fun p hp => by cases hp), z0⟩)⟩
        refine ⟨_, rfl, ls, _, _, _, rfl, rfl, SqL.of (k0 _ _ hls1), atI_nat (j := 0) rfl, len2, fun p hp => ?_⟩
        have k1 := same_new hp (.tup [.str "place", u])
        simp only [List.map_cons, DAll] at hus1
        obtain ⟨_, _, e, hu, _⟩ := hus1
        cases e
        have hq0 := hq4 q0 List.mem_cons_self
        exact ⟨_, _, [q0], rfl, fun b o h => k1 _ _ (k0 _ _ h), dap upd_same (up k1 (up k0 hu)), .place, fun p hp => by rw [List.mem_singleton.mp hp]; exact List.mem_cons_self, by simp only [nD, nL]; rw [nD_pD]; omega⟩
  · rintro σ1 H2 ⟨v1, d1, ps1, rfl, g2, hv1, t1, hp1, z1⟩
    have hls2 := g2 _ _ hls1
    have hus2 := DAll.mono (DKeep.same (K := K) g2) _ _ hus1
    refine ⟨_, rfl, ls, rfl, ⟨_, SqL.of hls2⟩, ?_⟩
    refine for_enum (xs := us) (fun i σ H' => ∃ (v : V) (d : D) (ps : List (List Str)) (b1 b2 b3 : Option V), σ = [some (.int x), some (.ref ls), some (.ref a), some v, b1, b2, b3] ∧ Same H2 H' ∧ DV K H' d v ∧ Tr d ps ∧ (∀ p ∈ ps, p ∈ qs) ∧ (∀ p ∈ qs.take i, p ∈ ps) ∧ nD d ≤ 40 + 30 * i)
      ⟨v1, d1, ps1, none, none, none, rfl, sameR, hv1, t1, hp1, fun p hp => by simp at hp, by omega⟩ (fun i σ H' ⟨_, _, _, _, _, _, _, g, _⟩ => SqL.of (g _ _ hls2)) (fun i y σ H' T hy hinv hT => ?_) (fun σ H' hinv => ?_)
    · obtain ⟨v, d, ps, b1, b2, b3, rfl, g, hv, tr, hsub, hsup, hz⟩ := hinv
      have hi := (List.getElem?_eq_some_iff.mp hy).1
      obtain ⟨dq, hd1, hd2⟩ := hus2.get hy
      rw [List.getElem?_map] at hd1
      cases eq : qs[i]? with
      | none => rw [eq] at hd1; cases hd1
      | some ws =>
        rw [eq] at hd1
        cases hd1
        have hmem := List.mem_of_getElem? eq
        have hw4 := hq4 ws hmem
        have kT := same_new hT (.tup [.int (i : Int), y])
        have hy2 : DV K H' (pD ws) y := up g hd2
        refine ⟨T, _, rfl, SqT.of upd_same, rfl, _, _, rfl, _, _, rfl, rfl, ?_⟩
        refine ⟨_, rfl, _, rfl, len2, fun c1 hc1 => ⟨len2, fun c2 hc2 => ?_⟩⟩
        have k1 := same_new hc1 (.tup [.str "place", y])
        have k2 := same_new hc2 (.tup [v, .ref c1])
        have kk : Same H' _ := fun b o h => k2 _ _ (k1 _ _ (kT _ _ h))
        have ec1 := k2 _ _ (upd_same (a := c1))
        have ec2 := (fun {Hx : Hp} (_ : Same Hx (upd Hx c2 (.tup [v, .ref c1]))) => (upd_same : upd Hx c2 (.tup [v, .ref c1]) c2 = some (.tup [v, .ref c1]))) k2
        clear k1 k2 kT
        revert kk ec1 ec2
        generalize upd (upd (upd H' T _) c1 _) c2 _ = H3
        intro kk ec1 ec2
        have hv3 := up kk hv
        have hp3 : DV K H3 (.tup [.str "place", pD ws]) (.ref c1) := dap ec1 (up kk hy2)
        have zp : nD (.tup [.str "place", pD ws]) ≤ 8 := by simp only [nD, nL]; rw [nD_pD]; omega
        have dv : ∀ k : Nat, k ≤ 20 → CDiv x ((i : Int) + (k : Int)) ∨ k = 0 := fun k hk => by
          cases k with
          | zero => exact .inr rfl
          | succ k => exact .inl ⟨by omega, by omega⟩
        refine ⟨PairInv K H3 [some (.int x), some (.ref ls), some (.ref a), some v, some (.int (i : Int)), some y] ps ws (nD d + 8) 2, ?_, ?_⟩
        · refine ⟨_, rfl, _, rfl, _, _, rfl, rfl, _, _, rfl, rfl, ⟨by omega, by omega⟩, _, _, rfl, rfl, (by show (0 : Int) < 2; decide), rfl, _, rfl, ite2 (fun _ => ?_) (fun _ => ?_)⟩
          · refine ⟨_, rfl, c2, _, _, _, rfl, rfl, SqT.of ec2, atI_nat (j := 1) rfl, _, rfl, len2, fun c3 hc3 => ?_⟩
            have k3 := same_new hc3 (.tup [.ref c1, v])
            refine ⟨c3, _, [.tup [.str "place", pD ws], d], [ws] ++ (ps ++ []), rfl, k3, SqT.of upd_same, dac (up k3 hp3) (dac (up k3 hv3) da0), .cons .place (.cons tr .nil), fun p => by simp [or_comm], by simp only [nL]; omega, by simp, by simp⟩
          · refine ⟨c2, _, [d, .tup [.str "place", pD ws]], ps ++ ([ws] ++ []), rfl, sameR, SqT.of ec2, dac hv3 (dac hp3 da0), .cons tr (.cons .place .nil), fun p => by simp, by simp only [nL]; omega, by simp, by simp⟩
        rintro σ4 H4 ⟨t4, vs4, ds4, px4, rfl, g4, hq4', ha4, htr4, hm4, hn4, hc4, hc4'⟩
        have hl4 := ha4.length
        refine ⟨PairInv K H3 [some (.int x), some (.ref ls), some (.ref a), some v, some (.int (i : Int)), some y] ps ws (nD d + 13) 3, ?_, ?_⟩
        · refine ⟨_, rfl, _, rfl, _, _, rfl, rfl, _, _, rfl, rfl, ⟨by omega, by omega⟩, _, _, rfl, rfl, (by show (0 : Int) < 3; decide), rfl, _, rfl, ite2 (fun _ => ?_) (fun _ => ?_)⟩
          · refine ⟨_, rfl, _, rfl, _, _, rfl, rfl, ⟨by decide, by decide⟩, x / 5, rfl, fun H5 lv ld g5 hlv htl zl => ⟨len1, fun c5 hc5 => ?_⟩⟩
            have k5 := same_new hc5 (.tup [lv])
            refine ⟨t4, c5, vs4, [lv], rfl, rfl, k5.seqT (g5.seqT hq4'), SqT.of upd_same, small_le (by simp; omega), (fun e => by subst e; simp at hl4; omega), (fun _ e => by cases e), fun _ _ c6 hc6 => ?_⟩
            have k6 := same_new hc6 (.tup (vs4 ++ [lv]))
            have g46 : Same H4 _ := fun b o h => k6 _ _ (k5 _ _ (g5 _ _ h))
            refine ⟨c6, _, ds4 ++ [ld], px4 ++ [], rfl, fun b o h => g46 _ _ (g4 _ _ h), SqT.of upd_same, DAll.snoc (DAll.mono (DKeep.same g46) _ _ ha4) (up k6 (up k5 hlv)), htr4.append (Trs.one htl), fun p => by rw [List.append_nil]; exact hm4 p, by rw [nL_append]; simp only [nL]; omega, by rw [List.length_append]; simp; omega, by rw [List.length_append]; simp; omega⟩
          · exact ⟨t4, vs4, ds4, px4, rfl, g4, hq4', ha4, htr4, hm4, by omega, by omega, hc4'⟩
        rintro σ5 H5 ⟨t5, vs5, ds5, px5, rfl, g5, hq5, ha5, htr5, hm5, hn5, hc5, hc5'⟩
        have hl5 := ha5.length
        refine ⟨PairInv K H3 [some (.int x), some (.ref ls), some (.ref a), some v, some (.int (i : Int)), some y] ps ws (nD d + 18) 4, ?_, ?_⟩
        · refine ⟨_, rfl, _, rfl, _, _, rfl, rfl, _, _, rfl, rfl, ⟨by omega, by omega⟩, _, _, rfl, rfl, (by show (0 : Int) < 3; decide), rfl, _, rfl, ite2 (fun _ => ?_) (fun _ => ?_)⟩
          · refine ⟨_, rfl, _, _, rfl, rfl, ⟨by decide, by decide⟩, x / 5, rfl, fun H6 lv ld g6 hlv htl zl => ⟨len1, fun c5 hc5 => ?_⟩⟩
            have k5 := same_new hc5 (.tup [lv])
            refine ⟨_, rfl, c5, t5, [lv], vs5, rfl, rfl, SqT.of upd_same, k5.seqT (g6.seqT hq5), small_le (by simp; omega), (fun e => by cases e), (fun _ e => by subst e; simp at hl5; omega), fun _ _ c6 hc6 => ?_⟩
            have k6 := same_new hc6 (.tup ([lv] ++ vs5))
            have g56 : Same H5 _ := fun b o h => k6 _ _ (k5 _ _ (g6 _ _ h))
            refine ⟨c6, _, ld :: ds5, [] ++ px5, rfl, fun b o h => g56 _ _ (g5 _ _ h), SqT.of upd_same, dac (up k6 (up k5 hlv)) (DAll.mono (DKeep.same g56) _ _ ha5), .cons htl htr5, hm5, by simp only [nL]; omega, by simp; omega, by simp; omega⟩
          · exact ⟨t5, vs5, ds5, px5, rfl, g5, hq5, ha5, htr5, hm5, by omega, by omega, hc5'⟩
        rintro σ6 H6 ⟨t6, vs6, ds6, px6, rfl, g6, hq6, ha6, htr6, hm6, hn6, hc6, hc6'⟩
        obtain ⟨r, hr2', er⟩ := md (n := x / ((i : Int) + 11)) (k := 2) (by decide)
        have er : x / ((i : Int) + 11) % 2 = (r : Int) := er
        obtain ⟨wd, ew, hwd⟩ : ∃ wd : Str, atI ([.str "and", .str "or"] : List V) (x / ((i : Int) + 11) % 2) = some (.str wd) ∧ (wd = "and" ∨ wd = "or") := by
          rw [er]
          have : r = 0 ∨ r = 1 := by omega
          rcases this with rfl | rfl
          · exact ⟨_, atI_nat (j := 0) rfl, .inl rfl⟩
          · exact ⟨_, atI_nat (j := 1) rfl, .inr rfl⟩
        refine ⟨len2, fun c7 hc7 => ?_⟩
        have k7 := same_new hc7 (.lst [.str "and", .str "or"])
        refine ⟨_, rfl, _, rfl, _, _, rfl, rfl, _, _, rfl, rfl, ⟨by omega, by omega⟩, _, _, rfl, rfl, (by show (0 : Int) < 2; decide), c7, _, _, _, rfl, rfl, SqL.of upd_same, ew, _, rfl, len2, fun c8 hc8 => ?_⟩
        have k8 := same_new hc8 (.tup [.str wd, .ref t6])
        have g68 : Same H6 _ := fun b o h => k8 _ _ (k7 _ _ h)
        refine ⟨.ref c8, .tup [.str wd, .tup ds6], px6, _, _, _, rfl, fun b o h => g68 _ _ (g6 _ _ (kk _ _ (g _ _ h))), dvn upd_same (dac (das (by rcases hwd with rfl | rfl <;> decide)) (dac (dvq (g68.seqT hq6) (DAll.mono (DKeep.same g68) _ _ ha6) (by omega)) da0)) (by simp), .node hwd htr6, fun p hp => ?_, fun p hp => ?_, by simp only [nD, nL]; omega⟩
        · rcases (hm6 p).mp hp with h | h
          · exact hsub p h
          · rw [h]; exact hmem
        · rw [take_snoc eq] at hp
          rcases List.mem_append.mp hp with h | h
          · exact (hm6 p).mpr (.inl (hsup p h))
          · exact (hm6 p).mpr (.inr (List.mem_singleton.mp h))
    · obtain ⟨v, d, ps, b1, b2, b3, rfl, g, hv, tr, hsub, hsup, hz⟩ := hinv
      refine ⟨_, rfl, q H' v d ps (fun b o h => g _ _ (g2 _ _ (g1 _ _ h))) hv tr (fun p => ⟨hsub p, fun hp => hsup p ?_⟩) (by omega)⟩
      rw [hul, List.take_length]
      exact hp
end
end Law

set_option Elab.async false
set_option linter.all false
set_option maxRecDepth 100000
set_option maxHeartbeats 4000000
namespace Law
open PySem L2 L2.Sp
/-! ### ways over a graph -/
inductive Rch (E : Nat → Nat → Prop) : Nat → Nat → Prop
  | refl (a : Nat) : Rch E a a
  | snoc {a b c : Nat} : Rch E a b → E b c → Rch E a c
theorem Rch.trans {E : Nat → Nat → Prop} {a b c : Nat} (h : Rch E a b) (h' : Rch E b c) : Rch E a c := by
  induction h' with
  | refl => exact h
  | snoc _ e ih => exact .snoc ih e
def chn (E : Nat → Nat → Prop) : List Nat → Prop
  | [] => True
  | [_] => True
  | x :: y :: r => E x y ∧ chn E (y :: r)
theorem chn_snoc {E : Nat → Nat → Prop} {u v : Nat} (he : E u v) : ∀ {p : List Nat}, chn E p → p.getLast? = some u → chn E (p ++ [v])
  | [], _, h => by simp at h
  | [x], _, h => by
    simp at h
    subst h
    exact ⟨he, trivial⟩
  | x :: y :: r, hc, h => by
    have h : (y :: r).getLast? = some u := by simpa [List.getLast?_cons_cons] using h
    exact ⟨hc.1, chn_snoc he hc.2 h⟩
/-- the steps of a way that is closed -/
theorem steps_ok {E : Nat → Nat → Prop} {a b : Nat} (he : E b a) : ∀ {p : List Nat}, chn E p → p.getLast? = some b → ∀ q ∈ p.zip (p.tail ++ [a]), E q.1 q.2
  | [], _, h => by simp at h
  | [x], _, h => by
    intro q hq
    simp at h hq
    subst h hq
    exact he
  | x :: y :: r, hc, h => by
    have h : (y :: r).getLast? = some b := by simpa [List.getLast?_cons_cons] using h
    intro q hq
    have hq : q ∈ (x, y) :: (y :: r).zip ((y :: r).tail ++ [a]) := by simpa using hq
    rcases List.mem_cons.mp hq with e | hq
    · rw [e]; exact hc.1
    · exact steps_ok he hc.2 h q hq
theorem steps_last {a b : Nat} : ∀ {p : List Nat}, p.getLast? = some b → (b, a) ∈ p.zip (p.tail ++ [a])
  | [], h => by simp at h
  | [x], h => by
    simp at h
    subst h
    simp
  | x :: y :: r, h => by
    have h : (y :: r).getLast? = some b := by simpa [List.getLast?_cons_cons] using h
    have := steps_last (a := a) h
    have hq : (b, a) ∈ (x, y) :: (y :: r).zip ((y :: r).tail ++ [a]) := List.mem_cons_of_mem _ this
    simpa using hq
theorem nodup_lt : ∀ (n : Nat) (l : List Nat), l.Nodup → (∀ x ∈ l, x < n) → l.length ≤ n
  | 0, l, _, h => by
    cases l with
    | nil => exact Nat.le_refl _
    | cons x r => exact absurd (h x List.mem_cons_self) (by omega)
  | n + 1, l, hd, h => by
    by_cases hn : n ∈ l
    · have h1 := nodup_lt n (l.erase n) (hd.erase n) fun x hx => by
        have h2 := (List.Nodup.mem_erase_iff hd).mp hx
        have := h x h2.2
        omega
      rw [List.length_erase_of_mem hn] at h1
      omega
    · have := nodup_lt n l hd fun x hx => by
        have := h x hx
        have : x ≠ n := fun e => hn (e ▸ hx)
        omega
      omega
/-! ### what the search has found: each number with its way from the first -/
abbrev Ents := List (Nat × List Nat)
structure Ent (n : Nat) (E : Nat → Nat → Prop) (a : Nat) (ent : Ents) : Prop where
  nd : (ent.map (·.1)).Nodup
  lt : ∀ e ∈ ent, e.1 < n
  way : ∀ e ∈ ent, chn E e.2 ∧ e.2.Nodup ∧ e.2.head? = some a ∧ e.2.getLast? = some e.1 ∧ ∀ x ∈ e.2, x ∈ ent.map (·.1)
  pre : ∀ e ∈ ent, e.2.dropLast = [] ∨ ∃ u, (u, e.2.dropLast) ∈ ent
theorem Ent.start {n : Nat} {E : Nat → Nat → Prop} {a : Nat} (h : a < n) : Ent n E a [(a, [a])] :=
  ⟨by simp, fun e he => by simp at he; rw [he]; exact h, fun e he => by
    simp at he
    rw [he]
    exact ⟨trivial, by simp, rfl, rfl, by simp⟩, fun e he => by
    simp at he
    rw [he]
    exact .inl rfl⟩
theorem Ent.add {n : Nat} {E : Nat → Nat → Prop} {a u v : Nat} {p : List Nat} {ent : Ents} (h : Ent n E a ent) (hu : (u, p) ∈ ent) (hv : v ∉ ent.map (·.1)) (he : E u v) (hl : v < n) : Ent n E a (ent ++ [(v, p ++ [v])]) := by
  obtain ⟨c1, c2, c3, c4, c5⟩ := h.way _ hu
  have hp : p ≠ [] := fun z => by rw [z] at c3; cases c3
  refine ⟨?_, fun e hm => ?_, fun e hm => ?_, fun e hm => ?_⟩
  · rw [List.map_append, List.nodup_append]
    refine ⟨h.nd, by simp, fun x hx y hy => ?_⟩
    rw [List.mem_singleton.mp hy]
    intro z
    have z : x = v := z
    exact hv (z ▸ hx)
  · rcases List.mem_append.mp hm with hm | hm
    · exact h.lt e hm
    · rw [List.mem_singleton.mp hm]; exact hl
  · rcases List.mem_append.mp hm with hm | hm
    · obtain ⟨d1, d2, d3, d4, d5⟩ := h.way e hm
      exact ⟨d1, d2, d3, d4, fun x hx => by rw [List.map_append]; exact List.mem_append_left _ (d5 x hx)⟩
    · rw [List.mem_singleton.mp hm]
      refine ⟨chn_snoc he c1 c4, ?_, ?_, by simp, fun x hx => ?_⟩
      · rw [List.nodup_append]
        refine ⟨c2, by simp, fun x hx y hy => ?_⟩
        rw [List.mem_singleton.mp hy]
        intro z
        exact hv (z ▸ c5 x hx)
      · show (p ++ [v]).head? = some a
        cases p with
        | nil => exact absurd rfl hp
        | cons x r => exact c3
      · rw [List.map_append]
        rcases List.mem_append.mp hx with hx | hx
        · exact List.mem_append_left _ (c5 x hx)
        · rw [List.mem_singleton.mp hx]; simp
  · rcases List.mem_append.mp hm with hm | hm
    · rcases h.pre e hm with z | ⟨w, z⟩
      · exact .inl z
      · exact .inr ⟨w, List.mem_append_left _ z⟩
    · rw [List.mem_singleton.mp hm]
      refine .inr ⟨u, List.mem_append_left _ ?_⟩
      show (u, (p ++ [v]).dropLast) ∈ ent
      rw [List.dropLast_concat]
      exact hu
/-- what stands behind a number -/
def parV (p : List Nat) : V := match p.dropLast.getLast? with
  | none => .non
  | some u => .int (u : Int)
def kvOf (ent : Ents) : List (Key × V) := ent.map fun e => (Sum.inl (e.1 : Int), parV e.2)
theorem val_ent {ent : Ents} {v : Nat} {p : List Nat} (hd : (ent.map (·.1)).Nodup) (h : (v, p) ∈ ent) : valV (kvOf ent) (Sum.inl (v : Int)) = some (parV p) := by
  induction ent with
  | nil => cases h
  | cons e r ih =>
    rw [List.map_cons, List.nodup_cons] at hd
    show valV ((Sum.inl (e.1 : Int), parV e.2) :: kvOf r) _ = _
    rcases List.mem_cons.mp h with z | z
    · subst z
      rw [valV_pos rfl]
    · have hne : e.1 ≠ v := fun q => hd.1 (by rw [q]; exact List.mem_map.mpr ⟨_, z, rfl⟩)
      rw [valV_neg (fun q => by
        have q : (Sum.inl (e.1 : Int) : Key) = Sum.inl (v : Int) := q
        injection q with q
        exact hne (by omega))]
      exact ih hd.2 z
theorem val_no {ent : Ents} {v : Nat} (h : v ∉ ent.map (·.1)) : valV (kvOf ent) (Sum.inl (v : Int)) = none := by
  induction ent with
  | nil => rfl
  | cons e r ih =>
    rw [List.map_cons, List.mem_cons, not_or] at h
    show valV ((Sum.inl (e.1 : Int), parV e.2) :: kvOf r) _ = _
    rw [valV_neg (fun q => by
      have q : (Sum.inl (e.1 : Int) : Key) = Sum.inl (v : Int) := q
      injection q with q
      exact h.1 (by omega))]
    exact ih h.2
theorem put_ent {ent : Ents} {v : Nat} {p : List Nat} (h : v ∉ ent.map (·.1)) : putK (kvOf ent) (Sum.inl (v : Int)) (parV p) = kvOf (ent ++ [(v, p)]) := by
  rw [putK_new _ (val_no h)]
  unfold kvOf
  rw [List.map_append]
  rfl
theorem par_snoc {p : List Nat} {u v : Nat} (h : p.getLast? = some u) : parV (p ++ [v]) = .int (u : Int) := by
  unfold parV
  rw [List.dropLast_concat, h]
def intsV (p : List Nat) : List V := p.map fun n : Nat => V.int (n : Int)
section
variable {P : Program} {w : World} {K : PySem.W.Frag} {mg : Str → Option Value} {base : Heap} {f : Addr} {fd : FuncData}
theorem hu1 {n : Nat} (h : n + 64 < cLine) : n + 1 < cLine := by omega
abbrev sWay : Stmt := top 7
theorem scWay : FnScope ["came_from", "last", "way", "here"] ["came_from", "last"] (defScope sWay) := ⟨rfl, rfl, rfl, by decide +kernel, rfl, by decide +kernel, by decide +kernel⟩
def spWay : Sp := fun args H Q _ => ∃ (d : Addr) (n a v : Nat) (E : Nat → Nat → Prop) (ent : Ents) (p : List Nat), args = [.ref d, .int (v : Int)] ∧ H d = some (.dK (kvOf ent)) ∧ Ent n E a ent ∧ n ≤ 100 ∧ (v, p) ∈ ent ∧ ∀ (H' : Hp) (l : Addr), Same H H' → H l = none → H' l = some (.lst (intsV p)) → Q (.ref l) H'
theorem ok_way (F : Fun K "way_to" "way_to" sWay f fd) (m1 : mg "list" = none) (m2 : mg "reversed" = none) : FnOk P w K mg base CX0 1 f fd ["came_from", "last"] spWay := by
  refine F.ok scWay (fun vs H Q E h => ?_) (fun cdv A outer s H vs Q E hr h => ?_)
  · obtain ⟨d, n, a, v, E, ent, p, rfl, _⟩ := h
    rfl
  obtain ⟨d, n, a, v, Ed, ent, p, rfl, hd, he, hn, hv, q⟩ := h
  refine ⟨_, pss_cons (ps_set (i := 2) scWay.nd rfl (Or.inl rfl) (pe_lst pa_nil))
    (pss_cons (ps_set (i := 3) scWay.nd rfl (Or.inl rfl) (pv 1))
    (pss_cons (ps_while PassesOwn.never (pt_cmpR op_notN (pv 3) pe_non (nomark _))
      (pss_cons (ps_expr (pe_bm PySem.F.plainAttrs_list PySem.F.slot_list_append PySem.F.type_list_append mt_append (pv 2) (pa_cons (pv 3) pa_nil)))
      (pss_one (ps_set (i := 3) scWay.nd rfl (Or.inl rfl) (pe_dget (hu1 hr.units) (pv 0) (pv 3) (fun _ _ => rfl))))))
    (pss_one (ps_ret (pe_listrev rfl rfl m1 rfl m2 (pv 2)))))), ?_⟩
  refine ⟨len0, fun l hl => ⟨_, rfl, ?_⟩⟩
  have g0 := same_new hl (.lst [])
  have hpl : p.length ≤ 100 := by
    have := nodup_lt n p (he.way _ hv).2.1 fun x hx => by
      obtain ⟨e, hm, ee⟩ := List.mem_map.mp ((he.way _ hv).2.2.2.2 x hx)
      rw [← ee]; exact he.lt e hm
    omega
  refine ⟨fun m σ H' => ∃ (q ws : List Nat) (x : V), m = q.length ∧ σ = [some (.ref d), some (.int (v : Int)), some (.ref l), some x] ∧ Same H H' ∧ H' l = some (.lst (intsV ws)) ∧ p = q ++ ws.reverse ∧ ((q = [] ∧ x = .non) ∨ ∃ u, (u, q) ∈ ent ∧ x = .int (u : Int)),
    ⟨_, p, [], .int (v : Int), rfl, rfl, g0, upd_same, by simp, .inr ⟨v, hv, rfl⟩⟩, ?_⟩
  rintro m σ H' ⟨qq, ws, x, rfl, rfl, g, hws, ep, hx⟩
  refine ⟨_, rfl, rfl, _, rfl, ?_⟩
  rcases hx with ⟨hq0, rfl⟩ | ⟨u, hu, rfl⟩
  · subst hq0
    refine iteF ⟨_, rfl, l, _, rfl, hws, fun l2 hl2 => ?_⟩
    have g2 := same_new hl2 (.lst (intsV ws).reverse)
    refine q _ l2 (fun b o h => g2 _ _ (g _ _ h)) ?_ ?_
    · cases e : H l2 with
      | none => rfl
      | some o => rw [g _ _ e] at hl2; cases hl2
    · rw [upd_same, ep]
      simp [intsV]
  · have hlen : ws.length < 1000 := by
      have := congrArg List.length ep
      rw [List.length_append, List.length_reverse] at this
      omega
    obtain ⟨c1, c2, c3, c4, c5⟩ := he.way _ hu
    have hqn : qq ≠ [] := fun z => by rw [z] at c3; cases c3
    have eq : qq = qq.dropLast ++ [u] := by
      have h1 : qq.getLast hqn = u := by
        have h2 := List.getLast?_eq_some_getLast hqn
        rw [h2] at c4
        exact Option.some.inj c4
      conv => lhs; rw [← List.dropLast_concat_getLast hqn]
      rw [h1]
    refine iteT ⟨fun σ' H'' => ∃ m', m' < qq.length ∧ ∃ (q ws : List Nat) (x : V), m' = q.length ∧ σ' = [some (.ref d), some (.int (v : Int)), some (.ref l), some x] ∧ Same H H'' ∧ H'' l = some (.lst (intsV ws)) ∧ p = q ++ ws.reverse ∧ ((q = [] ∧ x = .non) ∨ ∃ u, (u, q) ∈ ent ∧ x = .int (u : Int)), fun _ _ h => h, ?_⟩
    refine ⟨_, rfl, .inl ⟨rfl, _, SqL.of hws⟩, _, rfl, l, _, _, rfl, rfl, hws, by rw [intsV, List.length_map]; exact sz_of (by omega), ?_⟩
    have hd' : upd H' l (.lst (intsV ws ++ [.int (u : Int)])) d = some (.dK (kvOf ent)) := by rw [upd_ne (ne_of_none hd hl)]; exact g _ _ hd
    refine ⟨_, rfl, _, rfl, d, parV qq, rfl, by rw [← val_ent he.nd hu]; exact DGet.k (k := Sum.inl (u : Int)) hd', qq.dropLast.length, ?_, qq.dropLast, ws ++ [u], parV qq, rfl, rfl, fun b o h => by rw [upd_ne (ne_of_none h hl)]; exact g _ _ h, ?_, ?_, ?_⟩
    · rw [List.length_dropLast]
      have : 0 < qq.length := List.length_pos_iff.mpr hqn
      omega
    · rw [upd_same]; simp [intsV]
    · rw [List.reverse_append]
      show p = qq.dropLast ++ (u :: ws.reverse)
      rw [ep]
      conv => lhs; rw [eq]
      simp
    · unfold parV
      rcases he.pre _ hu with z | ⟨w', z⟩
      · have z : qq.dropLast = [] := z
        exact .inl ⟨z, by rw [z]; rfl⟩
      · refine .inr ⟨w', z, ?_⟩
        have := (he.way _ z).2.2.2.1
        have this : qq.dropLast.getLast? = some w' := this
        rw [this]
end
end Law

set_option Elab.async false
set_option linter.all false
set_option maxRecDepth 100000
set_option maxHeartbeats 4000000
namespace Law
open PySem L2 L2.Sp
def Ed (n : Nat) (G : Nat → Nat → Bool) (i j : Nat) : Prop := i < n ∧ j < n ∧ G i j = true
def nxt (n : Nat) (G : Nat → Nat → Bool) (i : Nat) : List Nat := (List.range n).filter (G i)
theorem mem_nxt {n : Nat} {G : Nat → Nat → Bool} {i j : Nat} (hi : i < n) : j ∈ nxt n G i ↔ Ed n G i j := by
  unfold nxt Ed
  rw [List.mem_filter, List.mem_range]
  exact ⟨fun h => ⟨hi, h.1, h.2⟩, fun h => ⟨h.2.1, h.2.2⟩⟩
/-- the search's own state -/
structure Srch (n : Nat) (G : Nat → Nat → Bool) (a b : Nat) (ent : Ents) (W : List Nat) (ok : Nat → Prop) : Prop where
  en : Ent n (Ed n G) a ent
  sub : ∀ x ∈ W, x ∈ ent.map (·.1)
  first : a ∈ ent.map (·.1)
  done : ∀ v ∈ ent.map (·.1), v ∉ W → ok v → v ≠ b ∧ ∀ j, Ed n G v j → j ∈ ent.map (·.1)
theorem Srch.no {n : Nat} {G : Nat → Nat → Bool} {a b : Nat} {ent : Ents} (h : Srch n G a b ent [] fun _ => True) : ¬ Rch (Ed n G) a b := by
  have all : ∀ v, Rch (Ed n G) a v → v ∈ ent.map (·.1) := fun v hv => by
    induction hv with
    | refl => exact h.first
    | snoc _ e ih => exact (h.done _ ih (by simp) trivial).2 _ e
  intro hr
  exact (h.done b (all b hr) (by simp) trivial).1 rfl
theorem len_le {n : Nat} {E : Nat → Nat → Prop} {a : Nat} {ent : Ents} (h : Ent n E a ent) : ent.length ≤ n := by
  have := nodup_lt n (ent.map (·.1)) h.nd fun x hx => by
    obtain ⟨e, he, ee⟩ := List.mem_map.mp hx
    rw [← ee]; exact h.lt e he
  rwa [List.length_map] at this
theorem ent_of {ent : Ents} {x : Nat} (h : x ∈ ent.map (·.1)) : ∃ p, (x, p) ∈ ent := by
  obtain ⟨⟨y, p⟩, h1, h2⟩ := List.mem_map.mp h
  have h2 : y = x := h2
  rw [← h2]; exact ⟨p, h1⟩
section
variable {P : Program} {w : World} {K : PySem.W.Frag} {mg : Str → Option Value} {base : Heap} {f : Addr} {fd : FuncData}
/-- the list of lists of numbers -/
def NxV (H : Hp) (ln : Addr) (n : Nat) (G : Nat → Nat → Bool) : Prop := ∃ vs, H ln = some (.lst vs) ∧ vs.length = n ∧ ∀ i, i < n → ∃ li, vs[i]? = some (.ref li) ∧ H li = some (.lst (intsV (nxt n G i)))
theorem NxV.same {H H' : Hp} {ln : Addr} {n : Nat} {G : Nat → Nat → Bool} (g : Same H H') (h : NxV H ln n G) : NxV H' ln n G := by
  obtain ⟨vs, h1, h2, h3⟩ := h
  exact ⟨vs, g _ _ h1, h2, fun i hi => by
    obtain ⟨li, h4, h5⟩ := h3 i hi
    exact ⟨li, h4, g _ _ h5⟩⟩
abbrev sShort : Stmt := top 6
theorem scShort : FnScope ["nexts", "first", "last", "came_from", "waiting", "here", "number"] ["nexts", "first", "last"] (defScope sShort) := ⟨rfl, rfl, rfl, by decide +kernel, rfl, by decide +kernel, by decide +kernel⟩
def spShort : Sp := fun args H Q _ => ∃ (ln : Addr) (n a b : Nat) (G : Nat → Nat → Bool), args = [.ref ln, .int (a : Int), .int (b : Int)] ∧ NxV H ln n G ∧ a < n ∧ b < n ∧ n ≤ 60 ∧
  (∀ (H' : Hp) (l : Addr) (p : List Nat), Same H H' → H l = none → H' l = some (.lst (intsV p)) → chn (Ed n G) p → p.Nodup → p.head? = some a → p.getLast? = some b → (∀ x ∈ p, x < n) → Q (.ref l) H') ∧
  ∀ H', Same H H' → ¬ Rch (Ed n G) a b → Q .non H'
theorem idx0 (k : Nat) : seqIndex? 0 (k + 1) = some 0 := by
  unfold seqIndex?
  simp
theorem dec_int {a b : Nat} : decide (V.int (a : Int) = V.int (b : Int)) = decide (a = b) := by
  rw [Bool.eq_iff_iff, decide_eq_true_iff, decide_eq_true_iff]
  exact ⟨fun h => by injection h with h; omega, fun h => by rw [h]⟩
theorem ok_short (F : Fun K "shortest_way" "shortest_way" sShort f fd) (Wy : Cal P w K mg base 1 "way_to" ["came_from", "last"] spWay) (m1 : mg "len" = none) : FnOk P w K mg base CX0 2 f fd ["nexts", "first", "last"] spShort := by
  refine F.ok scShort (fun vs H Q E h => ?_) (fun cdv A outer s H vs Q E hr h => ?_)
  · obtain ⟨ln, n, a, b, G, rfl, _⟩ := h
    rfl
  obtain ⟨ln, n, a, b, G, rfl, hnx, ha, hb, hn60, q1, q2⟩ := h
  refine ⟨_, pss_cons (ps_set (i := 3) scShort.nd rfl (Or.inl rfl) (pe_disp (pps_cons (pv 1) pe_non pps_nil) rfl rfl (by simp) (by decide)))
    (pss_cons (ps_set (i := 4) scShort.nd rfl (Or.inl rfl) (pe_lst (pa_cons (pv 1) pa_nil)))
    (pss_cons (ps_while PassesOwn.never (pt_cmpR op_gt (pe_callB call_len_seq rfl m1 PySem.boot_len (pa_cons (pv 4) pa_nil)) pe_int (nomark _))
      (pss_cons (ps_set (i := 5) scShort.nd rfl (Or.inl rfl) (pe_bm PySem.F.plainAttrs_list PySem.F.slot_list_pop PySem.F.type_list_pop mt_popAt (pv 4) (pa_cons pe_int pa_nil)))
      (pss_cons (ps_if (pt_cmpR op_eq (pv 5) (pv 2) (nomark _)) (pss_one (ps_ret (pe_cal Wy hr rfl (pa_cons (pv 3) (pa_cons (pv 2) pa_nil))))) pss_nil)
      (pss_one (ps_for PassesOwn.never rfl (pi_list (pe_ix ix_list (pv 0) (pv 5) (fun _ _ => rfl))) (pg_name (i := 6) scShort.nd rfl (Or.inl rfl))
        (pss_one (ps_if (pt_cmp (pc_dnotin (hu1 hr.units) (pv 6) (pv 3)))
          (pss_cons (ps_dput (hu1 hr.units) (pv 3) (pv 6) (pv 5) rfl)
          (pss_one (ps_expr (pe_bm PySem.F.plainAttrs_list PySem.F.slot_list_append PySem.F.type_list_append mt_append (pv 4) (pa_cons (pv 6) pa_nil))))) pss_nil)))))))
    (pss_one (ps_ret pe_non)))), ?_⟩
  intro d hd
  refine ⟨_, rfl, upd_same, [(Sum.inl (a : Int), .non)], rfl, by show 1 ≤ 15; decide, ?_⟩
  have hdd0 : upd (upd H d (.dK [])) d (.dK (mergeK [] [(Sum.inl (a : Int), .non)])) d = some (.dK (kvOf [(a, [a])])) := upd_same
  have g1 : Same H (upd (upd H d (.dK [])) d (.dK (mergeK [] [(Sum.inl (a : Int), .non)]))) := fun b o h => by rw [upd_ne (ne_of_none h hd), upd_ne (ne_of_none h hd)]; exact h
  generalize upd (upd H d (.dK [])) d (.dK (mergeK [] [(Sum.inl (a : Int), .non)])) = H1 at hdd0 g1
  refine ⟨_, rfl, len1, fun lw hlw => ?_⟩
  have g2 := same_new hlw (.lst [.int (a : Int)])
  have hlwH : H lw = none := by
    cases e : H lw with
    | none => rfl
    | some o => rw [g1 _ _ e] at hlw; cases hlw
  have ndw : d ≠ lw := ne_of_none hdd0 hlw
  refine ⟨fun m σ H' => ∃ (ent : Ents) (W : List Nat) (z1 z2 : Option V), m = 2 * (n - ent.length) + W.length ∧ σ = [some (.ref ln), some (.int (a : Int)), some (.int (b : Int)), some (.ref d), some (.ref lw), z1, z2] ∧ Same H H' ∧ H' d = some (.dK (kvOf ent)) ∧ H' lw = some (.lst (intsV W)) ∧ Srch n G a b ent W (fun _ => True) ∧ 2 * (n - ent.length) + W.length ≤ 2 * n,
    ⟨_, [(a, [a])], [a], none, none, rfl, rfl, fun b o h => g2 _ _ (g1 _ _ h), g2 _ _ hdd0, upd_same, ⟨Ent.start ha, by simp, by simp, fun v hv hn _ => by simp at hv hn; exact absurd hv hn⟩, by simp; omega⟩, ?_⟩
  rintro m σ H' ⟨ent, W, z1, z2, rfl, rfl, g, hdd, hW, hs, hbd⟩
  refine ⟨_, rfl, lw, _, rfl, .inl (SqL.of hW), _, _, rfl, rfl, _, rfl, ?_⟩
  cases W with
  | nil => exact iteF (q2 H' g hs.no)
  | cons x W' =>
    have e1 : decide ((((intsV (x :: W')).length : Nat) : Int) > 0) = true := decide_eq_true (by simp [intsV])
    rw [e1]
    have hxk := hs.sub x List.mem_cons_self
    obtain ⟨px, hpx⟩ := ent_of hxk
    have hxn := hs.en.lt _ hpx
    have hxn : x < n := hxn
    have hel := len_le hs.en
    refine iteT ⟨fun σ' H'' => ∃ m', m' < 2 * (n - ent.length) + (x :: W').length ∧ ∃ (ent : Ents) (W : List Nat) (z1 z2 : Option V), m' = 2 * (n - ent.length) + W.length ∧ σ' = [some (.ref ln), some (.int (a : Int)), some (.int (b : Int)), some (.ref d), some (.ref lw), z1, z2] ∧ Same H H'' ∧ H'' d = some (.dK (kvOf ent)) ∧ H'' lw = some (.lst (intsV W)) ∧ Srch n G a b ent W (fun _ => True) ∧ 2 * (n - ent.length) + W.length ≤ 2 * n, fun _ _ h => h, ?_⟩
    refine ⟨_, rfl, .inl ⟨rfl, _, SqL.of hW⟩, lw, _, 0, 0, .int (x : Int), rfl, rfl, hW, by decide, by decide, by rw [show (intsV (x :: W')).length = W'.length + 1 by simp [intsV]]; exact idx0 _, rfl, ?_⟩
    have eW : (intsV (x :: W')).eraseIdx 0 = intsV W' := rfl
    rw [eW]
    have gb : Same H (upd H' lw (.lst (intsV W'))) := fun b o h => by rw [upd_ne (ne_of_none h hlwH)]; exact g _ _ h
    have hdb : upd H' lw (.lst (intsV W')) d = some (.dK (kvOf ent)) := by rw [upd_ne ndw]; exact hdd
    have hwb : upd H' lw (.lst (intsV W')) lw = some (.lst (intsV W')) := upd_same
    generalize upd H' lw (.lst (intsV W')) = Hb at gb hdb hwb
    refine ⟨_, rfl, _, rfl, rfl, _, rfl, ?_⟩
    rw [dec_int]
    refine ite2 (fun hxb => ?_) (fun hxb => ?_)
    · have hxb : x = b := of_decide_eq_true hxb
      obtain ⟨c1, c2, c3, c4, c5⟩ := hs.en.way _ hpx
      refine ⟨_, rfl, _, rfl, d, n, a, b, Ed n G, ent, px, rfl, hdb, hs.en, by omega, by rw [← hxb]; exact hpx, fun H2 l g2 hl hp => ?_⟩
      refine q1 H2 l px (fun b o h => g2 _ _ (gb _ _ h)) ?_ hp c1 c2 c3 (by rw [← hxb]; exact c4) fun y hy => ?_
      · cases e : H l with
        | none => rfl
        | some o => rw [gb _ _ e] at hl; cases hl
      · obtain ⟨e, he, ee⟩ := List.mem_map.mp (c5 y hy)
        rw [← ee]; exact hs.en.lt e he
    · have hxb : x ≠ b := fun z => hxb (decide_eq_true z)
      obtain ⟨vs, hvs, hvl, hrow⟩ := hnx
      obtain ⟨li, hli, hlil⟩ := hrow x hxn
      refine ⟨_, rfl, _, rfl, ln, _, _, _, rfl, rfl, SqL.of (gb _ _ hvs), atI_nat hli, li, rfl, ⟨_, SqL.of (gb _ _ hlil)⟩, ?_⟩
      refine for_list (xs := intsV (nxt n G x)) (fun j σ H' => ∃ (ent' : Ents) (W : List Nat) (z2 : Option V), σ = [some (.ref ln), some (.int (a : Int)), some (.int (b : Int)), some (.ref d), some (.ref lw), some (.int (x : Int)), z2] ∧ Same H H' ∧ H' d = some (.dK (kvOf ent')) ∧ H' lw = some (.lst (intsV W)) ∧ Srch n G a b ent' W (fun v => v ≠ x) ∧ (x, px) ∈ ent' ∧ (∀ y ∈ (nxt n G x).take j, y ∈ ent'.map (·.1)) ∧ 2 * (n - ent'.length) + W.length ≤ 2 * (n - ent.length) + W'.length)
        ⟨ent, W', z2, rfl, gb, hdb, hwb, ⟨hs.en, fun y hy => hs.sub y (List.mem_cons_of_mem _ hy), hs.first, fun v hv hnw hvx => hs.done v hv (by simp only [List.mem_cons, not_or]; exact ⟨hvx, hnw⟩) trivial⟩, hpx, (fun y hy => by simp at hy), Nat.le_refl _⟩
        (fun j σ H' _ ⟨_, _, _, _, g, _⟩ => SqL.of (g _ _ hlil)) (fun j y σ H' hy hinv => ?_) (fun σ H' hinv => ?_)
      · obtain ⟨ent', W, z2, rfl, g', hd', hw', hs', hx', htk, hms⟩ := hinv
        unfold intsV at hy
        rw [List.getElem?_map] at hy
        cases ej : (nxt n G x)[j]? with
        | none => rw [ej] at hy; cases hy
        | some v =>
          rw [ej] at hy
          cases hy
          have hv : Ed n G x v := (mem_nxt hxn).mp (List.mem_of_getElem? ej)
          have hel' := len_le hs'.en
          refine ⟨_, rfl, _, rfl, d, _, rfl, DGet.k (k := Sum.inl (v : Int)) hd', _, rfl, ?_⟩
          by_cases hin : v ∈ ent'.map (·.1)
          · obtain ⟨pv', hpv⟩ := ent_of hin
            rw [val_ent hs'.en.nd hpv]
            refine iteF ⟨ent', W, _, rfl, g', hd', hw', hs', hx', fun y hy => ?_, hms⟩
            rw [take_snoc ej] at hy
            rcases List.mem_append.mp hy with z | z
            · exact htk y z
            · rw [List.mem_singleton.mp z]; exact hin
          · rw [val_no hin]
            have hlen : ent'.length < n := by
              have := len_le (hs'.en.add hx' hin hv hv.2.1)
              rw [List.length_append] at this
              simp at this
              omega
            refine iteT ⟨_, rfl, _, rfl, _, rfl, d, _, rfl, DPut.k (k := Sum.inl (v : Int)) hd' (by rw [kvOf, List.length_map]; exact sz_of (by omega)), ?_⟩
            have hpar : putK (kvOf ent') (Sum.inl (v : Int)) (V.int (x : Int)) = kvOf (ent' ++ [(v, px ++ [v])]) := by
              rw [← par_snoc (v := v) (hs'.en.way _ hx').2.2.2.1]
              exact put_ent hin
            rw [hpar]
            have hw2 : upd H' d (.dK (kvOf (ent' ++ [(v, px ++ [v])]))) lw = some (.lst (intsV W)) := by rw [upd_ne (Ne.symm ndw)]; exact hw'
            have hWl : W.length ≤ 2 * n := by
              rw [List.length_cons] at hbd
              omega
            refine ⟨_, rfl, .inl ⟨rfl, _, SqL.of hw2⟩, _, rfl, lw, _, _, rfl, rfl, hw2, by rw [intsV, List.length_map]; exact sz_of (by omega), ent' ++ [(v, px ++ [v])], W ++ [v], _, rfl, fun b o h => by rw [upd_ne (ne_of_none h hlwH), upd_ne (ne_of_none h hd)]; exact g' _ _ h, by rw [upd_ne ndw]; exact upd_same, by rw [upd_same]; simp [intsV], ⟨hs'.en.add hx' hin hv hv.2.1, fun y hy => ?_, ?_, fun y hy hnw hyx => ?_⟩, List.mem_append_left _ hx', fun y hy => ?_, ?_⟩
            · rw [List.map_append]
              rcases List.mem_append.mp hy with z | z
              · exact List.mem_append_left _ (hs'.sub y z)
              · rw [List.mem_singleton.mp z]; simp
            · rw [List.map_append]; exact List.mem_append_left _ hs'.first
            · rw [List.map_append] at hy ⊢
              rw [List.mem_append, not_or] at hnw
              rcases List.mem_append.mp hy with z | z
              · obtain ⟨d1, d2⟩ := hs'.done y z hnw.1 hyx
                exact ⟨d1, fun j hj => List.mem_append_left _ (d2 j hj)⟩
              · have z : y = v := by simpa using z
                exact absurd z (by simpa using hnw.2)
            · rw [take_snoc ej] at hy
              rw [List.map_append]
              rcases List.mem_append.mp hy with z | z
              · exact List.mem_append_left _ (htk y z)
              · rw [List.mem_singleton.mp z]; simp
            · rw [List.length_append, List.length_append]
              simp
              omega
      · obtain ⟨ent', W, z2, rfl, g', hd', hw', hs', hx', htk, hms⟩ := hinv
        refine ⟨2 * (n - ent'.length) + W.length, by rw [List.length_cons]; omega, ent', W, _, _, rfl, rfl, g', hd', hw', ⟨hs'.en, hs'.sub, hs'.first, fun v hv hnw _ => ?_⟩, by rw [List.length_cons] at hbd; omega⟩
        by_cases hvx : v = x
        · subst hvx
          refine ⟨hxb, fun j hj => htk j ?_⟩
          rw [show (intsV (nxt n G v)).length = (nxt n G v).length by simp [intsV], List.take_length]
          exact (mem_nxt hxn).mpr hj
        · exact hs'.done v hv hnw hvx
end
end Law

set_option Elab.async false
set_option linter.all false
set_option maxRecDepth 100000
set_option maxHeartbeats 4000000
namespace Law
open PySem L2 L2.Sp
abbrev RG := List Str × List D × List (List Str)
def relB (fB : List Str → List Str → Bool) (rs : List RG) (i j : Nat) : Bool := match rs[i]?, rs[j]? with
  | some r, some o => r.2.2.any (fB o.1)
  | _, _ => false
theorem relB_at {fB : List Str → List Str → Bool} {rs : List RG} {i j : Nat} {r o : RG} (h1 : rs[i]? = some r) (h2 : rs[j]? = some o) : relB fB rs i j = r.2.2.any (fB o.1) := by unfold relB; rw [h1, h2]
theorem filter_succ (n : Nat) (p : Nat → Bool) : (List.range (n + 1)).filter p = (List.range n).filter p ++ (if p n = true then [n] else []) := by
  rw [List.range_succ, List.filter_append]
  congr 1
  by_cases h : p n = true
  · simp [h]
  · simp [h]
section
variable {P : Program} {w : World} {K : PySem.W.Frag} {mg : Str → Option Value} {base : Heap} {f : Addr} {fd : FuncData}
def RgV (K : PySem.W.Frag) (H : Hp) (v : V) (r : RG) : Prop := DV K H (rowD r.1 r.2.1) v ∧ Trs r.2.1 r.2.2 ∧ nL r.2.1 ≤ 900
theorem RgV.same {H H' : Hp} {v : V} {r : RG} (g : Same H H') (h : RgV K H v r) : RgV K H' v r := ⟨up g h.1, h.2⟩
theorem RgV.put {H : Hp} {v : V} {r : RG} {l : Addr} {xs zs : List V} (hl : H l = some (.lst xs)) (h : RgV K H v r) : RgV K (upd H l (.lst zs)) v r := ⟨DV.mono (DKeep.put hl) _ _ h.1, h.2⟩
theorem pi_enumC {X : Cx} {scope : Scope} {N' : List Str} {C : Addr} {fp : List Addr} {s : Shared} {H : Hp} {elts : List Expr} {x1 : Nat} {tpos : Pos} {a : Expr} {ta : TA} {p pos : Pos} (hg : Gl (compCxC X scope N' C fp s H) "enumerate") (hm : X.mg "enumerate" = none) (ha : PA (compCxC X scope N' C fp s H) [a] ta) (hs : starEach [a] (compCxC X scope N' C fp s H).env = [(false, eval a (compCxC X scope N' C fp s H).env)] := by rfl) :
    PI (compCxC X scope N' C fp s H) (.Tuple elts x1 tpos) (.Call (.Name "enumerate" p) [a] [] pos) (iEnum X.K ta) := pi_enum (X := compCxC X scope N' C fp s H) hg hm ha hs
abbrev sRing : Stmt := top 5
theorem scRing : FnScope ["rows", "nexts", "last", "row", "first", "way"] ["rows"] (defScope sRing) := ⟨rfl, rfl, rfl, by decide +kernel, rfl, by decide +kernel, by decide +kernel⟩
theorem nd_rr : (["row", "rows"] : List Str).Nodup := by decide +kernel
theorem nd_nor : (["number", "other", "row"] : List Str).Nodup := by decide +kernel
/-- a ring -/
structure IsRing (n : Nat) (G I : Nat → Nat → Bool) (p : List Nat) : Prop where
  ch : chn (Ed n G) p
  nd : p.Nodup
  lt : ∀ x ∈ p, x < n
  cl : ∃ a b, p.head? = some a ∧ p.getLast? = some b ∧ Ed n G b a ∧ I b a = true
def NoRing (n : Nat) (G I : Nat → Nat → Bool) : Prop := ∀ i j, Ed n G i j → I i j = true → ¬ Rch (Ed n G) j i
def spRing (K : PySem.W.Frag) : Sp := fun args H Q _ => ∃ (lr : Addr) (vs : List V) (rs : List RG), args = [.ref lr] ∧ H lr = some (.lst vs) ∧ Paired (RgV K H) vs rs ∧ rs.length ≤ 20 ∧
  (∀ (H' : Hp) (l : Addr) (p : List Nat), Same H H' → H l = none → H' l = some (.lst (intsV p)) → IsRing rs.length (relB leanB rs) (relB intoB rs) p → Q (.ref l) H') ∧
  ∀ H', Same H H' → NoRing rs.length (relB leanB rs) (relB intoB rs) → Q .non H'
theorem ok_ring (F : Fun K "ring" "ring" sRing f fd) (Ln : Cal P w K mg base 2 "leans" ["row", "other"] (spLn K leanB)) (Li : Cal P w K mg base 2 "leans_into" ["row", "other"] (spLn K intoB)) (Sh : Cal P w K mg base 2 "shortest_way" ["nexts", "first", "last"] spShort) (m1 : mg "enumerate" = none) :
    FnOk P w K mg base CX0 3 f fd ["rows"] (spRing K) := by
  refine F.ok scRing (fun vs H Q E h => ?_) (fun cdv A outer s H vs Q E hr h => ?_)
  · obtain ⟨lr, vs, rs, rfl, _⟩ := h
    rfl
  obtain ⟨lr, vs, rs, rfl, hlr, hrs, h20, q1, q2⟩ := h
  have hvl := hrs.length
  refine ⟨_, pss_cons (ps_compC (i := 1) (N' := ["row", "rows"]) (fr := [none, some 0]) (own := [0]) ⟨rfl, rfl, rfl, rfl, rfl, rfl, rfl⟩ rfl scRing.nd rfl rfl
      (pi_list (pv 0)) (fun _ _ _ _ => pg_name (i := 0) nd_rr rfl (Or.inr rfl)) (own_name 0) (fun _ _ _ _ => pts_nil)
      (fun _ _ _ _ => pe_comp (N' := ["number", "other", "row"]) (fr := [none, none, some 0]) (own := [0, 1]) ⟨rfl, rfl, rfl, rfl, rfl, rfl, rfl⟩ rfl
        (pi_enumC rfl m1 (pa_cons (pv 1) pa_nil)) (fun _ _ _ _ => pg_tup (n := 2) rfl (pgs_cons (pg_name (i := 0) nd_nor rfl (Or.inl rfl)) (pgs_cons (pg_name (i := 1) nd_nor rfl (Or.inl rfl)) pgs_nil))) (own_tup (own_pair 0 1))
        (fun _ _ _ _ => pts_one (pt_val (pe_cal Ln hr rfl (pa_cons (pv 2) (pa_cons (pv 1) pa_nil))))) (fun _ _ _ _ => pv 0)))
    (pss_cons (ps_for PassesOwn.never rfl (pi_enum rfl m1 (pa_cons (pv 0) pa_nil)) (pg_tup (n := 2) rfl (pgs_cons (pg_name (i := 2) scRing.nd rfl (Or.inl rfl)) (pgs_cons (pg_name (i := 3) scRing.nd rfl (Or.inl rfl)) pgs_nil)))
      (pss_one (ps_for PassesOwn.never rfl (pi_list (pe_ix ix_list (pv 1) (pv 2) (fun _ _ => rfl))) (pg_name (i := 4) scRing.nd rfl (Or.inl rfl))
        (pss_one (ps_if (pt_val (pe_cal Li hr rfl (pa_cons (pv 3) (pa_cons (pe_ix ix_list (pv 0) (pv 4) (fun _ _ => rfl)) pa_nil))))
          (pss_cons (ps_set (i := 5) scRing.nd rfl (Or.inl rfl) (pe_cal Sh hr rfl (pa_cons (pv 1) (pa_cons (pv 4) (pa_cons (pv 2) pa_nil)))))
          (pss_one (ps_if (pt_cmpR op_notN (pv 5) pe_non (nomark _)) (pss_one (ps_ret (pv 5))) pss_nil))) pss_nil)))))
    (pss_one (ps_ret pe_non))), ?_⟩
  generalize hn : rs.length = n at *
  generalize hG : relB leanB rs = G at *
  generalize hI : relB intoB rs = Ib at *
  refine ⟨_, rfl, lr, rfl, ⟨_, SqL.of hlr⟩, fun l1 hl1 => ?_⟩
  refine comp_list (xs := vs) (fun i zs H' => Same H H' ∧ H' l1 = some (.lst zs) ∧ zs.length = i ∧ ∀ k, k < i → ∃ li, zs[k]? = some (.ref li) ∧ li ≠ l1 ∧ H' li = some (.lst (intsV (nxt n G k))))
    ⟨same_new hl1 _, upd_same, rfl, fun k hk => absurd hk (Nat.not_lt_zero _)⟩ (fun i zs H' _ ⟨g, _⟩ => SqL.of (g _ _ hlr)) (fun i x zs H' hx hinv => ?_) (fun zs H1 hinv => ?_)
  · obtain ⟨g, hl, hzl, hrow⟩ := hinv
    have hi := (List.getElem?_eq_some_iff.mp hx).1
    obtain ⟨r, hr1, hrv, htr, h900⟩ := pair_get hrs hx
    dsimp only [CTurn, gName]
    refine yesT ⟨_, rfl, lr, rfl, ⟨_, SqL.of (g _ _ hlr)⟩, fun l2 hl2 => ?_⟩
    refine comp_enum (xs := vs) (fun j zs2 H2 => Same H' H2 ∧ H2 l2 = some (.lst zs2) ∧ zs2 = intsV ((List.range j).filter (G i))) ⟨same_new hl2 _, upd_same, rfl⟩ (fun j zs2 H2 ⟨g2, _⟩ => SqL.of (g2 _ _ (g _ _ hlr))) (fun j y zs2 H2 T hy hinv2 hT => ?_) (fun zs2 H2 hinv2 => ?_)
    · obtain ⟨g2, hl2', ez⟩ := hinv2
      obtain ⟨o, ho1, hov, _, _⟩ := pair_get hrs hy
      have hj := (List.getElem?_eq_some_iff.mp hy).1
      have kT := same_new hT (.tup [.int (j : Int), y])
      have gg : Same H _ := fun b o h => kT _ _ (g2 _ _ (g b o h))
      refine ⟨T, _, rfl, SqT.of upd_same, rfl, _, _, rfl, _, _, rfl, rfl, ?_⟩
      refine ⟨_, rfl, _, rfl, x, y, r.1, o.1, r.2.1, o.2.1, r.2.2, rfl, up gg hrv, up gg hov, htr, h900, fun H5 g5 => ⟨_, rfl, ?_⟩⟩
      have eb : r.2.2.any (leanB o.1) = G i j := by rw [← hG]; exact (relB_at hr1 ho1).symm
      rw [eb]
      have hl5 := g5 _ _ (kT _ _ hl2')
      have gz : Same H' H5 := fun b o h => g5 _ _ (kT _ _ (g2 _ _ h))
      have hzz : zs2.length ≤ j := by rw [ez, intsV, List.length_map]; exact Nat.le_trans (List.length_filter_le _ _) (by simp)
      refine ite2 (fun hb => ?_) (fun hb => ?_)
      · refine ⟨_, rfl, hl5, sz_of (by omega), fun b o h => by rw [upd_ne (ne_of_none h hl2)]; exact gz _ _ h, upd_same, ?_⟩
        rw [filter_succ, if_pos hb, ez]
        simp [intsV]
      · refine ⟨gz, hl5, ?_⟩
        rw [filter_succ, if_neg hb, ez]
        simp [intsV]
    · obtain ⟨g2, hl2', ez⟩ := hinv2
      have hnn : vs.length = n := by omega
      rw [hnn] at ez
      have hlz := g2 _ _ hl
      have n21 : l2 ≠ l1 := fun e => by rw [e, hl] at hl2; cases hl2
      refine ⟨hlz, sz_of (by omega), fun b o h => by rw [upd_ne (ne_of_none h hl1)]; exact g2 _ _ (g _ _ h), upd_same, by rw [List.length_append, hzl]; rfl, fun k hk => ?_⟩
      by_cases hki : k < i
      · obtain ⟨li, h1, h2, h3⟩ := hrow k hki
        exact ⟨li, by rw [List.getElem?_append_left (by omega)]; exact h1, h2, by rw [upd_ne h2]; exact g2 _ _ h3⟩
      · have : k = i := by omega
        subst this
        exact ⟨l2, by rw [List.getElem?_append_right (by omega), hzl]; simp, n21, by rw [upd_ne n21, hl2', ez]; rfl⟩
  · obtain ⟨g1, hl, hzl, hrow⟩ := hinv
    have hnn : vs.length = n := by omega
    have hnx : NxV H1 l1 n G := ⟨zs, hl, by omega, fun i hi => by
      obtain ⟨li, h1, _, h3⟩ := hrow i (by omega)
      exact ⟨li, h1, h3⟩⟩
    refine ⟨_, rfl, lr, rfl, ⟨_, SqL.of (g1 _ _ hlr)⟩, ?_⟩
    refine for_enum (xs := vs) (fun i σ H' => Same H1 H' ∧ (∃ b2 b3 b4 b5 : Option V, σ = [some (.ref lr), some (.ref l1), b2, b3, b4, b5]) ∧ ∀ k, k < i → ∀ j, Ed n G k j → Ib k j = true → ¬ Rch (Ed n G) j k)
      ⟨sameR, ⟨none, none, none, none, rfl⟩, fun k hk => absurd hk (Nat.not_lt_zero _)⟩ (fun i σ H' ⟨g, _⟩ => SqL.of (g _ _ (g1 _ _ hlr))) (fun i x σ H' T hx hinv hT => ?_) (fun σ H' hinv => ?_)
    · obtain ⟨g, ⟨b2, b3, b4, b5, rfl⟩, hno⟩ := hinv
      have hi := (List.getElem?_eq_some_iff.mp hx).1
      have hin : i < n := by omega
      obtain ⟨r, hr1, hrv, htr, h900⟩ := pair_get hrs hx
      have kT := same_new hT (.tup [.int (i : Int), x])
      have gT : Same H1 _ := fun b o h => kT _ _ (g b o h)
      obtain ⟨zs', hz1, hz2, hz3⟩ := hnx
      obtain ⟨li, hli1, hli2⟩ := hz3 i hin
      refine ⟨T, _, rfl, SqT.of upd_same, rfl, _, _, rfl, _, _, rfl, rfl, ?_⟩
      refine ⟨_, rfl, _, rfl, l1, _, _, _, rfl, rfl, SqL.of (gT _ _ hz1), atI_nat hli1, li, rfl, ⟨_, SqL.of (gT _ _ hli2)⟩, ?_⟩
      refine for_list (xs := intsV (nxt n G i)) (fun j σ H' => Same H1 H' ∧ (∃ b4 b5 : Option V, σ = [some (.ref lr), some (.ref l1), some (.int (i : Int)), some x, b4, b5]) ∧ ∀ y ∈ (nxt n G i).take j, Ib i y = true → ¬ Rch (Ed n G) y i)
        ⟨gT, ⟨_, _, rfl⟩, fun y hy => by simp at hy⟩ (fun j σ H' _ ⟨g, _⟩ => SqL.of (g _ _ hli2)) (fun j y σ Hy hy hinv2 => ?_) (fun σ Hy hinv2 => ?_)
      · obtain ⟨gy, ⟨b4, b5, rfl⟩, hno2⟩ := hinv2
        unfold intsV at hy
        rw [List.getElem?_map] at hy
        cases ej : (nxt n G i)[j]? with
        | none => rw [ej] at hy; cases hy
        | some v =>
          rw [ej] at hy
          cases hy
          have hv : Ed n G i v := (mem_nxt hin).mp (List.mem_of_getElem? ej)
          have hvn : v < vs.length := by rw [hnn]; exact hv.2.1
          have hxv := List.getElem?_eq_getElem hvn
          obtain ⟨o, ho1, hov, _, _⟩ := pair_get hrs hxv
          have gg : Same H Hy := fun b o h => gy _ _ (g1 _ _ h)
          refine ⟨_, rfl, _, rfl, _, rfl, lr, _, _, _, rfl, rfl, SqL.of (gg _ _ hlr), atI_nat hxv, x, vs[v], r.1, o.1, r.2.1, o.2.1, r.2.2, rfl, up gg hrv, up gg hov, htr, h900, fun H5 g5 => ⟨_, rfl, ?_⟩⟩
          have eb : r.2.2.any (intoB o.1) = Ib i v := by rw [← hI]; exact (relB_at hr1 ho1).symm
          rw [eb]
          have g15 : Same H1 H5 := fun b o h => g5 _ _ (gy _ _ h)
          have last : ∀ {H6 : Hp}, Same H1 H6 → ∀ b4 b5 : Option V, (Ib i v = true → ¬ Rch (Ed n G) v i) → Same H1 H6 ∧ (∃ c4 c5 : Option V, [some (.ref lr), some (.ref l1), some (.int (i : Int)), some x, b4, b5] = [some (.ref lr), some (.ref l1), some (.int (i : Int)), some x, c4, c5]) ∧ ∀ y ∈ (nxt n G i).take (j + 1), Ib i y = true → ¬ Rch (Ed n G) y i := fun {H6} g6 b4 b5 hh => by
            refine ⟨g6, ⟨b4, b5, rfl⟩, fun y hy => ?_⟩
            rw [take_snoc ej] at hy
            rcases List.mem_append.mp hy with z | z
            · exact hno2 y z
            · rw [List.mem_singleton.mp z]; exact hh
          refine ite2 (fun hb => ?_) (fun hb => last g15 _ _ fun h => absurd h hb)
          refine ⟨_, rfl, _, rfl, _, rfl, l1, n, v, i, G, rfl, NxV.same g15 ⟨zs', hz1, hz2, hz3⟩, hv.2.1, hin, by omega, fun H6 lw p g6 hlw hp c1 c2 c3 c4 c5 => ?_, fun H6 g6 hnr => ?_⟩
          · refine ⟨_, rfl, rfl, _, rfl, iteT ⟨_, rfl, ?_⟩⟩
            refine q1 H6 lw p (fun b o h => g6 _ _ (g15 _ _ (g1 _ _ h))) ?_ hp ⟨c1, c2, c5, v, i, c3, c4, hv, hb⟩
            cases e : H lw with
            | none => rfl
            | some o => rw [g15 _ _ (g1 _ _ e)] at hlw; cases hlw
          · exact ⟨_, rfl, rfl, _, rfl, iteF (last (fun b o h => g6 _ _ (g15 _ _ h)) _ _ fun _ => hnr)⟩
      · obtain ⟨gy, ⟨b4, b5, rfl⟩, hno2⟩ := hinv2
        refine ⟨gy, ⟨_, _, _, _, rfl⟩, fun k hk j hj hij => ?_⟩
        by_cases hki : k < i
        · exact hno k hki j hj hij
        · have : k = i := by omega
          subst this
          refine hno2 j ?_ hij
          rw [show (intsV (nxt n G k)).length = (nxt n G k).length by simp [intsV], List.take_length]
          exact (mem_nxt hin).mpr hj
    · obtain ⟨g, ⟨b2, b3, b4, b5, rfl⟩, hno⟩ := hinv
      exact q2 H' (fun b o h => g _ _ (g1 _ _ h)) fun i j hij hI' => hno i (by rw [hnn]; exact hij.1) j hij hI'
end
end Law

set_option Elab.async false
set_option linter.all false
set_option maxRecDepth 100000
set_option maxHeartbeats 4000000
namespace Law
open PySem L2 L2.Sp
section
variable {P : Program} {w : World} {K : PySem.W.Frag} {mg : Str → Option Value} {base : Heap} {f : Addr} {fd : FuncData}
theorem sl_tupAC {X : Cx} {scope : Scope} {N' : List Str} {C : Addr} {fp : List Addr} {s : Shared} {H : Hp} : SlR (compCx X scope N' C fp s H) (rSlA X.K) := sl_tupA
theorem op_eqSC {X : Cx} {scope : Scope} {N' : List Str} {C : Addr} {fp : List Addr} {s : Shared} {H : Hp} (hu : X.A.units + 64 < cLine) : OpR (compCx X scope N' C fp s H) (compareOp .Eq) (rEqS X.K) := op_eqS hu
def spSp (K : PySem.W.Frag) (fB : List Str → List Str → Bool) : Sp := fun args H Q _ => ∃ (ls b : Addr) (qs : List (List Str)) (o : List Str), args = [.ref ls, .ref b] ∧ PsV K H ls qs ∧ qs.length ≤ 100 ∧ SqT K H b (o.map V.str) ∧ ∀ H', Same H H' → Q (.bl (qs.any (fB o))) H'
abbrev sLLeans : Stmt := top 18
theorem scLLeans : FnScope ["_law_spoken_here", "_law_path_here", "_law_place", "_law_few"] ["_law_spoken_here", "_law_path_here"] (defScope sLLeans) := ⟨rfl, rfl, rfl, by decide +kernel, rfl, by decide +kernel, by decide +kernel⟩
theorem ok_lleans (F : Fun K "_law_leans" "_law_leans" sLLeans f fd) (m1 : mg "len" = none) (m2 : mg "min" = none) : FnOk P w K mg base CX0 1 f fd ["_law_spoken_here", "_law_path_here"] (spSp K leanB) := by
  refine F.ok scLLeans (fun vs H Q E h => ?_) (fun cdv A outer s H vs Q E hr h => ?_)
  · obtain ⟨ls, b, qs, o, rfl, _⟩ := h
    rfl
  obtain ⟨ls, b, qs, o, rfl, ⟨us, hls, hus, _⟩, h100, hb, q⟩ := h
  have hul := hus.length
  rw [List.length_map] at hul
  refine ⟨_, pss_cons (ps_for PassesOwn.never rfl (pi_list (pv 0)) (pg_name (i := 2) scLLeans.nd rfl (Or.inl rfl))
      (pss_cons (ps_set (i := 3) scLLeans.nd rfl (Or.inl rfl) (pe_callB (call_min2 rfl) rfl m2 bt_min (pa_cons (pe_callB call_len_seq rfl m1 PySem.boot_len (pa_cons (pv 2) pa_nil)) (pa_cons (pe_callB call_len_seq rfl m1 PySem.boot_len (pa_cons (pv 1) pa_nil)) pa_nil))))
      (pss_one (ps_if (pt_cmpR (op_eqS hr.units) (pe_slice sl_tupA (pv 2) po_none (po_some (pv 3))) (pe_slice sl_tupA (pv 1) po_none (po_some (pv 3))) (nomark _)) (pss_one (ps_ret pe_bl)) pss_nil))))
    (pss_one (ps_ret pe_bl)), ?_⟩
  refine ⟨_, rfl, ls, rfl, ⟨_, SqL.of hls⟩, ?_⟩
  refine for_list (xs := us) (fun i σ H' => Same H H' ∧ (∃ b2 b3 : Option V, σ = [some (.ref ls), some (.ref b), b2, b3]) ∧ (qs.take i).any (leanB o) = false) ⟨sameR, ⟨none, none, rfl⟩, by simp⟩ (fun i σ H' _ ⟨g, _⟩ => SqL.of (g _ _ hls)) (fun i x σ H' hx hinv => ?_) (fun σ H' hinv => ?_)
  · obtain ⟨g, ⟨b2, b3, rfl⟩, hno⟩ := hinv
    obtain ⟨p, a, eq, rfl, ha⟩ := all_get (α := Nat) hus hx
    refine ⟨_, rfl, a, _, rfl, .inr (g.seqT ha), _, rfl, b, _, rfl, .inr (g.seqT hb), _, _, rfl, ?_⟩
    obtain ⟨n, hn, en⟩ : ∃ n : Nat, n = min p.length o.length ∧ (if ((o.map V.str).length : Int) < ((p.map V.str).length : Int) then ((o.map V.str).length : Int) else ((p.map V.str).length : Int)) = (n : Int) := by
      refine ⟨_, rfl, ?_⟩
      rw [List.length_map, List.length_map]
      split <;> omega
    rw [en]
    refine ⟨_, rfl, _, rfl, _, rfl, a, _, rfl, g.seqT ha, fun p1 H1 g1 hp1 => ?_⟩
    refine ⟨_, rfl, _, rfl, _, rfl, b, _, rfl, g1.seqT (g.seqT hb), fun p2 H2 g2 hp2 => ?_⟩
    rw [cut_to] at hp1 hp2
    refine ⟨p1, p2, _, _, rfl, rfl, g2.seqT hp1, hp2, _, rfl, ?_⟩
    rw [lean_few o p hn]
    have g02 : Same H H2 := fun b o h => g2 _ _ (g1 _ _ (g _ _ h))
    refine ite2 (fun hl => ?_) (fun hl => ⟨g02, ⟨_, _, rfl⟩, ?_⟩)
    · have : qs.any (leanB o) = true := List.any_eq_true.mpr ⟨p, List.mem_of_getElem? eq, hl⟩
      have q' := q H2 g02
      rw [this] at q'
      exact q'
    · rw [take_snoc eq, List.any_append, hno]
      simp only [List.any_cons, List.any_nil, Bool.or_false, Bool.false_or]
      cases e : leanB o p with
      | true => exact absurd e hl
      | false => rfl
  · obtain ⟨g, ⟨b2, b3, rfl⟩, hno⟩ := hinv
    rw [hul, List.take_length] at hno
    have q' := q H' g
    rw [hno] at q'
    exact q'
abbrev sLInto : Stmt := top 19
theorem scLInto : FnScope ["_law_spoken_here", "_law_path_here"] ["_law_spoken_here", "_law_path_here"] (defScope sLInto) := ⟨rfl, rfl, rfl, by decide +kernel, rfl, by decide +kernel, by decide +kernel⟩
theorem nd_pp : (["_law_place", "_law_path_here"] : List Str).Nodup := by decide +kernel
theorem ok_linto (F : Fun K "_law_into" "_law_into" sLInto f fd) (m1 : mg "len" = none) (m2 : mg "any" = none) : FnOk P w K mg base CX0 1 f fd ["_law_spoken_here", "_law_path_here"] (spSp K intoB) := by
  refine F.ok scLInto (fun vs H Q E h => ?_) (fun cdv A outer s H vs Q E hr h => ?_)
  · obtain ⟨ls, b, qs, o, rfl, _⟩ := h
    rfl
  obtain ⟨ls, b, qs, o, rfl, ⟨us, hls, hus, _⟩, h100, hb, q⟩ := h
  have hul := hus.length
  rw [List.length_map] at hul
  refine ⟨_, pss_one (ps_ret (pe_callB (call_any_list rfl) rfl m2 bt_any (pa_cons (pe_comp (N' := ["_law_place", "_law_path_here"]) (fr := [none, some 1]) (own := [0]) ⟨rfl, rfl, rfl, rfl, rfl, rfl, rfl⟩ rfl (pi_list (pv 0))
      (fun _ _ _ _ => pg_name (i := 0) nd_pp rfl (Or.inl rfl)) (own_name 0) (fun _ _ _ _ => pts_nil)
      (fun _ _ _ _ => pe_and (pe_cmpR op_lt (pe_callB call_lenC rfl m1 PySem.boot_len (pa_cons (pv 0) pa_nil)) (pe_callB call_lenC rfl m1 PySem.boot_len (pa_cons (pv 1) pa_nil)) (nomark _)) (pe_one (pe_cmpR (op_eqSC hr.units) (pe_slice sl_tupAC (pv 1) po_none (po_some (pe_callB call_lenC rfl m1 PySem.boot_len (pa_cons (pv 0) pa_nil)))) (pv 0) (nomark _))))) pa_nil))), ?_⟩
  refine ⟨_, rfl, ls, rfl, ⟨_, SqL.of hls⟩, fun l2 hl2 => ?_⟩
  refine comp_boolsL (K := K) (xs := us) (qs.map (intoB o)) hl2 (SqL.of hls) (by simp [hul]) (by simp; omega) (fun i x bb ys H' N hx hbb g fin => ?_) (fun H' g hL => ?_)
  · obtain ⟨qq, aq, eq, rfl, haq⟩ := all_get (α := Nat) hus hx
    rw [List.getElem?_map, eq] at hbb
    cases hbb
    dsimp only [CTurn, gName]
    refine yesT ⟨_, rfl, aq, _, rfl, .inr (g.seqT haq), _, rfl, b, _, rfl, .inr (g.seqT hb), _, _, rfl, rfl, _, rfl, ?_⟩
    rw [List.length_map, List.length_map, dec_lt]
    cases e : decide (qq.length < o.length) with
    | true =>
      have e2 : intoB o qq = begB qq o := by unfold intoB; rw [e]; rfl
      rw [e2] at fin
      refine iteT ⟨_, rfl, _, rfl, aq, _, rfl, .inr (g.seqT haq), _, rfl, b, _, rfl, g.seqT hb, fun p1 H1 g1 hp => ?_⟩
      rw [List.length_map, cut_to] at hp
      exact ⟨_, rfl, p1, aq, o.take qq.length, qq, rfl, rfl, hp, g1.seqT (g.seqT haq), fin _ g1⟩
    | false =>
      have e2 : intoB o qq = false := by unfold intoB; rw [e]; rfl
      rw [e2] at fin
      exact iteF (fin _ sameR)
  · refine ⟨l2, _, rfl, hL, ?_⟩
    have e : (qs.map (intoB o)).any id = qs.any (intoB o) := by rw [List.any_map]; rfl
    rw [e]
    exact q _ g
end
end Law

set_option Elab.async false
set_option linter.all false
set_option maxRecDepth 100000
set_option maxHeartbeats 4000000
namespace Law
open PySem L2 L2.Sp
section
variable {P : Program} {w : World} {K : PySem.W.Frag} {mg : Str → Option Value} {base : Heap} {f : Addr} {fd : FuncData}
abbrev sRow : Stmt := top 17
theorem scRow : FnScope ["_law_cell", "_law_names_here", "_law_few", "_law_wide", "_law_xs", "_law_path_here", "_law_trees", "_law_spoken_here", "_law_k", "_law_places"] ["_law_cell", "_law_names_here", "_law_few", "_law_wide"] (defScope sRow) := ⟨rfl, rfl, rfl, by decide +kernel, rfl, by decide +kernel, by decide +kernel⟩
theorem nd_pnxk : (["_law_place", "_law_names_here", "_law_xs", "_law_k"] : List Str).Nodup := by decide +kernel
theorem op_catTAC {X : Cx} {scope : Scope} {N' : List Str} {C : Addr} {fp : List Addr} {s : Shared} {H : Hp} : OpR (compCx X scope N' C fp s H) (binaryOp .Add) (rCatTA X.K) := op_catTA
def RowV (K : PySem.W.Frag) (H : Hp) (v : V) (ls : Addr) (r : RG) (qs : List (List Str)) : Prop := ∃ (t : Addr) (x : V), v = .ref t ∧ SqT K H t [x, .ref ls] ∧ RgV K H x r ∧ PsV K H ls qs ∧ (∀ p, p ∈ r.2.2 ↔ p ∈ qs) ∧ qs.length ≤ 9
def spRow (K : PySem.W.Frag) : Sp := fun args H Q _ => ∃ (c : Int) (a : Addr) (ts : List Str) (few wide : Bool), args = [.int c, .ref a, .bl few, .bl wide] ∧ NmV K H a ts ∧ ∀ (H' : Hp) (v : V) (ls : Addr) (r : RG) (qs : List (List Str)), Same H H' → H ls = none → RowV K H' v ls r qs → Q v H'
theorem dv_texts {H : Hp} {ws : List Str} {v : V} (h : DV K H (pD ws) v) : ∀ t ∈ ws, t.length ≤ 1000 := by
  simp only [pD, DV] at h
  obtain ⟨a, ys, _, _, hall, _⟩ := h
  have gen : ∀ {ws : List Str} {ys : List V}, DAll K H (ws.map D.str) ys → ∀ t ∈ ws, t.length ≤ 1000 := by
    intro ws
    induction ws with
    | nil => intro ys _ t ht; cases ht
    | cons w ws ih =>
      intro ys h t ht
      simp only [List.map_cons, DAll, DV] at h
      obtain ⟨y, r, _, ⟨_, hl⟩, h2⟩ := h
      rcases List.mem_cons.mp ht with e | ht
      · rw [e]; exact hl
      · exact ih h2 t ht
  exact gen hall
def PhK (K : PySem.W.Frag) (H : Hp) (p : Addr) (ws : List Str) : Prop := SqT K H p (ws.map V.str) ∧ ws.length ≤ 5 ∧ ∀ t ∈ ws, t.length ≤ 1000
theorem PhK.dv {H : Hp} {p : Addr} {ws : List Str} (h : PhK K H p ws) : DV K H (pD ws) (.ref p) := dv_pD h.1 (by have := h.2.1; omega) h.2.2
/-- (x,) + t -/
theorem cat_one {H : Hp} {t c : Addr} {x : V} {vs : List V} {Q : VK} (h1 : SqT K H t [x]) (h2 : SqT K H c vs) (hz : vs.length ≤ 100) (q : ∀ H' p, Same H H' → SqT K H' p ([x] ++ vs) → Q (.ref p) H') : rCatTA K (.ref t) (.ref c) H Q :=
  ⟨t, c, [x], vs, rfl, rfl, h1, h2, small_le (by simp; omega), (fun e => by cases e), (fun _ e => q H t sameR (by rw [e, List.append_nil]; exact h1)), fun _ _ p hp => q _ p (same_new hp _) (SqT.of upd_same)⟩
theorem ok_row (F : Fun K "_law_row" "_law_row" sRow f fd) (M : Cal P w K mg base 1 "_law_mixed" ["_law_cell", "_law_many"] spMixed) (Sk : Cal P w K mg base 3 "_law_spoken" ["_law_xs", "_law_names_here"] (spSpoken K)) (Wi : Cal P w K mg base 4 "_law_tree_with" ["_law_x", "_law_spoken_here", "_law_names_here"] (spWith K)) (m1 : mg "tuple" = none) (m2 : mg "range" = none) :
    FnOk P w K mg base CX0 5 f fd ["_law_cell", "_law_names_here", "_law_few", "_law_wide"] (spRow K) := by
  refine F.ok scRow (fun vs H Q E h => ?_) (fun cdv A outer s H vs Q E hr h => ?_)
  · obtain ⟨c, a, ts, few, wide, rfl, _⟩ := h
    rfl
  obtain ⟨c, a, ts, few, wide, rfl, ⟨hq, h3, h40⟩, q⟩ := h
  have hr1 := hr.mono (show 1 ≤ 4 by decide)
  have hr3 := hr.mono (show 3 ≤ 4 by decide)
  refine ⟨_, pss_cons (ps_set (i := 4) scRow.nd rfl (Or.inr rfl) (pe_cal M hr1 rfl (pa_cons (pv 0) (pa_cons pe_int pa_nil))))
    (pss_cut (ps_set (i := 5) scRow.nd rfl (Or.inl rfl) (pe_callTy call_tuple_of rfl m1 bt_tuple (pa_cons (pe_comp (N' := ["_law_x", "_law_names_here"]) (fr := [none, some 1]) (own := [0]) ⟨rfl, rfl, rfl, rfl, rfl, rfl, rfl⟩ rfl
      (pi_list (pe_slice sl_list (pv 4) (po_some pe_int) (po_some (pe_op op_add pe_int (pe_op op_mod (pe_ix ix_list (pv 4) pe_int (fun _ _ => rfl)) pe_int)))))
      (fun _ _ _ _ => pg_name (i := 0) nd_xn rfl (Or.inl rfl)) (own_name 0) (fun _ _ _ _ => pts_nil) (fun _ _ _ _ => pe_ix ix_listC (pv 1) (pe_op op_mod (pv 0) pe_int) (fun _ _ => rfl))) pa_nil)))
    (pss_cut (ps_if (pt_val (pv 3)) (pss_one (ps_set (i := 5) scRow.nd rfl (Or.inl rfl) (pe_op op_catTA (pe_tup (pa_cons (pe_op op_mul_str (pe_ix ix_list (pv 1) pe_int (fun _ _ => rfl)) (pe_op op_add pe_int (pe_op op_mod (pe_ix ix_list (pv 4) pe_int (fun _ _ => rfl)) pe_int))) pa_nil)) (pe_slice sl_tupA (pv 5) po_none (po_some pe_int))))) pss_nil)
    (pss_cons (ps_set (i := 6) scRow.nd rfl (Or.inl rfl) (pe_lst pa_nil))
    (pss_cons (ps_set (i := 7) scRow.nd rfl (Or.inl rfl) (pe_lst pa_nil))
    (pss_cons (ps_for PassesOwn.never rfl (pi_range1 rfl m2 (pa_cons (pe_op op_add pe_int (pe_op op_mod (pe_ix ix_list (pv 4) pe_int (fun _ _ => rfl)) pe_int)) pa_nil)) (pg_name (i := 8) scRow.nd rfl (Or.inr rfl))
      (pss_cut (ps_set (i := 9) scRow.nd rfl (Or.inl rfl) (pe_slice sl_list (pe_cal Sk hr3 rfl (pa_cons (pe_slice sl_list (pv 4) (po_some (pe_op op_add pe_int (pe_op op_mul pe_int (pv 8)))) (po_some (pe_op op_add pe_int (pe_op op_mul pe_int (pv 8))))) (pa_cons (pv 1) pa_nil))) po_none (po_some pe_int)))
      (pss_cut (ps_if (PW.pt (pw_and (pt_val (pv 2)) (pw_and1 (pt_cmpR op_gt (pe_op op_mod (pe_ix ix_list (pv 4) pe_int (fun _ _ => rfl)) pe_int) pe_int (nomark _))))) (pss_one (ps_set (i := 9) scRow.nd rfl (Or.inl rfl) (pe_lst pa_nil))) pss_nil)
      (pss_cut (ps_if (pt_val (pv 3)) (pss_one (ps_comp (i := 9) (N' := ["_law_place", "_law_names_here", "_law_xs", "_law_k"]) (fr := [none, some 1, some 4, some 8]) (own := [0]) ⟨rfl, rfl, rfl, rfl, rfl, rfl, rfl⟩ rfl scRow.nd rfl rfl (pi_list (pv 9))
          (fun _ _ _ _ => pg_name (i := 0) nd_pnxk rfl (Or.inl rfl)) (own_name 0) (fun _ _ _ _ => pts_nil)
          (fun _ _ _ _ => pe_op op_catTAC (pe_tup (pa_cons (pe_op op_mul_str (pe_ix ix_listC (pv 1) pe_int (fun _ _ => rfl)) (pe_op op_add pe_int (pe_op op_mod (pe_op op_fdiv (pe_ix ix_listC (pv 2) pe_int (fun _ _ => rfl)) (pe_op op_add (pv 3) pe_int)) pe_int))) pa_nil)) (pv 0)))) pss_nil)
      (pss_cons (ps_expr (pe_bm PySem.F.plainAttrs_list PySem.F.slot_list_append PySem.F.type_list_append mt_append (pv 6) (pa_cons (pe_cal Wi hr rfl (pa_cons (pe_op op_fdiv (pe_ix ix_list (pv 4) pe_int (fun _ _ => rfl)) (pe_op op_add (pv 8) pe_int)) (pa_cons (pv 9) (pa_cons (pv 1) pa_nil)))) pa_nil)))
      (pss_one (ps_expr (pe_bm PySem.F.plainAttrs_list PySem.F.slot_list_extend PySem.F.type_list_extend mt_extend (pv 7) (pa_cons (pv 9) pa_nil)))))))))
    (pss_one (ps_ret (pe_tup (pa_cons (pe_tup (pa_cons (pv 5) (pa_cons (pe_callTy call_tuple_of rfl m1 bt_tuple (pa_cons (pv 6) pa_nil)) pa_nil))) (pa_cons (pv 7) pa_nil)))))))))), ?_⟩
  refine ⟨_, rfl, c, 16, rfl, by decide, fun H1 lx ns g1 hlx hlen hns => ?_⟩
  have at16 : ∀ j : Nat, j < 16 → ∃ n, atI (ns.map V.int) (j : Int) = some (.int n) := fun j hj => ⟨_, atI_nat (by rw [List.getElem?_map, List.getElem?_eq_getElem (show j < ns.length by omega)]; rfl)⟩
  obtain ⟨n0, e0⟩ := at16 0 (by decide)
  obtain ⟨n5, e5⟩ := at16 5 (by decide)
  obtain ⟨n6, e6⟩ := at16 6 (by decide)
  obtain ⟨n14, e14⟩ := at16 14 (by decide)
  obtain ⟨n15, e15⟩ := at16 15 (by decide)
  have hn0 := nm_at h3 0
  have hm0 : ∀ (n : Int), 1 ≤ n → n ≤ 3 → (Txt.mul (nmAt ts 0) n).length ≤ 120 := fun n h1 h2 => Nat.le_trans (PyProof.Rows.len_mul_leN (L := 40) (N := 3) (h40 _ hn0.2) (by omega)) (by decide)
  have hn0' : atI (ts.map V.str) 0 = some (.str (nmAt ts 0)) := hn0.1
  have h40' := h40 _ hn0.2
  refine ⟨fun σ' H' => ∃ (p : Addr) (rp : List Str), σ' = [some (.int c), some (.ref a), some (.bl few), some (.bl wide), some (.ref lx), some (.ref p), none, none, none, none] ∧ Same H1 H' ∧ PhK K H' p rp ∧ rp.length ≤ 4, ?_, ?_⟩
  · obtain ⟨r, hr4, er⟩ := md (n := n0) (k := 4) (by decide)
    have er : n0 % 4 = (r : Int) := er
    refine ⟨_, rfl, _, rfl, _, rfl, lx, _, _, _, rfl, rfl, SqL.of hlx, e0, _, _, rfl, rfl, (by show (0 : Int) < 4; decide), _, _, rfl, rfl, _, rfl, lx, _, rfl, SqL.of hlx, fun l5 hl5 => ?_⟩
    have ec : cutV (ns.map V.int) (some 1) (some (2 + n0 % 4)) = ((ns.drop 1).take (2 + r - 1)).map V.int := by
      have h := cut_between V.int ns 1 (2 + r)
      have e : ((2 + r : Nat) : Int) = 2 + n0 % 4 := by omega
      rw [e] at h
      exact h
    rw [ec]
    generalize hys : (ns.drop 1).take (2 + r - 1) = ys
    have yl : ys.length ≤ 4 := by rw [← hys, List.length_take]; omega
    have k5 := same_new hl5 (.lst (ys.map V.int))
    refine ⟨l5, rfl, ⟨_, SqL.of upd_same⟩, fun l6 hl6 => ?_⟩
    refine comp_valsL (xs := ys.map V.int) (ys.map fun y => V.str (nmAt ts y)) hl6 (SqL.of upd_same) (by simp) (by simp; omega) (fun i x b zs H' N hx hb g fin => ?_) (fun H' g hL => ?_)
    · rw [List.getElem?_map] at hx hb
      cases e : ys[i]? with
      | none => rw [e] at hx; cases hx
      | some y =>
        rw [e] at hx hb
        cases hx
        cases hb
        dsimp only [CTurn, gName]
        exact yesT ⟨_, rfl, _, rfl, _, _, rfl, rfl, (by show (0 : Int) < 3; decide), a, _, _, _, rfl, rfl, g.seq (k5.seq (g1.seq hq)), (nm_at h3 y).1, fin _ sameR⟩
    · refine ⟨l6, _, rfl, .inl ⟨SqL.of hL, fun p hp => ?_⟩⟩
      have k6 := same_new hp (.tup (ys.map fun y => V.str (nmAt ts y)))
      have ew : (ys.map fun y => V.str (nmAt ts y)) = (ys.map (nmAt ts)).map V.str := by rw [List.map_map]; rfl
      refine ⟨p, ys.map (nmAt ts), rfl, fun b o h => k6 _ _ (g _ _ (k5 _ _ h)), ⟨SqT.of (by rw [← ew]; exact upd_same), by simp; omega, fun t ht => ?_⟩, by simp; omega⟩
      obtain ⟨y, _, rfl⟩ := List.mem_map.mp ht
      have := h40 _ (nm_at h3 y).2
      omega
  rintro σ1 Ha ⟨p, rp, rfl, ga, hp, hp4⟩
  have hxa := ga _ _ hlx
  have gHa : Same H Ha := fun b o h => ga _ _ (g1 _ _ h)
  refine ⟨fun σ' H' => ∃ (p : Addr) (rp : List Str), σ' = [some (.int c), some (.ref a), some (.bl few), some (.bl wide), some (.ref lx), some (.ref p), none, none, none, none] ∧ Same H1 H' ∧ PhK K H' p rp, ?_, ?_⟩
  · refine ⟨_, rfl, _, rfl, ite2 (fun _ => ?_) (fun _ => ⟨p, rp, rfl, ga, hp⟩)⟩
    have w0 := Int.emod_nonneg n5 (show (3 : Int) ≠ 0 by decide)
    have w1 := Int.emod_lt_of_pos n5 (show (0 : Int) < 3 by decide)
    refine ⟨_, rfl, a, _, _, _, rfl, rfl, gHa.seq hq, hn0', _, rfl, lx, _, _, _, rfl, rfl, SqL.of hxa, e5, _, _, rfl, rfl, (by show (0 : Int) < 3; decide), _, _, rfl, rfl, _, _, rfl, rfl, by omega, by omega, by omega, len1, fun t ht => ?_⟩
    have kt := same_new ht (.tup [.str (Txt.mul (nmAt ts 0) (1 + n5 % 3))])
    refine ⟨_, rfl, _, rfl, p, _, rfl, kt.seqT hp.1, fun p2 H4 g4 hp2 => ?_⟩
    have hp2 : SqT K H4 p2 ((rp.take 3).map V.str) := by
      have e : cutV (rp.map V.str) none (some 3) = (rp.take 3).map V.str := cut_to V.str rp 3
      rw [e] at hp2
      exact hp2
    refine cat_one (g4.seqT (SqT.of upd_same)) hp2 (by simp; omega) fun H5 p5 g5 hp5 => ?_
    refine ⟨p5, Txt.mul (nmAt ts 0) (1 + n5 % 3) :: rp.take 3, rfl, fun b o h => g5 _ _ (g4 _ _ (kt _ _ (ga _ _ h))), hp5, by simp; omega, fun u hu => ?_⟩
    rcases List.mem_cons.mp hu with e | hu
    · rw [e]; have := hm0 (1 + n5 % 3) (by omega) (by omega); omega
    · exact hp.2.2 u (List.mem_of_mem_take hu)
  rintro σ2 H2 ⟨p, rp, rfl, g2, hp⟩
  have g02 : Same H H2 := fun b o h => g2 _ _ (g1 _ _ h)
  have hlx2 := g2 _ _ hlx
  refine ⟨len0, fun lt hlt => ?_⟩
  refine ⟨len0, fun lp hlp => ?_⟩
  have k1 := same_new hlt (.lst [])
  have k2 := same_new hlp (.lst [])
  have ntp : lt ≠ lp := ne_of_none upd_same hlp
  have hlp2 : H2 lp = none := by
    cases e : H2 lp with
    | none => rfl
    | some o => rw [k1 _ _ e] at hlp; cases hlp
  obtain ⟨r, hr2', er⟩ := md (n := n6) (k := 2) (by decide)
  have er : n6 % 2 = (r : Int) := er
  refine ⟨_, rfl, lx, _, _, _, rfl, rfl, SqL.of (k2 _ _ (k1 _ _ hlx2)), e6, _, _, rfl, rfl, (by show (0 : Int) < 2; decide), _, _, rfl, rfl, _, rfl, by omega, by omega, ?_⟩
  refine for_range (fun i σ H' => ∃ (vs us : List V) (ds : List D) (ps qs : List (List Str)) (b1 b2 : Option V), σ = [some (.int c), some (.ref a), some (.bl few), some (.bl wide), some (.ref lx), some (.ref p), some (.ref lt), some (.ref lp), b1, b2] ∧ Same H2 H' ∧ H' lt = some (.lst vs) ∧ H' lp = some (.lst us) ∧ DAll K H' ds vs ∧ DAll K H' (qs.map pD) us ∧ Trs ds ps ∧ (∀ p, p ∈ ps ↔ p ∈ qs) ∧ nL ds ≤ 150 * i ∧ ds.length = i ∧ qs.length ≤ 3 * i ∧ ∀ q ∈ qs, q.length ≤ 5)
    ⟨[], [], [], [], [], none, none, rfl, fun b o h => k2 _ _ (k1 _ _ h), k2 _ _ upd_same, upd_same, da0, da0, .nil, fun p => Iff.rfl, by simp [nL], rfl, by simp, fun q hq => by cases hq⟩ (fun i σ H' hi hinv => ?_) (fun σ H' hinv => ?_)
  · obtain ⟨vs, us, ds, ps, qs, b1, b2, rfl, g, hvt, hup, hds, hqs, htr, hmem, hn, hdl, hql, hq4⟩ := hinv
    have hi3 : i ≤ 1 := by omega
    have hlx3 := g _ _ hlx2
    have gHH : Same H H' := fun b o h => g _ _ (g02 _ _ h)
    -- the places
    refine ⟨fun σ' H3 => ∃ (lq : Addr) (qs2 : List (List Str)), σ' = [some (.int c), some (.ref a), some (.bl few), some (.bl wide), some (.ref lx), some (.ref p), some (.ref lt), some (.ref lp), some (.int (0 + (i : Int))), some (.ref lq)] ∧ Same H' H3 ∧ H' lq = none ∧ PsV K H3 lq qs2 ∧ qs2.length ≤ 3 ∧ ∀ q ∈ qs2, q.length ≤ 4, ?_, ?_⟩
    · refine ⟨_, rfl, _, rfl, _, _, rfl, rfl, .inl ⟨by decide, by decide⟩, _, _, rfl, rfl, _, rfl, _, rfl, _, _, rfl, rfl, .inl ⟨by decide, by decide⟩, _, _, rfl, rfl, _, rfl, lx, _, rfl, SqL.of hlx3, fun l1 hl1 => ?_⟩
      have ec : cutV (ns.map V.int) (some (7 + 4 * (0 + (i : Int)))) (some (10 + 4 * (0 + (i : Int)))) = ((ns.drop (7 + 4 * i)).take (10 + 4 * i - (7 + 4 * i))).map V.int := by
        have h := cut_between V.int ns (7 + 4 * i) (10 + 4 * i)
        have e1 : ((7 + 4 * i : Nat) : Int) = 7 + 4 * (0 + (i : Int)) := by omega
        have e2 : ((10 + 4 * i : Nat) : Int) = 10 + 4 * (0 + (i : Int)) := by omega
        rw [e1, e2] at h
        exact h
      have k3 := same_new hl1 (.lst (cutV (ns.map V.int) (some (7 + 4 * (0 + (i : Int)))) (some (10 + 4 * (0 + (i : Int))))))
      refine ⟨_, rfl, l1, a, (ns.drop (7 + 4 * i)).take (10 + 4 * i - (7 + 4 * i)), ts, rfl, SqL.of (by rw [← ec]; exact upd_same), by rw [List.length_take, List.length_drop]; omega, ⟨k3.seq (gHH.seq hq), h3, h40⟩, fun H4 lq qs2 g4 hlq0 hps hq3 hq44 => ?_⟩
      obtain ⟨us2, hus2, hqs2, _⟩ := hps
      refine ⟨_, rfl, lq, us2, rfl, SqL.of hus2, fun l5 hl5 => ?_⟩
      have g34 : Same H' H4 := fun b o h => g4 _ _ (k3 _ _ h)
      have k5 := same_new hl5 (.lst (cutV us2 none (some 2)))
      refine ⟨l5, qs2.take 2, rfl, fun b o h => k5 _ _ (g34 _ _ h), ?_, ⟨us2.take 2, by rw [upd_same]; exact congrArg some (congrArg HO.lst (cut_V us2 2)), ?_, fun q hq => ?_⟩, by rw [List.length_take]; omega, fun q hq => hq44 q (List.mem_of_mem_take hq)⟩
      · cases e : H' l5 with
        | none => rfl
        | some o => rw [g34 _ _ e] at hl5; cases hl5
      · rw [List.map_take]
        exact DAll.take 2 (DAll.mono (DKeep.same k5) _ _ hqs2)
      · have := hq44 q (List.mem_of_mem_take hq); omega
    rintro σ3 H3 ⟨lq, qs2, rfl, g3, hlq0, hps, hq3, hq44⟩
    refine ⟨fun σ' H4 => ∃ (lq : Addr) (qs2 : List (List Str)), σ' = [some (.int c), some (.ref a), some (.bl few), some (.bl wide), some (.ref lx), some (.ref p), some (.ref lt), some (.ref lp), some (.int (0 + (i : Int))), some (.ref lq)] ∧ Same H' H4 ∧ H' lq = none ∧ PsV K H4 lq qs2 ∧ qs2.length ≤ 3 ∧ ∀ q ∈ qs2, q.length ≤ 4, ?_, ?_⟩
    · cases few with
      | false => exact ⟨_, rfl, _, rfl, iteF (iteF ⟨lq, qs2, rfl, g3, hlq0, hps, hq3, hq44⟩)⟩
      | true =>
        refine ⟨_, rfl, _, rfl, iteT ⟨_, rfl, lx, _, _, _, rfl, rfl, SqL.of (g3 _ _ hlx3), e15, _, _, rfl, rfl, (by show (0 : Int) < 4; decide), _, _, rfl, rfl, _, rfl, ite2 (fun _ => ⟨len0, fun l0 hl0 => ?_⟩) (fun _ => ⟨lq, qs2, rfl, g3, hlq0, hps, hq3, hq44⟩)⟩⟩
        have k0 := same_new hl0 (.lst [])
        refine ⟨l0, [], rfl, fun b o h => k0 _ _ (g3 _ _ h), ?_, ⟨[], upd_same, da0, fun q hq => by cases hq⟩, by simp, fun q hq => by cases hq⟩
        cases e : H' l0 with
        | none => rfl
        | some o => rw [g3 _ _ e] at hl0; cases hl0
    clear g3 hlq0 hps hq3 hq44
    rintro σ4 H4 ⟨lq, qs2, rfl, g4, hlq0, hps, hq3, hq44⟩
    refine ⟨fun σ' H5 => ∃ (lq : Addr) (qs2 : List (List Str)), σ' = [some (.int c), some (.ref a), some (.bl few), some (.bl wide), some (.ref lx), some (.ref p), some (.ref lt), some (.ref lp), some (.int (0 + (i : Int))), some (.ref lq)] ∧ Same H' H5 ∧ H' lq = none ∧ PsV K H5 lq qs2 ∧ qs2.length ≤ 3, ?_, ?_⟩
    · refine ⟨_, rfl, _, rfl, ite2 (fun _ => ?_) (fun _ => ⟨lq, qs2, rfl, g4, hlq0, hps, hq3⟩)⟩
      obtain ⟨us2, hus2, hqs2, _⟩ := hps
      have hul2 := hqs2.length
      rw [List.length_map] at hul2
      refine ⟨_, rfl, lq, rfl, ⟨_, SqL.of hus2⟩, fun l7 hl7 => ?_⟩
      have hl7H : H' l7 = none := by
        cases e : H' l7 with
        | none => rfl
        | some o => rw [g4 _ _ e] at hl7; cases hl7
      refine comp_list (xs := us2) (fun j zs H5 => ∃ ws : List (List Str), Same H4 H5 ∧ H5 l7 = some (.lst zs) ∧ DAll K H5 (ws.map pD) zs ∧ ws.length = j ∧ ∀ q ∈ ws, q.length ≤ 5)
        ⟨[], same_new hl7 _, upd_same, da0, rfl, fun q hq => by cases hq⟩ (fun j zs H5 _ ⟨_, g, _⟩ => SqL.of (g _ _ hus2)) (fun j x zs H5 hx hinv => ?_) (fun zs H5 hinv => ?_)
      · obtain ⟨ws, g5, hl5, hall, hwl, hw5⟩ := hinv
        obtain ⟨dq, hd1, hd2⟩ := hqs2.get hx
        rw [List.getElem?_map] at hd1
        cases eq : qs2[j]? with
        | none => rw [eq] at hd1; cases hd1
        | some qq =>
          rw [eq] at hd1
          cases hd1
          obtain ⟨aq, rfl, haq, _⟩ := dv_path hd2
          have htx := dv_texts hd2
          have hq4' := hq44 qq (List.mem_of_getElem? eq)
          have hjl := (List.getElem?_eq_some_iff.mp hx).1
          have hzl := hall.length
          rw [List.length_map] at hzl
          have gg : Same H' H5 := fun b o h => g5 _ _ (g4 _ _ h)
          have w0 := Int.emod_nonneg (n14 / (0 + (i : Int) + 1)) (show (3 : Int) ≠ 0 by decide)
          have w1 := Int.emod_lt_of_pos (n14 / (0 + (i : Int) + 1)) (show (0 : Int) < 3 by decide)
          dsimp only [CTurn, gName]
          refine yesT ⟨_, rfl, a, _, _, _, rfl, rfl, gg.seq (gHH.seq hq), hn0', _, rfl, lx, _, _, _, rfl, rfl, SqL.of (gg _ _ hlx3), e14, _, rfl, _, _, rfl, rfl, _, _, rfl, rfl, ⟨by omega, by omega⟩, _, _, rfl, rfl, (by show (0 : Int) < 3; decide), _, _, rfl, rfl, _, _, rfl, rfl, by omega, by omega, by omega, len1, fun t ht => ?_⟩
          have kt := same_new ht (.tup [.str (Txt.mul (nmAt ts 0) (1 + n14 / (0 + (i : Int) + 1) % 3))])
          refine ⟨_, rfl, ?_⟩
          refine cat_one (SqT.of upd_same) (kt.seqT (g5.seqT haq)) (by simp; omega) fun H6 p6 g6 hp6 => ?_
          have hl6 := g6 _ _ (kt _ _ hl5)
          have k56 : Same H5 H6 := fun b o h => g6 _ _ (kt _ _ h)
          have kp : DKeep K H6 (upd H6 l7 (.lst (zs ++ [.ref p6]))) := DKeep.put hl6
          have hd6 : DV K H6 (pD (Txt.mul (nmAt ts 0) (1 + n14 / (0 + (i : Int) + 1) % 3) :: qq)) (.ref p6) := dv_pD hp6 (by simp; omega) fun u hu => by
            rcases List.mem_cons.mp hu with e | hu
            · rw [e]; have := hm0 (1 + n14 / (0 + (i : Int) + 1) % 3) (by omega) (by omega); omega
            · exact htx u hu
          refine ⟨hl6, sz_of (by omega), ws ++ [Txt.mul (nmAt ts 0) (1 + n14 / (0 + (i : Int) + 1) % 3) :: qq], fun b o h => by rw [upd_ne (ne_of_none h hl7)]; exact k56 _ _ (g5 _ _ h), upd_same, ?_, by rw [List.length_append, hwl]; rfl, fun q hq => ?_⟩
          · rw [List.map_append]
            exact DAll.snoc (DAll.mono ((DKeep.same k56).trans kp) _ _ hall) (DV.mono kp _ _ hd6)
          · rcases List.mem_append.mp hq with z | z
            · exact hw5 q z
            · rw [List.mem_singleton.mp z]; simp; omega
      · obtain ⟨ws, g5, hl5, hall, hwl, hw5⟩ := hinv
        exact ⟨l7, ws, rfl, fun b o h => g5 _ _ (g4 _ _ h), hl7H, ⟨zs, hl5, hall, hw5⟩, by omega⟩
    clear g4 hlq0 hps hq3 hq44
    rintro σ5 H4 ⟨lq, qs2, rfl, g34, hlqH, hps, hq3⟩
    refine ⟨_, rfl, .inl ⟨rfl, _, SqL.of (g34 _ _ hvt)⟩, _, rfl, lx, _, _, _, rfl, rfl, SqL.of (g34 _ _ hlx3), e15, _, rfl, _, _, rfl, rfl, _, _, rfl, rfl, ⟨by omega, by omega⟩, _, rfl, _, rfl, _, lq, a, qs2, ts, rfl, hps, hq3, ⟨g34.seq (gHH.seq hq), h3, h40⟩, fun H5 v d px g5 hv tr hm hz => ?_⟩
    have g35 : Same H' H5 := fun b o h => g5 _ _ (g34 _ _ h)
    have hvt5 := g35 _ _ hvt
    have hup5 := g35 _ _ hup
    obtain ⟨us2, hus2, hqs2, hq42⟩ := hps
    have hus5 := g5 _ _ hus2
    have hqs5 := DAll.mono (DKeep.same (K := K) g5) _ _ hqs2
    have l1 := hds.length
    have l2 := hqs.length
    have l3 := hqs2.length
    rw [List.length_map] at l2 l3
    have nqt : lq ≠ lt := fun e => by rw [e, hvt] at hlqH; cases hlqH
    have nqp : lq ≠ lp := fun e => by rw [e, hup] at hlqH; cases hlqH
    refine ⟨lt, _, _, rfl, rfl, hvt5, sz_of (by omega), ?_⟩
    have kt : DKeep K H5 (upd H5 lt (.lst (vs ++ [v]))) := DKeep.put hvt5
    have hup6 : upd H5 lt (.lst (vs ++ [v])) lp = some (.lst us) := by rw [upd_ne (Ne.symm ntp)]; exact hup5
    refine ⟨_, rfl, .inl ⟨rfl, _, SqL.of hup6⟩, _, rfl, lp, lq, us, us2, rfl, rfl, hup6, by rw [upd_ne nqt]; exact hus5, small_le (by omega), ?_⟩
    have kp : DKeep K (upd H5 lt (.lst (vs ++ [v]))) (upd (upd H5 lt (.lst (vs ++ [v]))) lp (.lst (us ++ us2))) := DKeep.put hup6
    have kk := kt.trans kp
    have k5 := (DKeep.same (K := K) g35).trans kk
    refine ⟨vs ++ [v], us ++ us2, ds ++ [d], ps ++ px, qs ++ qs2, _, _, rfl, fun b o h => ?_, by rw [upd_ne ntp]; exact upd_same, upd_same, DAll.snoc (DAll.mono k5 _ _ hds) (DV.mono kk _ _ hv), ?_, htr.append (Trs.one tr), fun p => ?_, ?_, by rw [List.length_append, hdl]; rfl, by rw [List.length_append]; omega, fun q hq => ?_⟩
    · rw [upd_ne (ne_of_none h hlp2), upd_ne (ne_of_none h hlt)]
      exact g35 _ _ (g _ _ h)
    · rw [List.map_append]
      exact DAll.append (DAll.mono k5 _ _ hqs) (DAll.mono kk _ _ hqs5)
    · rw [List.mem_append, List.mem_append, hmem p, hm p]
    · rw [nL_append]
      simp only [nL]
      omega
    · rcases List.mem_append.mp hq with z | z
      · exact hq4 q z
      · exact hq42 q z
  · obtain ⟨vs, us, ds, ps, qs, b1, b2, rfl, g, hvt, hup, hds, hqs, htr, hmem, hn, hdl, hql, hq4⟩ := hinv
    have hi3 : ds.length ≤ 2 := by omega
    refine ⟨_, rfl, _, rfl, lt, vs, rfl, .inl ⟨SqL.of hvt, fun p1 hp1 => ⟨len2, fun p2 hp2 => ⟨_, rfl, len2, fun p3 hp3 => ?_⟩⟩⟩⟩
    have m1 := same_new hp1 (.tup vs)
    have m2 := same_new hp2 (.tup [.ref p, .ref p1])
    have m3 := same_new hp3 (.tup [.ref p2, .ref lp])
    have mm : Same H' _ := fun b o h => m3 _ _ (m2 _ _ (m1 _ _ h))
    refine q _ _ lp (rp, ds, ps) qs (fun b o h => mm _ _ (g _ _ (g02 _ _ h))) (by
      cases e : H lp with
      | none => rfl
      | some o => rw [g02 _ _ e] at hlp2; cases hlp2) ⟨p3, .ref p2, rfl, SqT.of upd_same, ⟨?_, htr, by show nL ds ≤ 900; omega⟩, ⟨us, mm _ _ hup, DAll.mono (DKeep.same mm) _ _ hqs, hq4⟩, hmem, by omega⟩
    exact dvn (m3 _ _ upd_same) (dac (up mm (up g hp.dv)) (dac (dvn (m3 _ _ (m2 _ _ upd_same)) (DAll.mono (DKeep.same mm) _ _ hds) (by show ds.length ≤ 100; omega)) da0)) (by simp)
end
end Law

set_option Elab.async false
set_option linter.all false
set_option maxRecDepth 100000
set_option maxHeartbeats 4000000
namespace Law
open PySem L2 L2.Sp
def rowB (n : Nat) (M : Nat → Nat → Bool) (i : Nat) : List V := (List.range n).map fun j => V.bl (M i j)
theorem rowB_len {n : Nat} {M : Nat → Nat → Bool} {i : Nat} : (rowB n M i).length = n := by simp [rowB]
theorem rowB_at {n : Nat} {M : Nat → Nat → Bool} {i j : Nat} (h : j < n) : (rowB n M i)[j]? = some (.bl (M i j)) := by simp [rowB, h]
def setM (M : Nat → Nat → Bool) (i j : Nat) : Nat → Nat → Bool := fun a b => if a = i ∧ b = j then true else M a b
theorem rowB_set {n : Nat} {M : Nat → Nat → Bool} {i j : Nat} (h : j < n) : (rowB n M i).set j (.bl true) = rowB n (setM M i j) i := by
  apply List.ext_getElem?
  intro k
  by_cases hk : k < n
  · rw [rowB_at hk, List.getElem?_set]
    by_cases e : j = k
    · subst e
      rw [if_pos rfl, rowB_len, if_pos h]
      simp [setM]
    · rw [if_neg e, rowB_at hk]
      have : ¬ k = j := fun z => e z.symm
      simp [setM, this]
  · rw [List.getElem?_eq_none (by rw [List.length_set, rowB_len]; omega), List.getElem?_eq_none (by rw [rowB_len]; omega)]
theorem rowB_other {n : Nat} {M : Nat → Nat → Bool} {i j a : Nat} (h : a ≠ i) : rowB n (setM M i j) a = rowB n M a := by
  unfold rowB
  apply List.map_congr_left
  intro k _
  simp [setM, h]
section
variable {P : Program} {w : World} {K : PySem.W.Frag} {mg : Str → Option Value} {base : Heap} {f : Addr} {fd : FuncData}
/-- a table of truths -/
structure MxA (H : Hp) (lm : Addr) (n : Nat) (ls : List Addr) (M : Nat → Nat → Bool) : Prop where
  top : H lm = some (.lst (ls.map V.ref))
  len : ls.length = n
  nd : ls.Nodup
  nin : lm ∉ ls
  row : ∀ i, i < n → ∃ li, ls[i]? = some li ∧ H li = some (.lst (rowB n M i))
theorem MxA.set {H : Hp} {lm : Addr} {n : Nat} {ls : List Addr} {M : Nat → Nat → Bool} {i j : Nat} {li : Addr} (h : MxA H lm n ls M) (hi : i < n) (hj : j < n) (hl : ls[i]? = some li) : MxA (upd H li (.lst (rowB n (setM M i j) i))) lm n ls (setM M i j) := by
  have hmem := List.mem_of_getElem? hl
  refine ⟨by rw [upd_ne (show lm ≠ li from fun e => h.nin (by rw [e]; exact hmem))]; exact h.top, h.len, h.nd, h.nin, fun a ha => ?_⟩
  by_cases e : a = i
  · subst e
    exact ⟨li, hl, upd_same⟩
  · obtain ⟨la, h1, h2⟩ := h.row a ha
    have hne : la ≠ li := fun z => by
      obtain ⟨x1, y1⟩ := List.getElem?_eq_some_iff.mp h1
      obtain ⟨x2, y2⟩ := List.getElem?_eq_some_iff.mp hl
      exact e ((List.getElem_inj h.nd).mp (y1.trans (z.trans y2.symm)))
    exact ⟨la, h1, by rw [upd_ne hne, rowB_other e]; exact h2⟩
theorem MxA.other {H : Hp} {lm li : Addr} {n : Nat} {ls : List Addr} {M : Nat → Nat → Bool} {xs : List V} (h : MxA H lm n ls M) (h1 : li ≠ lm) (h2 : li ∉ ls) : MxA (upd H li (.lst xs)) lm n ls M :=
  ⟨by rw [upd_ne (Ne.symm h1)]; exact h.top, h.len, h.nd, h.nin, fun i hi => by
    obtain ⟨la, e1, e2⟩ := h.row i hi
    exact ⟨la, e1, by rw [upd_ne (show la ≠ li from fun z => h2 (by rw [← z]; exact List.mem_of_getElem? e1))]; exact e2⟩⟩
abbrev sBld : Stmt := top 20
theorem scBld : FnScope ["_law_reach", "_law_into_here", "_law_k", "_law_i", "_law_j"] ["_law_reach", "_law_into_here"] (defScope sBld) := ⟨rfl, rfl, rfl, by decide +kernel, rfl, by decide +kernel, by decide +kernel⟩
def spBld (K : PySem.W.Frag) : Sp := fun args H Q _ => ∃ (lm lt : Addr) (n : Nat) (ls ls' : List Addr) (M I : Nat → Nat → Bool) (E : Nat → Nat → Prop), args = [.ref lm, .ref lt] ∧ MxA H lm n ls M ∧ MxA H lt n ls' I ∧ (∀ x ∈ ls, x ∉ ls' ∧ x ≠ lt) ∧ n ≤ 60 ∧
  (∀ i j, i < n → j < n → M i j = true → Rch E i j) ∧ (∀ i j, i < n → j < n → I i j = true → ¬ Rch E j i) ∧ ∀ H', Q (.bl false) H'
theorem ok_bld (F : Fun K "_law_builds" "_law_builds" sBld f fd) (m1 : mg "range" = none) (m2 : mg "len" = none) : FnOk P w K mg base CX0 1 f fd ["_law_reach", "_law_into_here"] (spBld K) := by
  refine F.ok scBld (fun vs H Q E h => ?_) (fun cdv A outer s H vs Q E hr h => ?_)
  · obtain ⟨lm, lt, n, ls, ls', M, I, E, rfl, _⟩ := h
    rfl
  obtain ⟨lm, lt, n, ls, ls', M, I, Er, rfl, hM, hI, hdis, hn60, hMr, hIr, q⟩ := h
  refine ⟨_, pss_cons (ps_for PassesOwn.never rfl (pi_range1 rfl m1 (pa_cons (pe_callB call_len_seq rfl m2 PySem.boot_len (pa_cons (pv 0) pa_nil)) pa_nil)) (pg_name (i := 2) scBld.nd rfl (Or.inl rfl))
      (pss_one (ps_for PassesOwn.never rfl (pi_range1 rfl m1 (pa_cons (pe_callB call_len_seq rfl m2 PySem.boot_len (pa_cons (pv 0) pa_nil)) pa_nil)) (pg_name (i := 3) scBld.nd rfl (Or.inl rfl))
        (pss_one (ps_for PassesOwn.never rfl (pi_range1 rfl m1 (pa_cons (pe_callB call_len_seq rfl m2 PySem.boot_len (pa_cons (pv 0) pa_nil)) pa_nil)) (pg_name (i := 4) scBld.nd rfl (Or.inl rfl))
          (pss_one (ps_if (PW.pt (pw_and (pt_val (pe_ix ix_list (pe_ix ix_list (pv 0) (pv 3) (fun _ _ => rfl)) (pv 2) (fun _ _ => rfl))) (pw_and1 (pt_val (pe_ix ix_list (pe_ix ix_list (pv 0) (pv 2) (fun _ _ => rfl)) (pv 4) (fun _ _ => rfl))))))
            (pss_one (ps_asg pe_bl (pg_sub (pe_ix ix_list (pv 0) (pv 3) (fun _ _ => rfl)) (pv 4) set_list))) pss_nil)))))))
    (pss_cons (ps_for PassesOwn.never rfl (pi_range1 rfl m1 (pa_cons (pe_callB call_len_seq rfl m2 PySem.boot_len (pa_cons (pv 0) pa_nil)) pa_nil)) (pg_name (i := 3) scBld.nd rfl (Or.inl rfl))
      (pss_one (ps_for PassesOwn.never rfl (pi_range1 rfl m1 (pa_cons (pe_callB call_len_seq rfl m2 PySem.boot_len (pa_cons (pv 0) pa_nil)) pa_nil)) (pg_name (i := 4) scBld.nd rfl (Or.inl rfl))
        (pss_one (ps_if (PW.pt (pw_and (pt_val (pe_ix ix_list (pe_ix ix_list (pv 1) (pv 3) (fun _ _ => rfl)) (pv 4) (fun _ _ => rfl))) (pw_and1 (pt_val (pe_ix ix_list (pe_ix ix_list (pv 0) (pv 4) (fun _ _ => rfl)) (pv 3) (fun _ _ => rfl))))))
          (pss_one (ps_ret pe_bl)) pss_nil)))))
    (pss_one (ps_ret pe_bl))), ?_⟩
  let J : Hp → Prop := fun H' => ∃ M', MxA H' lm n ls M' ∧ MxA H' lt n ls' I ∧ ∀ i j, i < n → j < n → M' i j = true → Rch Er i j
  have J0 : J H := ⟨M, hM, hI, hMr⟩
  have cell : ∀ {H' : Hp} {l : Addr} {ks : List Addr} {T : Nat → Nat → Bool} {i : Nat}, MxA H' l n ks T → i < n → ∃ li, atI (ks.map V.ref) (0 + (i : Int)) = some (.ref li) ∧ ks[i]? = some li ∧ H' li = some (.lst (rowB n T i)) := fun {H' l ks T i} h hi => by
    obtain ⟨li, h1, h2⟩ := h.row i hi
    exact ⟨li, by rw [Int.zero_add]; exact atI_nat (by rw [List.getElem?_map, h1]; rfl), h1, h2⟩
  have it : ∀ {T : Nat → Nat → Bool} {i j : Nat}, j < n → atI (rowB n T i) (0 + (j : Int)) = some (.bl (T i j)) := fun {T i j} hj => by rw [Int.zero_add]; exact atI_nat (rowB_at hj)
  have hlm : (ls.map V.ref).length = n := by rw [List.length_map]; exact hM.len
  refine ⟨_, rfl, lm, _, rfl, .inl (SqL.of hM.top), _, rfl, by omega, by omega, ?_⟩
  refine for_range (fun _ σ H' => J H' ∧ ∃ b2 b3 b4 : Option V, σ = [some (.ref lm), some (.ref lt), b2, b3, b4]) ⟨J0, none, none, none, rfl⟩ (fun k σ H1 hk hinv => ?_) (fun σ H1 hinv => ?_)
  · obtain ⟨⟨M1, hM1, hI1, hr1⟩, b2, b3, b4, rfl⟩ := hinv
    have hk : k < n := by omega
    refine ⟨_, rfl, lm, _, rfl, .inl (SqL.of hM1.top), _, rfl, by omega, by omega, ?_⟩
    refine for_range (fun _ σ H' => J H' ∧ ∃ b3 b4 : Option V, σ = [some (.ref lm), some (.ref lt), some (.int (0 + (k : Int))), b3, b4]) ⟨⟨M1, hM1, hI1, hr1⟩, _, _, rfl⟩ (fun i σ H2 hi hinv => ?_) (fun σ H2 hinv => ?_)
    · obtain ⟨⟨M2, hM2, hI2, hr2⟩, b3, b4, rfl⟩ := hinv
      have hi : i < n := by omega
      refine ⟨_, rfl, lm, _, rfl, .inl (SqL.of hM2.top), _, rfl, by omega, by omega, ?_⟩
      refine for_range (fun _ σ H' => J H' ∧ ∃ b4 : Option V, σ = [some (.ref lm), some (.ref lt), some (.int (0 + (k : Int))), some (.int (0 + (i : Int))), b4]) ⟨⟨M2, hM2, hI2, hr2⟩, _, rfl⟩ (fun j σ H3 hj hinv => ?_) (fun σ H3 hinv => ?_)
      · obtain ⟨⟨M3, hM3, hI3, hr3⟩, b4, rfl⟩ := hinv
        have hj : j < n := by omega
        obtain ⟨li, a1, a2, a3⟩ := cell hM3 hi
        obtain ⟨lk, c1, c2, c3⟩ := cell hM3 hk
        refine ⟨_, rfl, _, rfl, lm, _, _, _, rfl, rfl, SqL.of hM3.top, a1, _, rfl, li, _, _, _, rfl, rfl, SqL.of a3, it hk, _, rfl, ?_⟩
        cases e1 : M3 i k with
        | false => exact iteF (iteF ⟨⟨M3, hM3, hI3, hr3⟩, _, rfl⟩)
        | true =>
          refine iteT ⟨_, rfl, _, rfl, lm, _, _, _, rfl, rfl, SqL.of hM3.top, c1, _, rfl, lk, _, _, _, rfl, rfl, SqL.of c3, it hj, _, rfl, ?_⟩
          cases e2 : M3 k j with
          | false => exact iteF ⟨⟨M3, hM3, hI3, hr3⟩, _, rfl⟩
          | true =>
            refine iteT ⟨_, rfl, _, rfl, lm, _, _, _, rfl, rfl, SqL.of hM3.top, a1, _, rfl, li, _, _, j, rfl, rfl, a3, ?_, ?_⟩
            · rw [rowB_len, Int.zero_add]
              unfold ixN
              rw [if_pos (by omega), if_pos (by omega)]
              rfl
            · rw [rowB_set hj]
              have hmem := List.mem_of_getElem? a2
              refine ⟨⟨setM M3 i j, hM3.set hi hj a2, hI3.other (hdis li hmem).2 (hdis li hmem).1, fun x y hx hy hxy => ?_⟩, _, rfl⟩
              unfold setM at hxy
              by_cases hc : x = i ∧ y = j
              · rw [hc.1, hc.2]
                exact (hr3 i k hi hk e1).trans (hr3 k j hk hj e2)
              · rw [if_neg hc] at hxy
                exact hr3 x y hx hy hxy
      · obtain ⟨h, b4, rfl⟩ := hinv
        exact ⟨h, _, _, rfl⟩
    · obtain ⟨h, b3, b4, rfl⟩ := hinv
      exact ⟨h, _, _, _, rfl⟩
  · obtain ⟨⟨M1, hM1, hI1, hr1⟩, b2, b3, b4, rfl⟩ := hinv
    refine ⟨_, rfl, lm, _, rfl, .inl (SqL.of hM1.top), _, rfl, by omega, by omega, ?_⟩
    refine for_range (fun _ σ H' => H' = H1 ∧ ∃ b3 b4 : Option V, σ = [some (.ref lm), some (.ref lt), b2, b3, b4]) ⟨rfl, _, _, rfl⟩ (fun i σ H2 hi hinv => ?_) (fun σ H2 hinv => ?_)
    · obtain ⟨rfl, b3, b4, rfl⟩ := hinv
      have hi : i < n := by omega
      refine ⟨_, rfl, lm, _, rfl, .inl (SqL.of hM1.top), _, rfl, by omega, by omega, ?_⟩
      refine for_range (fun _ σ H' => H' = H2 ∧ ∃ b4 : Option V, σ = [some (.ref lm), some (.ref lt), b2, some (.int (0 + (i : Int))), b4]) ⟨rfl, _, rfl⟩ (fun j σ H3 hj hinv => ?_) (fun σ H3 hinv => ?_)
      · obtain ⟨rfl, b4, rfl⟩ := hinv
        have hj : j < n := by omega
        obtain ⟨li, a1, a2, a3⟩ := cell hI1 hi
        obtain ⟨lk, c1, c2, c3⟩ := cell hM1 hj
        refine ⟨_, rfl, _, rfl, lt, _, _, _, rfl, rfl, SqL.of hI1.top, a1, _, rfl, li, _, _, _, rfl, rfl, SqL.of a3, it hj, _, rfl, ?_⟩
        cases e1 : I i j with
        | false => exact iteF (iteF ⟨rfl, _, rfl⟩)
        | true =>
          refine iteT ⟨_, rfl, _, rfl, lm, _, _, _, rfl, rfl, SqL.of hM1.top, c1, _, rfl, lk, _, _, _, rfl, rfl, SqL.of c3, it hi, _, rfl, ?_⟩
          cases e2 : M1 j i with
          | false => exact iteF ⟨rfl, _, rfl⟩
          | true => exact absurd (hr1 j i hj hi e2) (hIr i j hi hj e1)
      · obtain ⟨rfl, b4, rfl⟩ := hinv
        exact ⟨rfl, _, _, rfl⟩
    · obtain ⟨rfl, b3, b4, rfl⟩ := hinv
      exact q _
end
end Law

set_option Elab.async false
set_option linter.all false
set_option maxRecDepth 100000
set_option maxHeartbeats 4000000
namespace Law
open PySem L2 L2.Sp
def inD (p : List Nat) : PyData := .list (p.map fun n : Nat => PyData.int (n : Int))
theorem lay_in (p : List Nat) : (inD p).canLay0 = true := by
  have : ∀ p : List Nat, PyData.canLayAll0 (p.map fun n : Nat => PyData.int (n : Int)) = true := by
    intro p
    induction p with
    | nil => simp [PyData.canLayAll0]
    | cons x r ih => rw [List.map_cons]; simp [PyData.canLayAll0, PyData.canLay0, ih]
  simp only [inD, PyData.canLay0]
  exact this p
theorem eqv_in0 {p : List Nat} (h : p ≠ []) : PyData.eqv (inD p) (inD []) = false := by
  cases p with
  | nil => exact absurd rfl h
  | cons x r => simp [inD, PyData.eqv, PyData.eqvAll]
theorem cut_tail (p : List Nat) : cutV (intsV p) (some 1) none = intsV p.tail := by
  unfold cutV
  have e : HT.sIx (intsV p).length (intsV p).length none = (intsV p).length := rfl
  have e1 : HT.sIx (intsV p).length 0 (some 1) = min 1 (intsV p).length := HT.sIx_nat ..
  rw [e, e1, List.take_of_length_le (by simp)]
  cases p with
  | nil => rfl
  | cons x r =>
    have : min 1 (intsV (x :: r)).length = 1 := by simp [intsV]
    rw [this]
    simp [intsV]
theorem cut_one (p : List Nat) : cutV (intsV p) none (some 1) = intsV (p.take 1) := by
  have h := cut_to (fun n : Nat => V.int (n : Int)) p 1
  exact h
theorem zip_ints (p q : List Nat) : (intsV p).zip (intsV q) = (p.zip q).map fun x => (V.int (x.1 : Int), V.int (x.2 : Int)) := by
  unfold intsV
  rw [List.zip_map]
  rfl
section
variable {P : Program} {w : World} {K : PySem.W.Frag} {mg : Str → Option Value} {base : Heap} {f : Addr} {fd : FuncData}
theorem datAll_in {H : Hp} : ∀ p : List Nat, DatAll K H (p.map fun n : Nat => PyData.int (n : Int)) (intsV p)
  | [] => by simp only [intsV, List.map_nil, DatAll]
  | x :: r => by
    have := datAll_in (H := H) r
    simp only [intsV, List.map_cons, DatAll, DatV]
    exact ⟨_, _, rfl, rfl, this⟩
theorem dat_in {H : Hp} {l : Addr} {p : List Nat} (h : H l = some (.lst (intsV p))) : DatV K H (inD p) (.ref l) := by
  simp only [inD, DatV]
  exact ⟨l, _, rfl, SqL.of h, datAll_in p⟩
theorem nodup_ints {p : List Nat} (h : p.Nodup) : (p.map fun n : Nat => (n : Int)).Nodup := by
  induction p with
  | nil => simp
  | cons x r ih =>
    rw [List.nodup_cons] at h
    rw [List.map_cons, List.nodup_cons]
    refine ⟨fun hm => ?_, ih h.2⟩
    obtain ⟨y, hy, e⟩ := List.mem_map.mp hm
    have : y = x := by omega
    exact h.1 (this ▸ hy)
theorem bt_zip : bootBuiltins "zip" = some (.type "zip") := by decide +kernel
abbrev sWalk : Stmt := top 21
theorem scWalk : FnScope ["_law_found", "_law_reach", "_law_into_here", "_law_number", "_law_steps"] ["_law_found", "_law_reach", "_law_into_here"] (defScope sWalk) := ⟨rfl, rfl, rfl, by decide +kernel, rfl, by decide +kernel, by decide +kernel⟩
theorem nd_ijr : (["_law_i", "_law_j", "_law_reach"] : List Str).Nodup := by decide +kernel
theorem nd_iji : (["_law_i", "_law_j", "_law_into_here"] : List Str).Nodup := by decide +kernel
theorem MxA.same {H H' : Hp} {lm : Addr} {n : Nat} {ls : List Addr} {M : Nat → Nat → Bool} (g : Same H H') (h : MxA H lm n ls M) : MxA H' lm n ls M := ⟨g _ _ h.top, h.len, h.nd, h.nin, fun i hi => by
  obtain ⟨li, h1, h2⟩ := h.row i hi
  exact ⟨li, h1, g _ _ h2⟩⟩
theorem MxA.at {H : Hp} {lm : Addr} {n : Nat} {ls : List Addr} {M : Nat → Nat → Bool} {i : Nat} (h : MxA H lm n ls M) (hi : i < n) : ∃ li, atI (ls.map V.ref) (i : Int) = some (.ref li) ∧ H li = some (.lst (rowB n M i)) := by
  obtain ⟨li, h1, h2⟩ := h.row i hi
  exact ⟨li, atI_nat (by rw [List.getElem?_map, h1]; rfl), h2⟩
def spWalk (K : PySem.W.Frag) : Sp := fun args H Q _ => ∃ (lf lm lt : Addr) (n : Nat) (p : List Nat) (ls ls' : List Addr) (G I : Nat → Nat → Bool), args = [.ref lf, .ref lm, .ref lt] ∧ H lf = some (.lst (intsV p)) ∧ MxA H lm n ls G ∧ MxA H lt n ls' I ∧ n ≤ 60 ∧ IsRing n G I p ∧ ∀ H', Q (.bl true) H'
theorem ok_walk (F : Fun K "_law_walked" "_law_walked" sWalk f fd) (m1 : mg "isinstance" = none) (m2 : mg "list" = none) (m3 : mg "int" = none) (m4 : mg "bool" = none) (m5 : mg "len" = none) (m6 : mg "set" = none) (m7 : mg "zip" = none) (m8 : mg "all" = none) (m9 : mg "any" = none) : FnOk P w K mg base CX0 1 f fd ["_law_found", "_law_reach", "_law_into_here"] (spWalk K) := by
  refine F.ok scWalk (fun vs H Q E h => ?_) (fun cdv A outer s H vs Q E hr h => ?_)
  · obtain ⟨lf, lm, lt, n, p, ls, ls', G, I, rfl, _⟩ := h
    rfl
  obtain ⟨lf, lm, lt, n, p, ls, ls', G, I, rfl, hlf, hM, hI, hn60, hring, q⟩ := h
  refine ⟨_, pss_cons (ps_if (PW.pt (pw_or (pt_not (pt_val (pe_callB call_isiL rfl m1 bt_isi (pa_cons (pv 0) (pa_cons (pe_bltn (v := .ty "list") rfl m2 bt_list rfl) pa_nil))))) (pw_or1 (pt_cmpR (op_deq hr.units) (pv 0) (pe_lst pa_nil) (nomark _))))) (pss_one (ps_ret pe_bl)) pss_nil)
    (pss_cons (ps_for PassesOwn.never rfl (pi_list (pv 0)) (pg_name (i := 3) scWalk.nd rfl (Or.inl rfl))
      (pss_one (ps_if (PW.pt (pw_or (pt_not (pt_val (pe_callB call_isi rfl m1 bt_isi (pa_cons (pv 3) (pa_cons (pe_bltn (v := .ty "int") rfl m3 bt_int rfl) pa_nil))))) (pw_or (pt_val (pe_callB call_isi rfl m1 bt_isi (pa_cons (pv 3) (pa_cons (pe_bltn (v := .ty "bool") rfl m4 bt_bool rfl) pa_nil)))) (pw_or1 (pt_not (pt_chain op_le op_lt pe_int (pv 3) (pe_callB call_len_seq rfl m5 PySem.boot_len (pa_cons (pv 1) pa_nil)))))))) (pss_one (ps_ret pe_bl)) pss_nil)))
    (pss_cons (ps_if (pt_cmpR op_ne (pe_callB call_lenS rfl m5 PySem.boot_len (pa_cons (pe_callTy (call_setN rfl) rfl m6 bt_set (pa_cons (pv 0) pa_nil)) pa_nil)) (pe_callB call_len_seq rfl m5 PySem.boot_len (pa_cons (pv 0) pa_nil)) (nomark _)) (pss_one (ps_ret pe_bl)) pss_nil)
    (pss_cons (ps_set (i := 4) scWalk.nd rfl (Or.inl rfl) (pe_listzip rfl rfl m2 rfl m7 (pa_cons (pv 0) (pa_cons (pe_op op_cat (pe_slice sl_list (pv 0) (po_some pe_int) po_none) (pe_slice sl_list (pv 0) po_none (po_some pe_int))) pa_nil))))
    (pss_one (ps_ret (pe_and (pe_callB (call_all_list rfl) rfl m8 bt_all (pa_cons (pe_comp (N' := ["_law_i", "_law_j", "_law_reach"]) (fr := [none, none, some 1]) (own := [0, 1]) ⟨rfl, rfl, rfl, rfl, rfl, rfl, rfl⟩ rfl (pi_list (pv 4))
        (fun _ _ _ _ => pg_tup (n := 2) rfl (pgs_cons (pg_name (i := 0) nd_ijr rfl (Or.inl rfl)) (pgs_cons (pg_name (i := 1) nd_ijr rfl (Or.inl rfl)) pgs_nil))) (own_tup (own_pair 0 1)) (fun _ _ _ _ => pts_nil) (fun _ _ _ _ => pe_ix ix_listC (pe_ix ix_listC (pv 2) (pv 0) (fun _ _ => rfl)) (pv 1) (fun _ _ => rfl))) pa_nil))
      (pe_one (pe_callB (call_any_list rfl) rfl m9 bt_any (pa_cons (pe_comp (N' := ["_law_i", "_law_j", "_law_into_here"]) (fr := [none, none, some 2]) (own := [0, 1]) ⟨rfl, rfl, rfl, rfl, rfl, rfl, rfl⟩ rfl (pi_list (pv 4))
        (fun _ _ _ _ => pg_tup (n := 2) rfl (pgs_cons (pg_name (i := 0) nd_iji rfl (Or.inl rfl)) (pgs_cons (pg_name (i := 1) nd_iji rfl (Or.inl rfl)) pgs_nil))) (own_tup (own_pair 0 1)) (fun _ _ _ _ => pts_nil) (fun _ _ _ _ => pe_ix ix_listC (pe_ix ix_listC (pv 2) (pv 0) (fun _ _ => rfl)) (pv 1) (fun _ _ => rfl))) pa_nil))))))))), ?_⟩
  obtain ⟨hch, hnd, hlt, a, b, hhead, hlast, hba, hIba⟩ := hring
  have hp0 : p ≠ [] := fun e => by rw [e] at hhead; cases hhead
  have hpl : p.length ≤ 60 := Nat.le_trans (nodup_lt n p hnd hlt) hn60
  have hpp : 0 < p.length := List.length_pos_iff.mpr hp0
  have hil : (intsV p).length = p.length := by simp [intsV]
  refine ⟨_, rfl, lf, _, "list", rfl, SqL.of hlf, .inl ⟨rfl, true, rfl, iteF ?_⟩⟩
  refine ⟨_, rfl, len0, fun l0 hl0 => ?_⟩
  have k0 := same_new hl0 (.lst [])
  refine ⟨inD p, inD [], dat_in (k0 _ _ hlf), dat_in upd_same, lay_in p, lay_in [], by simp [inD, PyData.depth, PyData.depthAll], false, by rw [eqv_in0 hp0], iteF ?_⟩
  have hlf0 := k0 _ _ hlf
  have hM0 := hM.same k0
  have hI0 := hI.same k0
  generalize upd H l0 (.lst []) = Ha at hlf0 hM0 hI0
  refine ⟨_, rfl, lf, rfl, ⟨_, SqL.of hlf0⟩, ?_⟩
  refine for_list (xs := intsV p) (fun i σ H' => H' = Ha ∧ ∃ b3 : Option V, σ = [some (.ref lf), some (.ref lm), some (.ref lt), b3, none]) ⟨rfl, none, rfl⟩ (fun i σ H' _ ⟨e, _⟩ => by rw [e]; exact SqL.of hlf0) (fun i x σ H' hx hinv => ?_) (fun σ H' hinv => ?_)
  · obtain ⟨rfl, b3, rfl⟩ := hinv
    unfold intsV at hx
    rw [List.getElem?_map] at hx
    cases ei : p[i]? with
    | none => rw [ei] at hx; cases hx
    | some v =>
      rw [ei] at hx
      cases hx
      have hv := hlt v (List.mem_of_getElem? ei)
      have e0 : decide ((0 : Int) ≤ (v : Int)) = true := decide_eq_true (by omega)
      have e1 : decide ((v : Int) < (((ls.map V.ref).length : Nat) : Int)) = true := decide_eq_true (by rw [List.length_map, hM0.len]; omega)
      exact ⟨_, rfl, _, "int", true, rfl, rfl, true, rfl, iteF ⟨_, rfl, _, "bool", false, rfl, rfl, false, rfl, iteF ⟨_, rfl, _, _, rfl, rfl, true, congrArg V.bl e0, iteT ⟨_, rfl, lm, _, rfl, .inl (SqL.of hM0.top), _, _, rfl, rfl, true, congrArg V.bl e1, iteF ⟨rfl, _, rfl⟩⟩⟩⟩⟩
  obtain ⟨rfl, b3, rfl⟩ := hinv
  refine ⟨_, rfl, lf, p.map fun n : Nat => (n : Int), rfl, by rw [List.map_map]; exact SqL.of hlf0, nodup_ints hnd, by rw [List.length_map]; omega, fun aS S haS => ?_⟩
  have kS := same_new haS (.set S (p.map fun n : Nat => (n : Int)).length)
  refine ⟨aS, S, _, rfl, upd_same, by rw [List.length_map]; omega, _, rfl, lf, _, rfl, .inl (SqL.of (kS _ _ hlf0)), rfl, false, ?_, iteF ?_⟩
  · rw [hil, List.length_map]
    simp
  have hlf1 := kS _ _ hlf0
  have hM1 := hM0.same kS
  have hI1 := hI0.same kS
  generalize upd H' aS (.set S (p.map fun n : Nat => (n : Int)).length) = H1 at hlf1 hM1 hI1
  refine ⟨_, rfl, _, rfl, _, rfl, lf, _, rfl, SqL.of hlf1, fun l1 hl1 => ?_⟩
  rw [cut_tail]
  have k1 := same_new hl1 (.lst (intsV p.tail))
  refine ⟨_, rfl, _, rfl, lf, _, rfl, SqL.of (k1 _ _ hlf1), fun l2 hl2 => ?_⟩
  rw [cut_one]
  have k2 := same_new hl2 (.lst (intsV (p.take 1)))
  have etl : (intsV p.tail).length + (intsV (p.take 1)).length = p.length := by
    cases p with
    | nil => exact absurd rfl hp0
    | cons x r => simp [intsV]
  refine ⟨l1, l2, _, _, rfl, rfl, k2 _ _ upd_same, upd_same, small_le (by omega), fun l3 hl3 => ?_⟩
  have k3 := same_new hl3 (.lst (intsV p.tail ++ intsV (p.take 1)))
  have g13 : Same H1 _ := fun b o h => k3 _ _ (k2 _ _ (k1 b o h))
  have hq3 := (fun {Hx : Hp} (_ : Same Hx (upd Hx l3 (.lst (intsV p.tail ++ intsV (p.take 1))))) => (upd_same : upd Hx l3 (.lst (intsV p.tail ++ intsV (p.take 1))) l3 = some (.lst (intsV p.tail ++ intsV (p.take 1))))) k3
  have hta : p.take 1 = [a] := by
    cases p with
    | nil => exact absurd rfl hp0
    | cons x r => simp at hhead; rw [hhead]; rfl
  have eap : intsV p.tail ++ intsV (p.take 1) = intsV (p.tail ++ [a]) := by rw [hta]; simp [intsV]
  refine ⟨lf, l3, intsV p, intsV (p.tail ++ [a]), rfl, g13 _ _ hlf1, by rw [← eap]; exact hq3, by rw [← eap, List.length_append, etl, hil], by rw [hil]; exact hpp, by rw [hil]; omega, fun l4 H4 out hl4 g4 hl4' hP => ?_⟩
  have g14 : Same H1 H4 := fun b o h => g4 _ _ (g13 b o h)
  have hM4 := hM1.same g14
  have hI4 := hI1.same g14
  rw [zip_ints] at hP
  have hol := Paired.length hP
  rw [List.length_map] at hol
  have hzl : (p.zip (p.tail ++ [a])).length ≤ 60 := by rw [List.length_zip]; omega
  have hst := steps_ok hba hch hlast
  have cells : ∀ {Hx : Hp} {l : Addr} {ks : List Addr} {T : Nat → Nat → Bool} {i : Nat} {x : V}, MxA Hx l n ks T → Same H4 Hx → out[i]? = some x → ∃ (t : Addr) (u v : Nat) (lu : Addr), x = .ref t ∧ Hx t = some (.tup [.int (u : Int), .int (v : Int)]) ∧ (p.zip (p.tail ++ [a]))[i]? = some (u, v) ∧ u < n ∧ v < n ∧ atI (ks.map V.ref) (u : Int) = some (.ref lu) ∧ Hx lu = some (.lst (rowB n T u)) ∧ atI (rowB n T u) (v : Int) = some (.bl (T u v)) := fun {Hx l ks T i x} hT g hx => by
    obtain ⟨y, hy, t, e1, e2⟩ := pair_get hP hx
    rw [List.getElem?_map] at hy
    cases ez : (p.zip (p.tail ++ [a]))[i]? with
    | none => rw [ez] at hy; cases hy
    | some uv =>
      obtain ⟨u, v⟩ := uv
      rw [ez] at hy
      cases hy
      have huv := hst (u, v) (List.mem_of_getElem? ez)
      obtain ⟨lu, c1, c2⟩ := hT.at huv.1
      exact ⟨t, u, v, lu, e1, g _ _ e2, rfl, huv.1, huv.2.1, c1, c2, atI_nat (rowB_at huv.2.1)⟩
  refine ⟨_, rfl, l4, rfl, ⟨_, SqL.of hl4'⟩, fun la hla => ?_⟩
  refine comp_boolsL (K := K) (xs := out) ((p.zip (p.tail ++ [a])).map fun x => G x.1 x.2) hla (SqL.of hl4') (by rw [List.length_map]; exact hol) (by rw [List.length_map]; omega) (fun i x bb ys Hx N hx hbb gx fin => ?_) (fun H5 g5 hL5 => ?_)
  · obtain ⟨t, u, v, lu, rfl, ht, ez, hu, hv, c1, c2, c3⟩ := cells (hM4.same gx) gx hx
    rw [List.getElem?_map, ez] at hbb
    cases hbb
    refine ⟨t, _, rfl, SqT.of ht, rfl, _, _, rfl, _, _, rfl, rfl, yesT ?_⟩
    exact ⟨_, rfl, _, rfl, lm, _, _, _, rfl, rfl, SqL.of (hM4.same gx).top, c1, _, rfl, lu, _, _, _, rfl, rfl, SqL.of c2, c3, fin _ sameR⟩
  refine ⟨la, _, rfl, hL5, true, ?_, iteT ?_⟩
  · have : (((p.zip (p.tail ++ [a])).map fun x => G x.1 x.2).all id) = true := by
      rw [List.all_map, List.all_eq_true]
      intro x hx
      exact (hst x hx).2.2
    rw [this]
  refine ⟨_, rfl, l4, rfl, ⟨_, SqL.of (g5 _ _ hl4')⟩, fun lb hlb => ?_⟩
  refine comp_boolsL (K := K) (xs := out) ((p.zip (p.tail ++ [a])).map fun x => I x.1 x.2) hlb (SqL.of (g5 _ _ hl4')) (by rw [List.length_map]; exact hol) (by rw [List.length_map]; omega) (fun i x bb ys Hx N hx hbb gx fin => ?_) (fun H6 g6 hL6 => ?_)
  · have gg : Same H4 Hx := fun b o h => gx _ _ (g5 _ _ h)
    obtain ⟨t, u, v, lu, rfl, ht, ez, hu, hv, c1, c2, c3⟩ := cells (hI4.same gg) gg hx
    rw [List.getElem?_map, ez] at hbb
    cases hbb
    refine ⟨t, _, rfl, SqT.of ht, rfl, _, _, rfl, _, _, rfl, rfl, yesT ?_⟩
    exact ⟨_, rfl, _, rfl, lt, _, _, _, rfl, rfl, SqL.of (hI4.same gg).top, c1, _, rfl, lu, _, _, _, rfl, rfl, SqL.of c2, c3, fin _ sameR⟩
  refine ⟨lb, _, rfl, hL6, ?_⟩
  have : (((p.zip (p.tail ++ [a])).map fun x => I x.1 x.2).any id) = true := by
    rw [List.any_map, List.any_eq_true]
    exact ⟨(b, a), steps_last hlast, hIba⟩
  rw [this]
  exact q _
end
end Law

set_option Elab.async false
set_option linter.all false
set_option maxRecDepth 100000
set_option maxHeartbeats 4000000
namespace Law
open PySem L2 L2.Sp
section
variable {P : Program} {w : World} {K : PySem.W.Frag} {mg : Str → Option Value} {base : Heap} {f : Addr} {fd : FuncData}
theorem pi_listC {X : Cx} {scope : Scope} {N' : List Str} {C : Addr} {fp : List Addr} {s : Shared} {H : Hp} {tg l : Expr} {tl : TE} (hl : PE (compCxC X scope N' C fp s H) l tl) : PI (compCxC X scope N' C fp s H) tg l (iList X.K tl) := pi_list (X := compCxC X scope N' C fp s H) hl
theorem ix_tupCC {X : Cx} {sc1 : Scope} {N1 : List Str} {C1 : Addr} {f1 : List Addr} {s1 : Shared} {H1 : Hp} {scope : Scope} {N' : List Str} {C : Addr} {fp : List Addr} {s : Shared} {H : Hp} : IxR (compCx (compCxC X sc1 N1 C1 f1 s1 H1) scope N' C fp s H) (rIxT X.K) := ix_tup
/-- what a told row is -/
abbrev TE3 := Addr × RG × List (List Str)
theorem RowV.mono {H H' : Hp} {v : V} {ls : Addr} {r : RG} {qs : List (List Str)} (k : DKeep K H H') (hl : ∀ us, H ls = some (.lst us) → H' ls = some (.lst us)) (h : RowV K H v ls r qs) : RowV K H' v ls r qs := by
  obtain ⟨t, x, rfl, h1, ⟨h2, h3⟩, ⟨us, h5, h6, h7⟩, h8, h9⟩ := h
  exact ⟨t, x, rfl, k.tup _ _ h1, ⟨DV.mono k _ _ h2, h3⟩, ⟨us, hl _ h5, DAll.mono k _ _ h6, h7⟩, h8, h9⟩
theorem RowV.same {H H' : Hp} {v : V} {ls : Addr} {r : RG} {qs : List (List Str)} (g : Same H H') (h : RowV K H v ls r qs) : RowV K H' v ls r qs := h.mono (DKeep.same g) fun _ e => g _ _ e
def ToV (K : PySem.W.Frag) (H : Hp) (v : V) (e : TE3) : Prop := RowV K H v e.1 e.2.1 e.2.2
theorem tos_same {H H' : Hp} {vs : List V} {es : List TE3} (g : Same H H') (h : Paired (ToV K H) vs es) : Paired (ToV K H') vs es := L2.Paired.mapP h fun _ _ z => RowV.same g z
theorem rel_es {fB : List Str → List Str → Bool} {es : List TE3} {i j : Nat} {e o : TE3} (h1 : es[i]? = some e) (h2 : es[j]? = some o) (hm : ∀ p, p ∈ e.2.1.2.2 ↔ p ∈ e.2.2) : relB fB (es.map fun x => x.2.1) i j = e.2.2.any (fB o.2.1.1) := by
  rw [relB_at (r := e.2.1) (o := o.2.1) (by rw [List.getElem?_map, h1]; rfl) (by rw [List.getElem?_map, h2]; rfl)]
  exact any_mem hm
/-- a table under way -/
structure MxI (H0 H : Hp) (lm : Addr) (n i : Nat) (ls : List Addr) (M : Nat → Nat → Bool) : Prop where
  top : H lm = some (.lst (ls.map V.ref))
  len : ls.length = i
  nd : ls.Nodup
  nin : lm ∉ ls
  new : ∀ x ∈ ls, H0 x = none
  row : ∀ k, k < i → ∃ li, ls[k]? = some li ∧ H li = some (.lst (rowB n M k))
theorem MxI.add {H0 H H' : Hp} {lm li : Addr} {n i : Nat} {ls : List Addr} {M : Nat → Nat → Bool} (h : MxI H0 H lm n i ls M) (g : Same H H') (g0 : Same H0 H) (hn : H li = none) (hl : H' li = some (.lst (rowB n M i))) : MxI H0 (upd H' lm (.lst ((ls ++ [li]).map V.ref))) lm n (i + 1) (ls ++ [li]) M := by
  have hne : ∀ x ∈ ls, x ≠ li := fun x hx e => by
    obtain ⟨k, hk, ek⟩ := List.getElem_of_mem hx
    have hk' : k < i := by rw [← h.len]; exact hk
    obtain ⟨y, e1, e2⟩ := h.row k hk'
    rw [List.getElem?_eq_getElem hk, ek] at e1
    cases e1
    rw [e, hn] at e2
    cases e2
  have hlm : li ≠ lm := fun e => by rw [e, h.top] at hn; cases hn
  refine ⟨upd_same, by rw [List.length_append, h.len]; rfl, ?_, ?_, fun x hx => ?_, fun k hk => ?_⟩
  · rw [List.nodup_append]
    refine ⟨h.nd, by simp, fun x hx y hy => ?_⟩
    rw [List.mem_singleton.mp hy]
    exact hne x hx
  · rw [List.mem_append, not_or]
    exact ⟨h.nin, by simpa using Ne.symm hlm⟩
  · rcases List.mem_append.mp hx with z | z
    · exact h.new x z
    · rw [List.mem_singleton.mp z]
      cases e : H0 li with
      | none => rfl
      | some o => rw [g0 _ _ e] at hn; cases hn
  · by_cases hki : k < i
    · obtain ⟨y, e1, e2⟩ := h.row k hki
      have hy := List.mem_of_getElem? e1
      refine ⟨y, by rw [List.getElem?_append_left (by rw [h.len]; exact hki)]; exact e1, ?_⟩
      rw [upd_ne (show y ≠ lm from fun e => h.nin (by rw [← e]; exact hy))]
      exact g _ _ e2
    · have : k = i := by omega
      subst this
      exact ⟨li, by rw [List.getElem?_append_right (by rw [h.len]; exact Nat.le_refl _), h.len]; simp, by rw [upd_ne hlm]; exact hl⟩
theorem MxI.done {H0 H : Hp} {lm : Addr} {n : Nat} {ls : List Addr} {M : Nat → Nat → Bool} (h : MxI H0 H lm n n ls M) : MxA H lm n ls M := ⟨h.top, h.len, h.nd, h.nin, h.row⟩
abbrev sLaw : Stmt := top 22
theorem scLaw : FnScope ["_law_script", "_law_hs", "_law_names_here", "_law_told", "_law_rows", "_law_reach", "_law_into_here", "_law_handed", "_law_found"] ["_law_script"] (defScope sLaw) := ⟨rfl, rfl, rfl, by decide +kernel, rfl, by decide +kernel, by decide +kernel⟩
theorem nd_cnh : (["_law_cell", "_law_names_here", "_law_hs"] : List Str).Nodup := by decide +kernel
theorem nd_rs : (["_law_row_here", "_law_spoken_here"] : List Str).Nodup := by decide +kernel
theorem nd_rsr : (["_law_row_here", "_law_spoken_here", "_law_rows"] : List Str).Nodup := by decide +kernel
theorem nd_os : (["_law_other", "_law_spoken_here"] : List Str).Nodup := by decide +kernel
def spLaw (K : PySem.W.Frag) : Sp := fun vs H Q _ => ∃ (a : Addr) (ns : List Int), vs = [.ref a] ∧ SqL K H a (ns.map V.int) ∧ ns.length ≤ 63 ∧ ∀ H', Q (.bl true) H'
theorem ok_law (F : Fun K "law" "law" sLaw f fd) (Ce : Cal P w K mg base 1 "_law_cell_at" ["_law_script", "_law_k"] (spCell K)) (M : Cal P w K mg base 1 "_law_mixed" ["_law_cell", "_law_many"] spMixed) (Nm : Cal P w K mg base 1 "_law_names" ["_law_x"] (spNames K)) (Rw : Cal P w K mg base 5 "_law_row" ["_law_cell", "_law_names_here", "_law_few", "_law_wide"] (spRow K))
    (LL : Cal P w K mg base 1 "_law_leans" ["_law_spoken_here", "_law_path_here"] (spSp K leanB)) (LI : Cal P w K mg base 1 "_law_into" ["_law_spoken_here", "_law_path_here"] (spSp K intoB)) (Rg : Cal P w K mg base 3 "ring" ["rows"] (spRing K)) (Wk : Cal P w K mg base 1 "_law_walked" ["_law_found", "_law_reach", "_law_into_here"] (spWalk K)) (Bd : Cal P w K mg base 1 "_law_builds" ["_law_reach", "_law_into_here"] (spBld K)) (m1 : mg "list" = none) :
    FnOk P w K mg base CX0 6 f fd ["_law_script"] (spLaw K) := by
  refine F.ok scLaw (fun vs H Q E h => ?_) (fun cdv A outer s H vs Q E hr h => ?_)
  · obtain ⟨a, ns, rfl, _⟩ := h
    rfl
  obtain ⟨a0, ns, rfl, hq, h63, q⟩ := h
  have hr1 := hr.mono (show 1 ≤ 5 by decide)
  have hr3 := hr.mono (show 3 ≤ 5 by decide)
  refine ⟨_, pss_cons (ps_set (i := 1) scLaw.nd rfl (Or.inr rfl) (pe_cal M hr1 rfl (pa_cons (pe_cal Ce hr1 rfl (pa_cons (pv 0) (pa_cons pe_int pa_nil))) (pa_cons pe_int pa_nil))))
    (pss_cons (ps_set (i := 2) scLaw.nd rfl (Or.inr rfl) (pe_cal Nm hr1 rfl (pa_cons (pe_op op_mod (pe_ix ix_list (pv 1) pe_int (fun _ _ => rfl)) pe_int) pa_nil)))
    (pss_cons (ps_comp (i := 3) (N' := ["_law_cell", "_law_names_here", "_law_hs"]) (fr := [none, some 2, some 1]) (own := [0]) ⟨rfl, rfl, rfl, rfl, rfl, rfl, rfl⟩ rfl scLaw.nd rfl rfl
      (pi_list (pe_slice sl_list (pv 0) (po_some pe_int) (po_some pe_int)))
      (fun _ _ _ _ => pg_name (i := 0) nd_cnh rfl (Or.inl rfl)) (own_name 0) (fun _ _ _ _ => pts_nil) (fun _ _ _ _ => pe_cal Rw hr rfl (pa_cons (pv 0) (pa_cons (pv 1) (pa_cons (pe_cmpR op_eq (pe_op op_mod (pe_ix ix_listC (pv 2) pe_int (fun _ _ => rfl)) pe_int) pe_int (nomark _)) (pa_cons (pe_cmpR op_eq (pe_op op_mod (pe_ix ix_listC (pv 2) pe_int (fun _ _ => rfl)) pe_int) pe_int (nomark _)) pa_nil))))))
    (pss_cons (ps_set (i := 4) scLaw.nd rfl (Or.inr rfl) (pe_comp (N' := ["_law_row_here", "_law_spoken_here"]) (fr := [none, none]) (own := [0, 1]) ⟨rfl, rfl, rfl, rfl, rfl, rfl, rfl⟩ rfl (pi_list (pv 3))
      (fun _ _ _ _ => pg_tup (n := 2) rfl (pgs_cons (pg_name (i := 0) nd_rs rfl (Or.inl rfl)) (pgs_cons (pg_name (i := 1) nd_rs rfl (Or.inl rfl)) pgs_nil))) (own_tup (own_pair 0 1)) (fun _ _ _ _ => pts_nil) (fun _ _ _ _ => pv 0)))
    (pss_cons (ps_compC (i := 5) (N' := ["_law_row_here", "_law_spoken_here", "_law_rows"]) (fr := [none, none, some 4]) (own := [0, 1]) ⟨rfl, rfl, rfl, rfl, rfl, rfl, rfl⟩ rfl scLaw.nd rfl rfl (pi_list (pv 3))
      (fun _ _ _ _ => pg_tup (n := 2) rfl (pgs_cons (pg_name (i := 0) nd_rsr rfl (Or.inl rfl)) (pgs_cons (pg_name (i := 1) nd_rsr rfl (Or.inr rfl)) pgs_nil))) (own_tup (own_pair 0 1)) (fun _ _ _ _ => pts_nil)
      (fun _ _ _ _ => pe_comp (N' := ["_law_other", "_law_spoken_here"]) (fr := [none, some 1]) (own := [0]) ⟨rfl, rfl, rfl, rfl, rfl, rfl, rfl⟩ rfl (pi_listC (pv 2)) (fun _ _ _ _ => pg_name (i := 0) nd_os rfl (Or.inl rfl)) (own_name 0) (fun _ _ _ _ => pts_nil)
        (fun _ _ _ _ => pe_cal LL hr1 rfl (pa_cons (pv 1) (pa_cons (pe_ix ix_tupCC (pv 0) pe_int (fun _ _ => rfl)) pa_nil)))))
    (pss_cons (ps_compC (i := 6) (N' := ["_law_row_here", "_law_spoken_here", "_law_rows"]) (fr := [none, none, some 4]) (own := [0, 1]) ⟨rfl, rfl, rfl, rfl, rfl, rfl, rfl⟩ rfl scLaw.nd rfl rfl (pi_list (pv 3))
      (fun _ _ _ _ => pg_tup (n := 2) rfl (pgs_cons (pg_name (i := 0) nd_rsr rfl (Or.inl rfl)) (pgs_cons (pg_name (i := 1) nd_rsr rfl (Or.inr rfl)) pgs_nil))) (own_tup (own_pair 0 1)) (fun _ _ _ _ => pts_nil)
      (fun _ _ _ _ => pe_comp (N' := ["_law_other", "_law_spoken_here"]) (fr := [none, some 1]) (own := [0]) ⟨rfl, rfl, rfl, rfl, rfl, rfl, rfl⟩ rfl (pi_listC (pv 2)) (fun _ _ _ _ => pg_name (i := 0) nd_os rfl (Or.inl rfl)) (own_name 0) (fun _ _ _ _ => pts_nil)
        (fun _ _ _ _ => pe_cal LI hr1 rfl (pa_cons (pv 1) (pa_cons (pe_ix ix_tupCC (pv 0) pe_int (fun _ _ => rfl)) pa_nil)))))
    (pss_cons (ps_set (i := 7) scLaw.nd rfl (Or.inl rfl) (pe_callTy call_list_of rfl m1 bt_list (pa_cons (pv 4) pa_nil)))
    (pss_cons (ps_set (i := 8) scLaw.nd rfl (Or.inl rfl) (pe_cal Rg hr3 rfl (pa_cons (pv 7) pa_nil)))
    (pss_cons (ps_if (pt_cmpR (op_neR hr.units) (pv 7) (pv 4) (nomark _)) (pss_one (ps_ret pe_bl)) pss_nil)
    (pss_cons (ps_if (pt_cmpR op_notN (pv 8) pe_non (nomark _)) (pss_one (ps_ret (pe_cal Wk hr1 rfl (pa_cons (pv 8) (pa_cons (pv 5) (pa_cons (pv 6) pa_nil)))))) pss_nil)
    (pss_one (ps_ret (pe_not (pe_cal Bd hr1 rfl (pa_cons (pv 5) (pa_cons (pv 6) pa_nil))))))))))))))), ?_⟩
  refine ⟨_, rfl, a0, ns, 0, rfl, hq, fun n0 => ⟨n0, 3, rfl, by decide, fun H1 l1 ms g1 hl1 hlen hms => ?_⟩⟩
  obtain ⟨m0, m1', m2', rfl⟩ := len_3 hlen
  refine ⟨_, rfl, l1, _, _, _, rfl, rfl, SqL.of hl1, atI_nat (j := 0) rfl, _, _, rfl, rfl, (by show (0 : Int) < 67600; decide), m0 % 67600, rfl, Int.emod_nonneg _ (by decide), fun H2 ln ts g2 hnm => ?_⟩
  have g02 : Same H H2 := fun b o h => g2 _ _ (g1 _ _ h)
  have hl12 := g2 _ _ hl1
  obtain ⟨ms2, hms2⟩ := cut_ints ns (some 1) (some 20)
  have h20 : ms2.length ≤ 19 := by
    have h := cut_between V.int ns 1 20
    have e : (ms2.map V.int).length = (((ns.drop 1).take (20 - 1)).map V.int).length := by rw [← hms2]; exact congrArg List.length h
    rw [List.length_map, List.length_map, List.length_take] at e
    omega
  refine ⟨_, rfl, _, rfl, _, rfl, a0, _, rfl, g02.seq hq, fun l3 hl3 => ?_⟩
  rw [hms2]
  have k3 := same_new hl3 (.lst (ms2.map V.int))
  generalize hH3 : upd H2 l3 (.lst (ms2.map V.int)) = H3
  have g23 : Same H2 H3 := by rw [← hH3]; exact k3
  have hl3' : H3 l3 = some (.lst (ms2.map V.int)) := by rw [← hH3]; exact upd_same
  refine ⟨l3, rfl, ⟨_, SqL.of hl3'⟩, fun lt hlt0 => ?_⟩
  refine comp_list (xs := ms2.map V.int) (fun i zs H' => Same H3 H' ∧ H' lt = some (.lst zs) ∧ ∃ es : List TE3, Paired (fun v e => ToV K H' v e ∧ e.1 ≠ lt) zs es ∧ es.length = i)
    ⟨same_new hlt0 _, upd_same, [], .nil, rfl⟩ (fun i zs H' _ ⟨g, _⟩ => SqL.of (g _ _ hl3')) (fun i x zs H' hx hinv => ?_) (fun zs H4 hinv => ?_)
  · obtain ⟨g, hl, es, hP, hel⟩ := hinv
    obtain ⟨c, rfl⟩ := item_int hx
    have hi := (List.getElem?_eq_some_iff.mp hx).1
    rw [List.length_map] at hi
    have hzl := hP.length
    dsimp only [CTurn, gName]
    refine yesT ⟨_, rfl, _, rfl, _, rfl, l1, _, _, _, rfl, rfl, SqL.of (g _ _ (g23 _ _ hl12)), atI_nat (j := 1) rfl, _, _, rfl, rfl, (by show (0 : Int) < 2; decide), rfl, _, rfl, l1, _, _, _, rfl, rfl, SqL.of (g _ _ (g23 _ _ hl12)), atI_nat (j := 2) rfl, _, _, rfl, rfl, (by show (0 : Int) < 2; decide), rfl, c, ln, ts, _, _, rfl, ⟨g.seq (g23.seq hnm.1), hnm.2⟩, fun H6 v ls r qs g6 hls hv => ?_⟩
    have nl : ls ≠ lt := fun e => by rw [e, hl] at hls; cases hls
    have hl6 := g6 _ _ hl
    have kp : DKeep K H6 (upd H6 lt (.lst (zs ++ [v]))) := DKeep.put hl6
    refine ⟨hl6, sz_of (by omega), fun b o h => by rw [upd_ne (ne_of_none h hlt0)]; exact g6 _ _ (g _ _ h), upd_same, es ++ [(ls, r, qs)], Paired.snoc (L2.Paired.mapP hP fun v' e ⟨z1, z2⟩ => ⟨(RowV.same g6 z1).mono kp fun us e' => by rw [upd_ne z2]; exact e', z2⟩) ⟨hv.mono kp fun us e' => by rw [upd_ne nl]; exact e', nl⟩, by rw [List.length_append, hel]; rfl⟩
  obtain ⟨g34, hlt, es, hP, hel⟩ := hinv
  rw [List.length_map] at hel
  have hes4 : Paired (ToV K H4) zs es := L2.Paired.mapP hP fun _ _ z => z.1
  have hzl := hP.length
  generalize hrse : es.map (fun x => x.2.1) = rs
  have hrse := hrse.symm
  have hrn : rs.length = es.length := by rw [hrse, List.length_map]
  -- the rows
  refine ⟨_, rfl, lt, rfl, ⟨_, SqL.of hlt⟩, fun lr hlr0 => ?_⟩
  refine comp_list (xs := zs) (fun i ys H' => Same H4 H' ∧ H' lr = some (.lst ys) ∧ Paired (RgV K H') ys (rs.take i) ∧ ∀ y ∈ ys, ∃ a, y = .ref a) ⟨same_new hlr0 _, upd_same, .nil, fun y hy => by cases hy⟩ (fun i ys H' _ ⟨g, _⟩ => SqL.of (g _ _ hlt)) (fun i x ys H' hx hinv => ?_) (fun us H5 hinv => ?_)
  · obtain ⟨g, hl, hP2, hrf⟩ := hinv
    obtain ⟨e, he, hrow⟩ := pair_get hes4 hx
    obtain ⟨t, x', rfl, ht, hrg, _⟩ := RowV.same g hrow
    have hi := (List.getElem?_eq_some_iff.mp hx).1
    have hyl := hP2.length
    rw [List.length_take] at hyl
    obtain ⟨a', b', c', vs', ex, _⟩ := dv_row hrg.1
    refine ⟨t, _, rfl, ht, rfl, _, _, rfl, _, _, rfl, rfl, yesT ⟨_, rfl, hl, sz_of (by omega), fun b o h => by rw [upd_ne (ne_of_none h hlr0)]; exact g _ _ h, upd_same, ?_, fun y hy => ?_⟩⟩
    · have er : rs[i]? = some e.2.1 := by rw [hrse, List.getElem?_map, he]; rfl
      rw [take_snoc er]
      exact Paired.snoc (L2.Paired.mapP hP2 fun _ _ z => RgV.put hl z) (RgV.put hl hrg)
    · rcases List.mem_append.mp hy with z | z
      · exact hrf y z
      · rw [List.mem_singleton.mp z]; exact ⟨a', ex⟩
  obtain ⟨g45, hlr, hrs, hrf⟩ := hinv
  rw [List.take_of_length_le (by omega)] at hrs
  have hlt := g45 _ _ hlt
  have hes := tos_same g45 hes4
  have hul := hrs.length
  generalize hn : rs.length = n at *
  have hzn : zs.length = n := by omega
  have hn19 : n ≤ 19 := by omega
  have same5 : Same H5 H5 := sameR
  refine ⟨_, rfl, lt, rfl, ⟨_, SqL.of (same5 _ _ hlt)⟩, fun lm hlm => ?_⟩
  refine comp_list (xs := zs) (fun i ys H' => Same H5 H' ∧ ∃ ks : List Addr, ys = ks.map V.ref ∧ MxI H5 H' lm n i ks (relB leanB rs)) ⟨same_new hlm _, [], rfl, ⟨upd_same, rfl, List.nodup_nil, by simp, (fun x hx => by cases hx), fun k hk => absurd hk (Nat.not_lt_zero _)⟩⟩
    (fun i ys H' _ ⟨g, _⟩ => SqL.of (g _ _ (same5 _ _ hlt))) (fun i x ys H' hx hinv => ?_) (fun ys H6 hinv => ?_)
  · obtain ⟨g, ks, rfl, hmx⟩ := hinv
    obtain ⟨e, he, hrow⟩ := pair_get hes hx
    have hi := (List.getElem?_eq_some_iff.mp hx).1
    have gg : Same H5 H' := fun b o h => g _ _ (same5 b o h)
    obtain ⟨t, x', rfl, ht, _, hps, hmem, hq9⟩ := RowV.same gg hrow
    refine ⟨t, _, rfl, ht, rfl, _, _, rfl, _, _, rfl, rfl, yesT ?_⟩
    refine ⟨_, rfl, lr, rfl, ⟨_, SqL.of (gg _ _ hlr)⟩, fun la hla => ?_⟩
    refine comp_valsL (K := K) (xs := us) (rowB n (relB leanB rs) i) hla (SqL.of (gg _ _ hlr)) (by rw [rowB_len]; exact hul) (by rw [rowB_len]; omega) (fun j y b zs' Hy N hy hb gy fin => ?_) (fun H7 g7 hL7 => ?_)
    · obtain ⟨r, hr', hrv⟩ := pair_get hrs hy
      have hj := (List.getElem?_eq_some_iff.mp hy).1
      have gyy : Same H5 Hy := fun b o h => gy _ _ (gg b o h)
      obtain ⟨a', b', c', vs', rfl, hqa, hqb, _, _⟩ := dv_row (RgV.same gyy hrv).1
      rw [rowB_at (by omega)] at hb
      cases hb
      have hoj : ∃ o, es[j]? = some o ∧ o.2.1 = r := by
        rw [hrse, List.getElem?_map] at hr'
        cases eo : es[j]? with
        | none => rw [eo] at hr'; cases hr'
        | some o => rw [eo] at hr'; cases hr'; exact ⟨o, rfl, rfl⟩
      obtain ⟨o, eo, rfl⟩ := hoj
      have erel : relB leanB rs i j = e.2.2.any (leanB o.2.1.1) := by rw [hrse]; exact rel_es he eo hmem
      rw [erel] at fin
      dsimp only [CTurn, gName]
      obtain ⟨us2, hps1, hps2, hps3⟩ := hps
      exact yesT ⟨_, rfl, _, rfl, a', _, _, _, rfl, rfl, hqa, atI_nat (j := 0) rfl, e.1, b', e.2.2, o.2.1.1, rfl, ⟨us2, gy _ _ hps1, DAll.mono (DKeep.same gy) _ _ hps2, hps3⟩, by omega, hqb, fin⟩
    · have hk := hmx.len
      have hmt := g7 _ _ hmx.top
      refine ⟨hmt, by rw [List.length_map]; exact sz_of (by omega), fun b o h => by rw [upd_ne (ne_of_none h hlm)]; exact g7 _ _ (g _ _ h), ks ++ [la], by rw [List.map_append]; rfl, ?_⟩
      have := MxI.add hmx g7 g hla hL7
      rw [List.map_append] at this
      exact this
  obtain ⟨g56, ls1, rfl, hmx56⟩ := hinv
  rw [hzn] at hmx56
  refine ⟨_, rfl, lt, rfl, ⟨_, SqL.of (g56 _ _ hlt)⟩, fun lk hlk => ?_⟩
  refine comp_list (xs := zs) (fun i ys H' => Same H6 H' ∧ ∃ ks : List Addr, ys = ks.map V.ref ∧ MxI H6 H' lk n i ks (relB intoB rs)) ⟨same_new hlk _, [], rfl, ⟨upd_same, rfl, List.nodup_nil, by simp, (fun x hx => by cases hx), fun k hk => absurd hk (Nat.not_lt_zero _)⟩⟩
    (fun i ys H' _ ⟨g, _⟩ => SqL.of (g _ _ (g56 _ _ hlt))) (fun i x ys H' hx hinv => ?_) (fun ys H7 hinv => ?_)
  · obtain ⟨g, ks, rfl, hmx⟩ := hinv
    obtain ⟨e, he, hrow⟩ := pair_get hes hx
    have hi := (List.getElem?_eq_some_iff.mp hx).1
    have gg : Same H5 H' := fun b o h => g _ _ (g56 b o h)
    obtain ⟨t, x', rfl, ht, _, hps, hmem, hq9⟩ := RowV.same gg hrow
    refine ⟨t, _, rfl, ht, rfl, _, _, rfl, _, _, rfl, rfl, yesT ?_⟩
    refine ⟨_, rfl, lr, rfl, ⟨_, SqL.of (gg _ _ hlr)⟩, fun la hla => ?_⟩
    refine comp_valsL (K := K) (xs := us) (rowB n (relB intoB rs) i) hla (SqL.of (gg _ _ hlr)) (by rw [rowB_len]; exact hul) (by rw [rowB_len]; omega) (fun j y b zs' Hy N hy hb gy fin => ?_) (fun H7 g7 hL7 => ?_)
    · obtain ⟨r, hr', hrv⟩ := pair_get hrs hy
      have hj := (List.getElem?_eq_some_iff.mp hy).1
      have gyy : Same H5 Hy := fun b o h => gy _ _ (gg b o h)
      obtain ⟨a', b', c', vs', rfl, hqa, hqb, _, _⟩ := dv_row (RgV.same gyy hrv).1
      rw [rowB_at (by omega)] at hb
      cases hb
      have hoj : ∃ o, es[j]? = some o ∧ o.2.1 = r := by
        rw [hrse, List.getElem?_map] at hr'
        cases eo : es[j]? with
        | none => rw [eo] at hr'; cases hr'
        | some o => rw [eo] at hr'; cases hr'; exact ⟨o, rfl, rfl⟩
      obtain ⟨o, eo, rfl⟩ := hoj
      have erel : relB intoB rs i j = e.2.2.any (intoB o.2.1.1) := by rw [hrse]; exact rel_es he eo hmem
      rw [erel] at fin
      dsimp only [CTurn, gName]
      obtain ⟨us2, hps1, hps2, hps3⟩ := hps
      exact yesT ⟨_, rfl, _, rfl, a', _, _, _, rfl, rfl, hqa, atI_nat (j := 0) rfl, e.1, b', e.2.2, o.2.1.1, rfl, ⟨us2, gy _ _ hps1, DAll.mono (DKeep.same gy) _ _ hps2, hps3⟩, by omega, hqb, fin⟩
    · have hk := hmx.len
      have hmt := g7 _ _ hmx.top
      refine ⟨hmt, by rw [List.length_map]; exact sz_of (by omega), fun b o h => by rw [upd_ne (ne_of_none h hlk)]; exact g7 _ _ (g _ _ h), ks ++ [la], by rw [List.map_append]; rfl, ?_⟩
      have := MxI.add hmx g7 g hla hL7
      rw [List.map_append] at this
      exact this
  obtain ⟨g67, ls2, rfl, hmx67⟩ := hinv
  rw [hzn] at hmx67
  have hM7 := (hmx56.done).same g67
  have hI7 := hmx67.done
  have g57 : Same H5 H7 := fun b o h => g67 _ _ (g56 _ _ h)
  have hdis : ∀ x ∈ ls1, x ∉ ls2 ∧ x ≠ lk := fun x hx => by
    obtain ⟨k, hk, ek⟩ := List.getElem_of_mem hx
    obtain ⟨y, e1, e2⟩ := hmx56.row k (by rw [← hmx56.len]; exact hk)
    rw [List.getElem?_eq_getElem hk, ek] at e1
    cases e1
    refine ⟨fun hm => ?_, fun e => ?_⟩
    · rw [hmx67.new x hm] at e2; cases e2
    · rw [e, hlk] at e2; cases e2
  refine ⟨_, rfl, lr, us, rfl, .inl (SqL.of (g57 _ _ hlr)), fun lh hlh => ?_⟩
  have kh := same_new hlh (.lst us)
  have hrs8 : Paired (RgV K _) us rs := L2.Paired.mapP hrs fun _ _ z => RgV.same (fun b o h => kh _ _ (g57 _ _ h)) z
  have hlr8 := kh _ _ (g57 _ _ hlr)
  have hM8 := hM7.same kh
  have hI8 := hI7.same kh
  have hlh8 := (fun {Hx : Hp} (_ : Same Hx (upd Hx lh (.lst us))) => (upd_same : upd Hx lh (.lst us) lh = some (.lst us))) kh
  clear kh
  revert hrs8 hlr8 hM8 hI8 hlh8
  generalize upd H7 lh (.lst us) = H8
  intro hrs8 hlr8 hM8 hI8 hlh8
  refine ⟨_, rfl, lh, us, rs, rfl, hlh8, hrs8, by omega, fun H9 lf p g9 hlf0 hlf hring => ?_, fun H9 g9 hno => ?_⟩
  · rw [hn] at hring
    refine ⟨_, rfl, _, rfl, lh, lr, us, rfl, rfl, g9 _ _ hlh8, g9 _ _ hlr8, hrf, false, rfl, iteF ?_⟩
    refine ⟨_, rfl, rfl, true, rfl, iteT ?_⟩
    exact ⟨_, rfl, _, rfl, _, rfl, lf, lm, lk, n, p, ls1, ls2, relB leanB rs, relB intoB rs, rfl, hlf, hM8.same g9, hI8.same g9, by omega, hring, q⟩
  · rw [hn] at hno
    refine ⟨_, rfl, _, rfl, lh, lr, us, rfl, rfl, g9 _ _ hlh8, g9 _ _ hlr8, hrf, false, rfl, iteF ?_⟩
    refine ⟨_, rfl, rfl, false, rfl, iteF ?_⟩
    refine ⟨_, rfl, _, rfl, lm, lk, n, ls1, ls2, relB leanB rs, relB intoB rs, Ed n (relB leanB rs), rfl, hM8.same g9, hI8.same g9, hdis, by omega, fun i j hi hj h => .snoc (.refl i) ⟨hi, hj, h⟩, fun i j hi hj h => hno i j ⟨hi, hj, ?_⟩ h, fun H' => ⟨false, rfl, q H'⟩⟩
    -- what leans into leans
    unfold relB at h ⊢
    cases e1 : rs[i]? with
    | none => rw [e1] at h; cases h
    | some r =>
      cases e2 : rs[j]? with
      | none => rw [e1, e2] at h; cases h
      | some o =>
        rw [e1, e2] at h
        obtain ⟨x, hx, hb⟩ := List.any_eq_true.mp h
        refine List.any_eq_true.mpr ⟨x, hx, ?_⟩
        unfold intoB at hb
        unfold leanB
        rw [Bool.and_eq_true] at hb
        rw [hb.2]
        rfl
end
end Law

set_option Elab.async false
set_option linter.all false
set_option maxRecDepth 100000
set_option maxHeartbeats 4000000
namespace Law
open PySem L2 L2.Sp
theorem all_mk {l : PySem.W.OpenLaw} {w : World} {K : PySem.W.Frag} {h : Heap} {mg : Str → Option Value} {fa : Addr} (X : K.In h) (G : h.Ns mainGlobals mg) (hfa : mg "law" = some (.ref fa))
    {f_begins : Addr} {od_begins an_begins : Option Addr} {sl_begins : Array (Option Value)} {oc_begins kV_begins dc_begins pm_begins cd_begins ct_begins : Value}
    {f_places_of : Addr} {od_places_of an_places_of : Option Addr} {sl_places_of : Array (Option Value)} {oc_places_of kV_places_of dc_places_of pm_places_of cd_places_of ct_places_of : Value}
    {f_leans : Addr} {od_leans an_leans : Option Addr} {sl_leans : Array (Option Value)} {oc_leans kV_leans dc_leans pm_leans cd_leans ct_leans : Value}
    {f_leans_into : Addr} {od_leans_into an_leans_into : Option Addr} {sl_leans_into : Array (Option Value)} {oc_leans_into kV_leans_into dc_leans_into pm_leans_into cd_leans_into ct_leans_into : Value}
    {f_way_to : Addr} {od_way_to an_way_to : Option Addr} {sl_way_to : Array (Option Value)} {oc_way_to kV_way_to dc_way_to pm_way_to cd_way_to ct_way_to : Value}
    {f_shortest_way : Addr} {od_shortest_way an_shortest_way : Option Addr} {sl_shortest_way : Array (Option Value)} {oc_shortest_way kV_shortest_way dc_shortest_way pm_shortest_way cd_shortest_way ct_shortest_way : Value}
    {f_ring : Addr} {od_ring an_ring : Option Addr} {sl_ring : Array (Option Value)} {oc_ring kV_ring dc_ring pm_ring cd_ring ct_ring : Value}
    {f__law_cell_at : Addr} {od__law_cell_at an__law_cell_at : Option Addr} {sl__law_cell_at : Array (Option Value)} {oc__law_cell_at kV__law_cell_at dc__law_cell_at pm__law_cell_at cd__law_cell_at ct__law_cell_at : Value}
    {f__law_mixed : Addr} {od__law_mixed an__law_mixed : Option Addr} {sl__law_mixed : Array (Option Value)} {oc__law_mixed kV__law_mixed dc__law_mixed pm__law_mixed cd__law_mixed ct__law_mixed : Value}
    {f__law_names : Addr} {od__law_names an__law_names : Option Addr} {sl__law_names : Array (Option Value)} {oc__law_names kV__law_names dc__law_names pm__law_names cd__law_names ct__law_names : Value}
    {f__law_path : Addr} {od__law_path an__law_path : Option Addr} {sl__law_path : Array (Option Value)} {oc__law_path kV__law_path dc__law_path pm__law_path cd__law_path ct__law_path : Value}
    {f__law_leaf : Addr} {od__law_leaf an__law_leaf : Option Addr} {sl__law_leaf : Array (Option Value)} {oc__law_leaf kV__law_leaf dc__law_leaf pm__law_leaf cd__law_leaf ct__law_leaf : Value}
    {f__law_plain : Addr} {od__law_plain an__law_plain : Option Addr} {sl__law_plain : Array (Option Value)} {oc__law_plain kV__law_plain dc__law_plain pm__law_plain cd__law_plain ct__law_plain : Value}
    {f__law_spoken : Addr} {od__law_spoken an__law_spoken : Option Addr} {sl__law_spoken : Array (Option Value)} {oc__law_spoken kV__law_spoken dc__law_spoken pm__law_spoken cd__law_spoken ct__law_spoken : Value}
    {f__law_tree_with : Addr} {od__law_tree_with an__law_tree_with : Option Addr} {sl__law_tree_with : Array (Option Value)} {oc__law_tree_with kV__law_tree_with dc__law_tree_with pm__law_tree_with cd__law_tree_with ct__law_tree_with : Value}
    {f__law_row : Addr} {od__law_row an__law_row : Option Addr} {sl__law_row : Array (Option Value)} {oc__law_row kV__law_row dc__law_row pm__law_row cd__law_row ct__law_row : Value}
    {f__law_leans : Addr} {od__law_leans an__law_leans : Option Addr} {sl__law_leans : Array (Option Value)} {oc__law_leans kV__law_leans dc__law_leans pm__law_leans cd__law_leans ct__law_leans : Value}
    {f__law_into : Addr} {od__law_into an__law_into : Option Addr} {sl__law_into : Array (Option Value)} {oc__law_into kV__law_into dc__law_into pm__law_into cd__law_into ct__law_into : Value}
    {f__law_builds : Addr} {od__law_builds an__law_builds : Option Addr} {sl__law_builds : Array (Option Value)} {oc__law_builds kV__law_builds dc__law_builds pm__law_builds cd__law_builds ct__law_builds : Value}
    {f__law_walked : Addr} {od__law_walked an__law_walked : Option Addr} {sl__law_walked : Array (Option Value)} {oc__law_walked kV__law_walked dc__law_walked pm__law_walked cd__law_walked ct__law_walked : Value}
    {f_law : Addr} {od_law an_law : Option Addr} {sl_law : Array (Option Value)} {oc_law kV_law dc_law pm_law cd_law ct_law : Value}
    (a_begins : PySem.W.nsIn K mainGlobals "begins" = some (some (.ref f_begins))) (l_begins : K.lookup f_begins = some ⟨oc_begins, od_begins, .func (PySem.W.fnOf "begins" "begins" (defArgs sBeg) (defBody sBeg) (defScope sBeg) .none kV_begins dc_begins pm_begins an_begins cd_begins ct_begins), sl_begins⟩) (c_begins : PySem.W.codeIn K cd_begins "begins" = true) (k_begins : PySem.W.keepIn K (.ref f_begins) = true)
    (a_places_of : PySem.W.nsIn K mainGlobals "places_of" = some (some (.ref f_places_of))) (l_places_of : K.lookup f_places_of = some ⟨oc_places_of, od_places_of, .func (PySem.W.fnOf "places_of" "places_of" (defArgs sPlaces) (defBody sPlaces) (defScope sPlaces) .none kV_places_of dc_places_of pm_places_of an_places_of cd_places_of ct_places_of), sl_places_of⟩) (c_places_of : PySem.W.codeIn K cd_places_of "places_of" = true) (k_places_of : PySem.W.keepIn K (.ref f_places_of) = true)
    (a_leans : PySem.W.nsIn K mainGlobals "leans" = some (some (.ref f_leans))) (l_leans : K.lookup f_leans = some ⟨oc_leans, od_leans, .func (PySem.W.fnOf "leans" "leans" (defArgs sLeans) (defBody sLeans) (defScope sLeans) .none kV_leans dc_leans pm_leans an_leans cd_leans ct_leans), sl_leans⟩) (c_leans : PySem.W.codeIn K cd_leans "leans" = true) (k_leans : PySem.W.keepIn K (.ref f_leans) = true)
    (a_leans_into : PySem.W.nsIn K mainGlobals "leans_into" = some (some (.ref f_leans_into))) (l_leans_into : K.lookup f_leans_into = some ⟨oc_leans_into, od_leans_into, .func (PySem.W.fnOf "leans_into" "leans_into" (defArgs sInto) (defBody sInto) (defScope sInto) .none kV_leans_into dc_leans_into pm_leans_into an_leans_into cd_leans_into ct_leans_into), sl_leans_into⟩) (c_leans_into : PySem.W.codeIn K cd_leans_into "leans_into" = true) (k_leans_into : PySem.W.keepIn K (.ref f_leans_into) = true)
    (a_way_to : PySem.W.nsIn K mainGlobals "way_to" = some (some (.ref f_way_to))) (l_way_to : K.lookup f_way_to = some ⟨oc_way_to, od_way_to, .func (PySem.W.fnOf "way_to" "way_to" (defArgs sWay) (defBody sWay) (defScope sWay) .none kV_way_to dc_way_to pm_way_to an_way_to cd_way_to ct_way_to), sl_way_to⟩) (c_way_to : PySem.W.codeIn K cd_way_to "way_to" = true) (k_way_to : PySem.W.keepIn K (.ref f_way_to) = true)
    (a_shortest_way : PySem.W.nsIn K mainGlobals "shortest_way" = some (some (.ref f_shortest_way))) (l_shortest_way : K.lookup f_shortest_way = some ⟨oc_shortest_way, od_shortest_way, .func (PySem.W.fnOf "shortest_way" "shortest_way" (defArgs sShort) (defBody sShort) (defScope sShort) .none kV_shortest_way dc_shortest_way pm_shortest_way an_shortest_way cd_shortest_way ct_shortest_way), sl_shortest_way⟩) (c_shortest_way : PySem.W.codeIn K cd_shortest_way "shortest_way" = true) (k_shortest_way : PySem.W.keepIn K (.ref f_shortest_way) = true)
    (a_ring : PySem.W.nsIn K mainGlobals "ring" = some (some (.ref f_ring))) (l_ring : K.lookup f_ring = some ⟨oc_ring, od_ring, .func (PySem.W.fnOf "ring" "ring" (defArgs sRing) (defBody sRing) (defScope sRing) .none kV_ring dc_ring pm_ring an_ring cd_ring ct_ring), sl_ring⟩) (c_ring : PySem.W.codeIn K cd_ring "ring" = true) (k_ring : PySem.W.keepIn K (.ref f_ring) = true)
    (a__law_cell_at : PySem.W.nsIn K mainGlobals "_law_cell_at" = some (some (.ref f__law_cell_at))) (l__law_cell_at : K.lookup f__law_cell_at = some ⟨oc__law_cell_at, od__law_cell_at, .func (PySem.W.fnOf "_law_cell_at" "_law_cell_at" (defArgs sCell) (defBody sCell) (defScope sCell) .none kV__law_cell_at dc__law_cell_at pm__law_cell_at an__law_cell_at cd__law_cell_at ct__law_cell_at), sl__law_cell_at⟩) (c__law_cell_at : PySem.W.codeIn K cd__law_cell_at "_law_cell_at" = true) (k__law_cell_at : PySem.W.keepIn K (.ref f__law_cell_at) = true)
    (a__law_mixed : PySem.W.nsIn K mainGlobals "_law_mixed" = some (some (.ref f__law_mixed))) (l__law_mixed : K.lookup f__law_mixed = some ⟨oc__law_mixed, od__law_mixed, .func (PySem.W.fnOf "_law_mixed" "_law_mixed" (defArgs sMixed) (defBody sMixed) (defScope sMixed) .none kV__law_mixed dc__law_mixed pm__law_mixed an__law_mixed cd__law_mixed ct__law_mixed), sl__law_mixed⟩) (c__law_mixed : PySem.W.codeIn K cd__law_mixed "_law_mixed" = true) (k__law_mixed : PySem.W.keepIn K (.ref f__law_mixed) = true)
    (a__law_names : PySem.W.nsIn K mainGlobals "_law_names" = some (some (.ref f__law_names))) (l__law_names : K.lookup f__law_names = some ⟨oc__law_names, od__law_names, .func (PySem.W.fnOf "_law_names" "_law_names" (defArgs sNames) (defBody sNames) (defScope sNames) .none kV__law_names dc__law_names pm__law_names an__law_names cd__law_names ct__law_names), sl__law_names⟩) (c__law_names : PySem.W.codeIn K cd__law_names "_law_names" = true) (k__law_names : PySem.W.keepIn K (.ref f__law_names) = true)
    (a__law_path : PySem.W.nsIn K mainGlobals "_law_path" = some (some (.ref f__law_path))) (l__law_path : K.lookup f__law_path = some ⟨oc__law_path, od__law_path, .func (PySem.W.fnOf "_law_path" "_law_path" (defArgs sPath) (defBody sPath) (defScope sPath) .none kV__law_path dc__law_path pm__law_path an__law_path cd__law_path ct__law_path), sl__law_path⟩) (c__law_path : PySem.W.codeIn K cd__law_path "_law_path" = true) (k__law_path : PySem.W.keepIn K (.ref f__law_path) = true)
    (a__law_leaf : PySem.W.nsIn K mainGlobals "_law_leaf" = some (some (.ref f__law_leaf))) (l__law_leaf : K.lookup f__law_leaf = some ⟨oc__law_leaf, od__law_leaf, .func (PySem.W.fnOf "_law_leaf" "_law_leaf" (defArgs sLeaf) (defBody sLeaf) (defScope sLeaf) .none kV__law_leaf dc__law_leaf pm__law_leaf an__law_leaf cd__law_leaf ct__law_leaf), sl__law_leaf⟩) (c__law_leaf : PySem.W.codeIn K cd__law_leaf "_law_leaf" = true) (k__law_leaf : PySem.W.keepIn K (.ref f__law_leaf) = true)
    (a__law_plain : PySem.W.nsIn K mainGlobals "_law_plain" = some (some (.ref f__law_plain))) (l__law_plain : K.lookup f__law_plain = some ⟨oc__law_plain, od__law_plain, .func (PySem.W.fnOf "_law_plain" "_law_plain" (defArgs sPlain) (defBody sPlain) (defScope sPlain) .none kV__law_plain dc__law_plain pm__law_plain an__law_plain cd__law_plain ct__law_plain), sl__law_plain⟩) (c__law_plain : PySem.W.codeIn K cd__law_plain "_law_plain" = true) (k__law_plain : PySem.W.keepIn K (.ref f__law_plain) = true)
    (a__law_spoken : PySem.W.nsIn K mainGlobals "_law_spoken" = some (some (.ref f__law_spoken))) (l__law_spoken : K.lookup f__law_spoken = some ⟨oc__law_spoken, od__law_spoken, .func (PySem.W.fnOf "_law_spoken" "_law_spoken" (defArgs sSpoken) (defBody sSpoken) (defScope sSpoken) .none kV__law_spoken dc__law_spoken pm__law_spoken an__law_spoken cd__law_spoken ct__law_spoken), sl__law_spoken⟩) (c__law_spoken : PySem.W.codeIn K cd__law_spoken "_law_spoken" = true) (k__law_spoken : PySem.W.keepIn K (.ref f__law_spoken) = true)
    (a__law_tree_with : PySem.W.nsIn K mainGlobals "_law_tree_with" = some (some (.ref f__law_tree_with))) (l__law_tree_with : K.lookup f__law_tree_with = some ⟨oc__law_tree_with, od__law_tree_with, .func (PySem.W.fnOf "_law_tree_with" "_law_tree_with" (defArgs sWith) (defBody sWith) (defScope sWith) .none kV__law_tree_with dc__law_tree_with pm__law_tree_with an__law_tree_with cd__law_tree_with ct__law_tree_with), sl__law_tree_with⟩) (c__law_tree_with : PySem.W.codeIn K cd__law_tree_with "_law_tree_with" = true) (k__law_tree_with : PySem.W.keepIn K (.ref f__law_tree_with) = true)
    (a__law_row : PySem.W.nsIn K mainGlobals "_law_row" = some (some (.ref f__law_row))) (l__law_row : K.lookup f__law_row = some ⟨oc__law_row, od__law_row, .func (PySem.W.fnOf "_law_row" "_law_row" (defArgs sRow) (defBody sRow) (defScope sRow) .none kV__law_row dc__law_row pm__law_row an__law_row cd__law_row ct__law_row), sl__law_row⟩) (c__law_row : PySem.W.codeIn K cd__law_row "_law_row" = true) (k__law_row : PySem.W.keepIn K (.ref f__law_row) = true)
    (a__law_leans : PySem.W.nsIn K mainGlobals "_law_leans" = some (some (.ref f__law_leans))) (l__law_leans : K.lookup f__law_leans = some ⟨oc__law_leans, od__law_leans, .func (PySem.W.fnOf "_law_leans" "_law_leans" (defArgs sLLeans) (defBody sLLeans) (defScope sLLeans) .none kV__law_leans dc__law_leans pm__law_leans an__law_leans cd__law_leans ct__law_leans), sl__law_leans⟩) (c__law_leans : PySem.W.codeIn K cd__law_leans "_law_leans" = true) (k__law_leans : PySem.W.keepIn K (.ref f__law_leans) = true)
    (a__law_into : PySem.W.nsIn K mainGlobals "_law_into" = some (some (.ref f__law_into))) (l__law_into : K.lookup f__law_into = some ⟨oc__law_into, od__law_into, .func (PySem.W.fnOf "_law_into" "_law_into" (defArgs sLInto) (defBody sLInto) (defScope sLInto) .none kV__law_into dc__law_into pm__law_into an__law_into cd__law_into ct__law_into), sl__law_into⟩) (c__law_into : PySem.W.codeIn K cd__law_into "_law_into" = true) (k__law_into : PySem.W.keepIn K (.ref f__law_into) = true)
    (a__law_builds : PySem.W.nsIn K mainGlobals "_law_builds" = some (some (.ref f__law_builds))) (l__law_builds : K.lookup f__law_builds = some ⟨oc__law_builds, od__law_builds, .func (PySem.W.fnOf "_law_builds" "_law_builds" (defArgs sBld) (defBody sBld) (defScope sBld) .none kV__law_builds dc__law_builds pm__law_builds an__law_builds cd__law_builds ct__law_builds), sl__law_builds⟩) (c__law_builds : PySem.W.codeIn K cd__law_builds "_law_builds" = true) (k__law_builds : PySem.W.keepIn K (.ref f__law_builds) = true)
    (a__law_walked : PySem.W.nsIn K mainGlobals "_law_walked" = some (some (.ref f__law_walked))) (l__law_walked : K.lookup f__law_walked = some ⟨oc__law_walked, od__law_walked, .func (PySem.W.fnOf "_law_walked" "_law_walked" (defArgs sWalk) (defBody sWalk) (defScope sWalk) .none kV__law_walked dc__law_walked pm__law_walked an__law_walked cd__law_walked ct__law_walked), sl__law_walked⟩) (c__law_walked : PySem.W.codeIn K cd__law_walked "_law_walked" = true) (k__law_walked : PySem.W.keepIn K (.ref f__law_walked) = true)
    (a_law : PySem.W.nsIn K mainGlobals "law" = some (some (.ref f_law))) (l_law : K.lookup f_law = some ⟨oc_law, od_law, .func (PySem.W.fnOf "law" "law" (defArgs sLaw) (defBody sLaw) (defScope sLaw) .none kV_law dc_law pm_law an_law cd_law ct_law), sl_law⟩) (c_law : PySem.W.codeIn K cd_law "law" = true) (k_law : PySem.W.keepIn K (.ref f_law) = true)
    (z_all : PySem.W.nsIn K mainGlobals "all" = some none)
    (z_any : PySem.W.nsIn K mainGlobals "any" = some none)
    (z_bool : PySem.W.nsIn K mainGlobals "bool" = some none)
    (z_enumerate : PySem.W.nsIn K mainGlobals "enumerate" = some none)
    (z_int : PySem.W.nsIn K mainGlobals "int" = some none)
    (z_isinstance : PySem.W.nsIn K mainGlobals "isinstance" = some none)
    (z_len : PySem.W.nsIn K mainGlobals "len" = some none)
    (z_list : PySem.W.nsIn K mainGlobals "list" = some none)
    (z_min : PySem.W.nsIn K mainGlobals "min" = some none)
    (z_range : PySem.W.nsIn K mainGlobals "range" = some none)
    (z_reversed : PySem.W.nsIn K mainGlobals "reversed" = some none)
    (z_set : PySem.W.nsIn K mainGlobals "set" = some none)
    (z_tuple : PySem.W.nsIn K mainGlobals "tuple" = some none)
    (z_zip : PySem.W.nsIn K mainGlobals "zip" = some none) :
    ∃ fd : FuncData, (∀ (s : Shared) (v : Value), BindsTo s fd ⟨[v], []⟩ [("_law_script", v)]) ∧ ∀ base : Heap, K.In base → base.Ns mainGlobals mg → FnOk l.prog w K mg base CX0 6 fa fd ["_law_script"] (spLaw K) := by
  have e := hfa.symm.trans (PySem.W.mg_of X G a_law)
  cases e
  have F_begins := fun_mk (st := sBeg) l_begins c_begins k_begins
  have F_places_of := fun_mk (st := sPlaces) l_places_of c_places_of k_places_of
  have F_leans := fun_mk (st := sLeans) l_leans c_leans k_leans
  have F_leans_into := fun_mk (st := sInto) l_leans_into c_leans_into k_leans_into
  have F_way_to := fun_mk (st := sWay) l_way_to c_way_to k_way_to
  have F_shortest_way := fun_mk (st := sShort) l_shortest_way c_shortest_way k_shortest_way
  have F_ring := fun_mk (st := sRing) l_ring c_ring k_ring
  have F__law_cell_at := fun_mk (st := sCell) l__law_cell_at c__law_cell_at k__law_cell_at
  have F__law_mixed := fun_mk (st := sMixed) l__law_mixed c__law_mixed k__law_mixed
  have F__law_names := fun_mk (st := sNames) l__law_names c__law_names k__law_names
  have F__law_path := fun_mk (st := sPath) l__law_path c__law_path k__law_path
  have F__law_leaf := fun_mk (st := sLeaf) l__law_leaf c__law_leaf k__law_leaf
  have F__law_plain := fun_mk (st := sPlain) l__law_plain c__law_plain k__law_plain
  have F__law_spoken := fun_mk (st := sSpoken) l__law_spoken c__law_spoken k__law_spoken
  have F__law_tree_with := fun_mk (st := sWith) l__law_tree_with c__law_tree_with k__law_tree_with
  have F__law_row := fun_mk (st := sRow) l__law_row c__law_row k__law_row
  have F__law_leans := fun_mk (st := sLLeans) l__law_leans c__law_leans k__law_leans
  have F__law_into := fun_mk (st := sLInto) l__law_into c__law_into k__law_into
  have F__law_builds := fun_mk (st := sBld) l__law_builds c__law_builds k__law_builds
  have F__law_walked := fun_mk (st := sWalk) l__law_walked c__law_walked k__law_walked
  have F_law := fun_mk (st := sLaw) l_law c_law k_law
  have b_begins := F_begins.binds (ps := ["path", "longer"]) fun _ _ _ _ _ _ us hl => match us, hl with | [_, _], _ => rfl
  have b_places_of := F_places_of.binds (ps := ["trees"]) fun _ _ _ _ _ _ us hl => match us, hl with | [_], _ => rfl
  have b_leans := F_leans.binds (ps := ["row", "other"]) fun _ _ _ _ _ _ us hl => match us, hl with | [_, _], _ => rfl
  have b_leans_into := F_leans_into.binds (ps := ["row", "other"]) fun _ _ _ _ _ _ us hl => match us, hl with | [_, _], _ => rfl
  have b_way_to := F_way_to.binds (ps := ["came_from", "last"]) fun _ _ _ _ _ _ us hl => match us, hl with | [_, _], _ => rfl
  have b_shortest_way := F_shortest_way.binds (ps := ["nexts", "first", "last"]) fun _ _ _ _ _ _ us hl => match us, hl with | [_, _, _], _ => rfl
  have b_ring := F_ring.binds (ps := ["rows"]) fun _ _ _ _ _ _ us hl => match us, hl with | [_], _ => rfl
  have b__law_cell_at := F__law_cell_at.binds (ps := ["_law_script", "_law_k"]) fun _ _ _ _ _ _ us hl => match us, hl with | [_, _], _ => rfl
  have b__law_mixed := F__law_mixed.binds (ps := ["_law_cell", "_law_many"]) fun _ _ _ _ _ _ us hl => match us, hl with | [_, _], _ => rfl
  have b__law_names := F__law_names.binds (ps := ["_law_x"]) fun _ _ _ _ _ _ us hl => match us, hl with | [_], _ => rfl
  have b__law_path := F__law_path.binds (ps := ["_law_x", "_law_names_here"]) fun _ _ _ _ _ _ us hl => match us, hl with | [_, _], _ => rfl
  have b__law_leaf := F__law_leaf.binds (ps := ["_law_x"]) fun _ _ _ _ _ _ us hl => match us, hl with | [_], _ => rfl
  have b__law_plain := F__law_plain.binds (ps := ["_law_x", "_law_names_here"]) fun _ _ _ _ _ _ us hl => match us, hl with | [_, _], _ => rfl
  have b__law_spoken := F__law_spoken.binds (ps := ["_law_xs", "_law_names_here"]) fun _ _ _ _ _ _ us hl => match us, hl with | [_, _], _ => rfl
  have b__law_tree_with := F__law_tree_with.binds (ps := ["_law_x", "_law_spoken_here", "_law_names_here"]) fun _ _ _ _ _ _ us hl => match us, hl with | [_, _, _], _ => rfl
  have b__law_row := F__law_row.binds (ps := ["_law_cell", "_law_names_here", "_law_few", "_law_wide"]) fun _ _ _ _ _ _ us hl => match us, hl with | [_, _, _, _], _ => rfl
  have b__law_leans := F__law_leans.binds (ps := ["_law_spoken_here", "_law_path_here"]) fun _ _ _ _ _ _ us hl => match us, hl with | [_, _], _ => rfl
  have b__law_into := F__law_into.binds (ps := ["_law_spoken_here", "_law_path_here"]) fun _ _ _ _ _ _ us hl => match us, hl with | [_, _], _ => rfl
  have b__law_builds := F__law_builds.binds (ps := ["_law_reach", "_law_into_here"]) fun _ _ _ _ _ _ us hl => match us, hl with | [_, _], _ => rfl
  have b__law_walked := F__law_walked.binds (ps := ["_law_found", "_law_reach", "_law_into_here"]) fun _ _ _ _ _ _ us hl => match us, hl with | [_, _, _], _ => rfl
  have m_all := PySem.W.mg_none_of X G z_all
  have m_any := PySem.W.mg_none_of X G z_any
  have m_bool := PySem.W.mg_none_of X G z_bool
  have m_enumerate := PySem.W.mg_none_of X G z_enumerate
  have m_int := PySem.W.mg_none_of X G z_int
  have m_isinstance := PySem.W.mg_none_of X G z_isinstance
  have m_len := PySem.W.mg_none_of X G z_len
  have m_list := PySem.W.mg_none_of X G z_list
  have m_min := PySem.W.mg_none_of X G z_min
  have m_range := PySem.W.mg_none_of X G z_range
  have m_reversed := PySem.W.mg_none_of X G z_reversed
  have m_set := PySem.W.mg_none_of X G z_set
  have m_tuple := PySem.W.mg_none_of X G z_tuple
  have m_zip := PySem.W.mg_none_of X G z_zip
  refine ⟨PySem.W.fnOf "law" "law" (defArgs sLaw) (defBody sLaw) (defScope sLaw) .none kV_law dc_law pm_law an_law cd_law ct_law, fun s v => .of_eq rfl, fun base _ _ => ?_⟩
  have C_begins : Cal l.prog w K mg base 1 "begins" ["path", "longer"] (spBeg K) := ⟨_, _, ok_beg F_begins m_len, PySem.W.mg_of X G a_begins, k_begins, b_begins⟩
  have C_places_of : Cal l.prog w K mg base 1 "places_of" ["trees"] (spPlaces K) := ⟨_, _, ok_places F_places_of m_len m_list, PySem.W.mg_of X G a_places_of, k_places_of, b_places_of⟩
  have C_leans : Cal l.prog w K mg base 2 "leans" ["row", "other"] (spLn K leanB) := ⟨_, _, ok_leans F_leans C_begins C_places_of m_any, PySem.W.mg_of X G a_leans, k_leans, b_leans⟩
  have C_leans_into : Cal l.prog w K mg base 2 "leans_into" ["row", "other"] (spLn K intoB) := ⟨_, _, ok_into F_leans_into C_begins C_places_of m_any m_len, PySem.W.mg_of X G a_leans_into, k_leans_into, b_leans_into⟩
  have C_way_to : Cal l.prog w K mg base 1 "way_to" ["came_from", "last"] spWay := ⟨_, _, ok_way F_way_to m_list m_reversed, PySem.W.mg_of X G a_way_to, k_way_to, b_way_to⟩
  have C_shortest_way : Cal l.prog w K mg base 2 "shortest_way" ["nexts", "first", "last"] spShort := ⟨_, _, ok_short F_shortest_way C_way_to m_len, PySem.W.mg_of X G a_shortest_way, k_shortest_way, b_shortest_way⟩
  have C_ring : Cal l.prog w K mg base 3 "ring" ["rows"] (spRing K) := ⟨_, _, ok_ring F_ring C_leans C_leans_into C_shortest_way m_enumerate, PySem.W.mg_of X G a_ring, k_ring, b_ring⟩
  have C__law_cell_at : Cal l.prog w K mg base 1 "_law_cell_at" ["_law_script", "_law_k"] (spCell K) := ⟨_, _, ok_cell F__law_cell_at m_len, PySem.W.mg_of X G a__law_cell_at, k__law_cell_at, b__law_cell_at⟩
  have C__law_mixed : Cal l.prog w K mg base 1 "_law_mixed" ["_law_cell", "_law_many"] spMixed := ⟨_, _, ok_mixed F__law_mixed m_range, PySem.W.mg_of X G a__law_mixed, k__law_mixed, b__law_mixed⟩
  have C__law_names : Cal l.prog w K mg base 1 "_law_names" ["_law_x"] (spNames K) := ⟨_, _, ok_names F__law_names, PySem.W.mg_of X G a__law_names, k__law_names, b__law_names⟩
  have C__law_path : Cal l.prog w K mg base 2 "_law_path" ["_law_x", "_law_names_here"] (spPath K) := ⟨_, _, ok_path F__law_path C__law_mixed m_tuple, PySem.W.mg_of X G a__law_path, k__law_path, b__law_path⟩
  have C__law_leaf : Cal l.prog w K mg base 2 "_law_leaf" ["_law_x"] (spLeaf K) := ⟨_, _, ok_leaf F__law_leaf C__law_mixed, PySem.W.mg_of X G a__law_leaf, k__law_leaf, b__law_leaf⟩
  have C__law_plain : Cal l.prog w K mg base 3 "_law_plain" ["_law_x", "_law_names_here"] (spPlain K) := ⟨_, _, ok_plain F__law_plain C__law_mixed C__law_leaf, PySem.W.mg_of X G a__law_plain, k__law_plain, b__law_plain⟩
  have C__law_spoken : Cal l.prog w K mg base 3 "_law_spoken" ["_law_xs", "_law_names_here"] (spSpoken K) := ⟨_, _, ok_spoken F__law_spoken C__law_path, PySem.W.mg_of X G a__law_spoken, k__law_spoken, b__law_spoken⟩
  have C__law_tree_with : Cal l.prog w K mg base 4 "_law_tree_with" ["_law_x", "_law_spoken_here", "_law_names_here"] (spWith K) := ⟨_, _, ok_with F__law_tree_with C__law_plain C__law_leaf m_enumerate, PySem.W.mg_of X G a__law_tree_with, k__law_tree_with, b__law_tree_with⟩
  have C__law_row : Cal l.prog w K mg base 5 "_law_row" ["_law_cell", "_law_names_here", "_law_few", "_law_wide"] (spRow K) := ⟨_, _, ok_row F__law_row C__law_mixed C__law_spoken C__law_tree_with m_tuple m_range, PySem.W.mg_of X G a__law_row, k__law_row, b__law_row⟩
  have C__law_leans : Cal l.prog w K mg base 1 "_law_leans" ["_law_spoken_here", "_law_path_here"] (spSp K leanB) := ⟨_, _, ok_lleans F__law_leans m_len m_min, PySem.W.mg_of X G a__law_leans, k__law_leans, b__law_leans⟩
  have C__law_into : Cal l.prog w K mg base 1 "_law_into" ["_law_spoken_here", "_law_path_here"] (spSp K intoB) := ⟨_, _, ok_linto F__law_into m_len m_any, PySem.W.mg_of X G a__law_into, k__law_into, b__law_into⟩
  have C__law_builds : Cal l.prog w K mg base 1 "_law_builds" ["_law_reach", "_law_into_here"] (spBld K) := ⟨_, _, ok_bld F__law_builds m_range m_len, PySem.W.mg_of X G a__law_builds, k__law_builds, b__law_builds⟩
  have C__law_walked : Cal l.prog w K mg base 1 "_law_walked" ["_law_found", "_law_reach", "_law_into_here"] (spWalk K) := ⟨_, _, ok_walk F__law_walked m_isinstance m_list m_int m_bool m_len m_set m_zip m_all m_any, PySem.W.mg_of X G a__law_walked, k__law_walked, b__law_walked⟩
  exact ok_law F_law C__law_cell_at C__law_mixed C__law_names C__law_row C__law_leans C__law_into C_ring C__law_walked C__law_builds m_list
theorem walk {l : PySem.W.OpenLaw} {q : Program} {loose : List Str} {XP : (Str → Option Value) → Heap → Prop} {YP : World → Heap → Prop} {d : DefRec} {K : Params → PySem.W.Frag} (hn : l.most = some 63) (hdf : d.params.defaults = [])
    (hY : ∀ (w : World) (h : Heap), YP w h → (K w.params).In h)
    (F : ∀ (w : World) (mg : Str → Option Value) (fa : Addr) (h : Heap), (K w.params).In h → h.Ns mainGlobals mg → mg d.name = some (.ref fa) →
      ∃ fd : FuncData, (∀ (s : Shared) (u : Value), BindsTo s fd ⟨[u], []⟩ [("_law_script", u)]) ∧ ∀ base : Heap, (K w.params).In base → base.Ns mainGlobals mg → FnOk l.prog w (K w.params) mg base CX0 6 fa fd ["_law_script"] (spLaw (K w.params))) :
    PySem.W.WalkO q loose XP YP l.row.toRowW d [] (fun f vs => PySem.call f vs) :=
  L2.walk_of (n := 63) (k := 6) (x := "_law_script") (CX := fun _ => CX0) (sp := fun w => spLaw (K w.params)) hn (by decide) hdf ⟨rfl, by decide, by decide⟩ hY F (fun _ _ a ns hl _ hS => ⟨a, ns, rfl, hS, hl, fun _ => rfl⟩) fun _ _ _ _ _ z => z
end Law
open PySem PySem.W PyProof.Rows
set_option maxRecDepth 100000 in
set_option maxHeartbeats 0 in
theorem PySem.Challenge.cw_meetvalue_k42_ring_walked_holds : PySem.Challenge.rw_meetvalue_k42_ring_walked.Holds := by
  w_on; o_law; k_head; (case hw => w_witness2)
  k_fill
  refine Law.walk (l := PySem.Challenge.rw_meetvalue_k42_ring_walked) rfl rfl (fun w h Y => PySem.W.kIn_of Y) ?F
  case F =>
    intro w mg fa h KX G hmg
    refine' Law.all_mk KX G hmg ?a_begins ?l_begins ?c_begins ?k_begins ?a_places_of ?l_places_of ?c_places_of ?k_places_of ?a_leans ?l_leans ?c_leans ?k_leans ?a_leans_into ?l_leans_into ?c_leans_into ?k_leans_into ?a_way_to ?l_way_to ?c_way_to ?k_way_to ?a_shortest_way ?l_shortest_way ?c_shortest_way ?k_shortest_way ?a_ring ?l_ring ?c_ring ?k_ring ?a__law_cell_at ?l__law_cell_at ?c__law_cell_at ?k__law_cell_at ?a__law_mixed ?l__law_mixed ?c__law_mixed ?k__law_mixed ?a__law_names ?l__law_names ?c__law_names ?k__law_names ?a__law_path ?l__law_path ?c__law_path ?k__law_path ?a__law_leaf ?l__law_leaf ?c__law_leaf ?k__law_leaf ?a__law_plain ?l__law_plain ?c__law_plain ?k__law_plain ?a__law_spoken ?l__law_spoken ?c__law_spoken ?k__law_spoken ?a__law_tree_with ?l__law_tree_with ?c__law_tree_with ?k__law_tree_with ?a__law_row ?l__law_row ?c__law_row ?k__law_row ?a__law_leans ?l__law_leans ?c__law_leans ?k__law_leans ?a__law_into ?l__law_into ?c__law_into ?k__law_into ?a__law_builds ?l__law_builds ?c__law_builds ?k__law_builds ?a__law_walked ?l__law_walked ?c__law_walked ?k__law_walked ?a_law ?l_law ?c_law ?k_law ?z_all ?z_any ?z_bool ?z_enumerate ?z_int ?z_isinstance ?z_len ?z_list ?z_min ?z_range ?z_reversed ?z_set ?z_tuple ?z_zip
    (case a_begins => k_is); (case l_begins => k_is); (case c_begins => k_is); (case k_begins => k_is)
    (case a_places_of => k_is); (case l_places_of => k_is); (case c_places_of => k_is); (case k_places_of => k_is)
    (case a_leans => k_is); (case l_leans => k_is); (case c_leans => k_is); (case k_leans => k_is)
    (case a_leans_into => k_is); (case l_leans_into => k_is); (case c_leans_into => k_is); (case k_leans_into => k_is)
    (case a_way_to => k_is); (case l_way_to => k_is); (case c_way_to => k_is); (case k_way_to => k_is)
    (case a_shortest_way => k_is); (case l_shortest_way => k_is); (case c_shortest_way => k_is); (case k_shortest_way => k_is)
    (case a_ring => k_is); (case l_ring => k_is); (case c_ring => k_is); (case k_ring => k_is)
    (case a__law_cell_at => k_is); (case l__law_cell_at => k_is); (case c__law_cell_at => k_is); (case k__law_cell_at => k_is)
    (case a__law_mixed => k_is); (case l__law_mixed => k_is); (case c__law_mixed => k_is); (case k__law_mixed => k_is)
    (case a__law_names => k_is); (case l__law_names => k_is); (case c__law_names => k_is); (case k__law_names => k_is)
    (case a__law_path => k_is); (case l__law_path => k_is); (case c__law_path => k_is); (case k__law_path => k_is)
    (case a__law_leaf => k_is); (case l__law_leaf => k_is); (case c__law_leaf => k_is); (case k__law_leaf => k_is)
    (case a__law_plain => k_is); (case l__law_plain => k_is); (case c__law_plain => k_is); (case k__law_plain => k_is)
    (case a__law_spoken => k_is); (case l__law_spoken => k_is); (case c__law_spoken => k_is); (case k__law_spoken => k_is)
    (case a__law_tree_with => k_is); (case l__law_tree_with => k_is); (case c__law_tree_with => k_is); (case k__law_tree_with => k_is)
    (case a__law_row => k_is); (case l__law_row => k_is); (case c__law_row => k_is); (case k__law_row => k_is)
    (case a__law_leans => k_is); (case l__law_leans => k_is); (case c__law_leans => k_is); (case k__law_leans => k_is)
    (case a__law_into => k_is); (case l__law_into => k_is); (case c__law_into => k_is); (case k__law_into => k_is)
    (case a__law_builds => k_is); (case l__law_builds => k_is); (case c__law_builds => k_is); (case k__law_builds => k_is)
    (case a__law_walked => k_is); (case l__law_walked => k_is); (case c__law_walked => k_is); (case k__law_walked => k_is)
    (case a_law => k_is); (case l_law => k_is); (case c_law => k_is); (case k_law => k_is)
    (case z_all => k_is)
    (case z_any => k_is)
    (case z_bool => k_is)
    (case z_enumerate => k_is)
    (case z_int => k_is)
    (case z_isinstance => k_is)
    (case z_len => k_is)
    (case z_list => k_is)
    (case z_min => k_is)
    (case z_range => k_is)
    (case z_reversed => k_is)
    (case z_set => k_is)
    (case z_tuple => k_is)
    (case z_zip => k_is)

