import PyProof.Rows.All
import Wide.All
import OpenK.AllK
import Wide.FinOn
import Lean
import PyProof.EqAt
import PyProof.EqKinds
import PyProof.TupleCall
import PySem.Challenge.RW_askpaper_k12_sums_refused
set_option Elab.async false
set_option linter.all false
set_option maxRecDepth 100000
/-! THE HAND LAYER, for ints, bools, texts, own classes, LISTS and tuples (index, slices, in, append, pop ..), calls, loops. Paste it whole ahead of your own text; what your proof does not reach may be deleted. -/
namespace L2
open PySem PySem.Spec PyProof.Rows

/-- a key: an int or a str -/
abbrev Key := Sum Int Str
def keyIs : Key → Value → Bool
  | .inl k, v => Value.isInt k v
  | .inr x, v => Value.isStrOf x v
def keyH (w : World) : Key → Int
  | .inl k => hashInt k
  | .inr x => hashStr w x
theorem keyIs_shape : ∀ {k : Key} {v : Value}, keyIs k v = true → (∃ i t, k = Sum.inl i ∧ v = Value.int i t) ∨ (∃ x t, k = Sum.inr x ∧ v = Value.str x t)
  | .inl i, v, h => by
    obtain ⟨t, e⟩ := Value.isInt_shape (k := i) (v := v) h
    exact .inl ⟨i, t, rfl, e⟩
  | .inr x, v, h => by
    obtain ⟨t, e⟩ := Value.isStrOf_shape (x := x) (v := v) h
    exact .inr ⟨x, t, rfl, e⟩
theorem key_ll (a b : Int) : decide ((Sum.inl a : Key) = Sum.inl b) = (a == b) := by
  by_cases e : a = b
  · subst e; simp
  · have h : ¬ (Sum.inl a : Key) = Sum.inl b := fun q => e (Sum.inl.inj q)
    rw [decide_eq_false h]
    exact (beq_eq_false_iff_ne.mpr e).symm
theorem key_rr (a b : Str) : decide ((Sum.inr a : Key) = Sum.inr b) = decide (a = b) := by
  by_cases e : a = b
  · subst e; simp
  · have h : ¬ (Sum.inr a : Key) = Sum.inr b := fun q => e (Sum.inr.inj q)
    rw [decide_eq_false h, decide_eq_false e]
theorem key_lr (a : Int) (b : Str) : decide ((Sum.inl a : Key) = Sum.inr b) = false := decide_eq_false (fun q => nomatch q)
theorem key_rl (a : Str) (b : Int) : decide ((Sum.inr a : Key) = Sum.inl b) = false := decide_eq_false (fun q => nomatch q)

def mixKind (prog : Program) (w : World) : PySem.KeyKind prog w Key where
  is := keyIs
  hash := keyH w
  inj := fun v a b ha hb => by
    rcases keyIs_shape ha with ⟨i, t, rfl, rfl⟩ | ⟨x, t, rfl, rfl⟩
    · rcases keyIs_shape hb with ⟨j, u, rfl, e⟩ | ⟨y, u, rfl, e⟩
      · injection e with e1 _; rw [e1]
      · exact nomatch e
    · rcases keyIs_shape hb with ⟨j, u, rfl, e⟩ | ⟨y, u, rfl, e⟩
      · exact nomatch e
      · injection e with e1 _; rw [e1]
  byValue := fun k v h => by
    rcases keyIs_shape h with ⟨i, t, rfl, rfl⟩ | ⟨x, t, rfl, rfl⟩ <;> rfl
  pyHash := fun hv h => by
    rcases keyIs_shape hv with ⟨i, t, rfl, rfl⟩ | ⟨x, t, rfl, rfl⟩
    · exact wpAny_pyHash_int h
    · exact wpAny_pyHash_str h
  eqBool := fun hu hv h => by
    rcases keyIs_shape hu with ⟨i, t, rfl, rfl⟩ | ⟨x, t, rfl, rfl⟩
    · rcases keyIs_shape hv with ⟨j, u, rfl, rfl⟩ | ⟨y, u, rfl, rfl⟩
      · rw [key_ll] at h; exact wpAny_eqBool_int h
      · rw [key_lr] at h; exact SeqAt.EqAt.int_str i t y u _ _ _ _ h
    · rcases keyIs_shape hv with ⟨j, u, rfl, rfl⟩ | ⟨y, u, rfl, rfl⟩
      · rw [key_rl] at h; exact SeqAt.EqAt.str_int x t j u _ _ _ _ h
      · rw [key_rr] at h; exact wpAny_eqBool_str h
  «strs» := fun k x t v h => by
    rcases keyIs_shape h with ⟨i, u, rfl, e⟩ | ⟨y, u, rfl, e⟩
    · exact nomatch e
    · injection e with e1 _
      subst e1
      cases v <;> rfl

end L2

namespace L2
open PySem PySem.Spec PyProof.Rows

/-- a value, without the heap -/
inductive V where
  | non | bl (b : Bool) | int (i : Int) | str (x : Str) | byt (b : Array UInt8) | flt (b : UInt64) | ref (a : Addr) | ty (n : String)
  deriving DecidableEq

def RelV : V → Value → Prop
  | .non, u => u = Value.none
  | .bl b, u => u = Value.bool b
  | .int i, u => ∃ t, u = Value.int i t
  | .str x, u => ∃ t, u = Value.str x t
  | .byt b, u => ∃ t, u = Value.bytes b t
  | .flt b, u => ∃ t, u = Value.float b t
  | .ref a, u => u = Value.ref a
  | .ty n, u => u = Value.type n

abbrev Vals : List V → List Value → Prop := Paired RelV
theorem Vals.length {xs : List V} {us : List Value} (r : Vals xs us) : xs.length = us.length := Paired.length r
theorem Vals.get : ∀ {xs : List V} {us : List Value} {i : Nat} {x : V}, Vals xs us → xs[i]? = some x → ∃ u, us[i]? = some u ∧ RelV x u
  | _, _, _, _, .nil, e => by simp at e
  | _, _, 0, _, .cons r _, e => by simp at e; subst e; exact ⟨_, rfl, r⟩
  | _, _, i + 1, x, .cons _ t, e => by
    obtain ⟨u, h1, h2⟩ := Vals.get (i := i) (x := x) t (by simpa using e)
    exact ⟨u, by simpa using h1, h2⟩
theorem Vals.set {x : V} {u : Value} (r : RelV x u) : ∀ {xs : List V} {us : List Value} (i : Nat), Vals xs us → Vals (xs.set i x) (us.set i u)
  | _, _, _, .nil => .nil
  | _, _, 0, .cons _ t => .cons r t
  | _, _, i + 1, .cons q t => .cons q (Vals.set r i t)
theorem Vals.append : ∀ {xs ys : List V} {us ws : List Value}, Vals xs us → Vals ys ws → Vals (xs ++ ys) (us ++ ws)
  | _, _, _, _, .nil, s => s
  | _, _, _, _, .cons r t, s => .cons r (Vals.append t s)
theorem Vals.take : ∀ {xs : List V} {us : List Value} (n : Nat), Vals xs us → Vals (xs.take n) (us.take n)
  | _, _, 0, _ => .nil
  | _, _, _ + 1, .nil => .nil
  | _, _, n + 1, .cons r t => .cons r (Vals.take n t)
theorem Vals.drop : ∀ {xs : List V} {us : List Value} (n : Nat), Vals xs us → Vals (xs.drop n) (us.drop n)
  | _, _, 0, r => r
  | _, _, _ + 1, .nil => .nil
  | _, _, n + 1, .cons _ t => Vals.drop n t
theorem Vals.none_of : ∀ {xs : List V} {us : List Value} {i : Nat}, Vals xs us → xs[i]? = none → us[i]? = none := fun {xs us i} r e => by
  have h1 := r.length
  have h2 : xs.length ≤ i := List.getElem?_eq_none_iff.mp e
  exact List.getElem?_eq_none_iff.mpr (by omega)

def RelO : Option V → Option Value → Prop
  | some v, some u => RelV v u
  | none, none => True
  | _, _ => False
def KV {κ : Type} : List (κ × V) → List (κ × Value) → Prop := Paired fun (p : κ × V) (q : κ × Value) => p.1 = q.1 ∧ RelV p.2 q.2

/-- a key of a dict (00_mix): an int or a text -/
def kV : Key → V
  | .inl i => .int i
  | .inr x => .str x

/-- what stands at a tracked address -/
inductive HO where
  /-- a list -/
  | lst (xs : List V)
  /-- a tuple (never changes) -/
  | tup (xs : List V)
  /-- a dict whose keys are ints and texts; one whose keys are tuples of ints and texts (the empty one is both) -/
  | dK (kvs : List (Key × V)) | dT (kvs : List (List Key × V))
  /-- a set of ints: its members, its size -/
  | set (S : Int → Bool) (n : Nat)
  /-- an instance of the class at C, its dict at dx, its attributes -/
  | ins (C dx : Addr) (fs : List (Str × V))
  /-- the dict of the instance at x -/
  | own (x : Addr)
  /-- the dict of an exception -/
  | xd (fs : List (Str × V))
  /-- a bound method, f of x -/
  | met (f x : Addr)
  /-- a range object lo, lo + 1, .. below hi -/
  | rng (lo hi : Int)
  /-- a thing that is known to the object (the script; a dict while a loop walks it): read, never written while it is so -/
  | frz (o : Obj) (u : HO)
  /-- a code object's table -/
  | tbl (ps : Array Value)
  /-- any other thing, by what is true of its one object (a def of one's own: SetO a S n := HO.ext fun h => ..) -/
  | ext (φ : Heap → Prop)

abbrev Hp := Addr → Option HO
def upd (H : Hp) (a : Addr) (o : HO) : Hp := fun b => if b = a then some o else H b
theorem upd_same {H : Hp} {a : Addr} {o : HO} : upd H a o a = some o := by unfold upd; rw [if_pos rfl]
theorem upd_ne {H : Hp} {a b : Addr} {o : HO} (h : b ≠ a) : upd H a o b = H b := by unfold upd; rw [if_neg h]
/-- two objects of different content stand apart -/
theorem ne_of {H : Hp} {a b : Addr} {o u : HO} (h : H a = some o) (h' : H b = some u) (d : o ≠ u) : a ≠ b := by
  intro e; subst e; rw [h] at h'; exact d (Option.some.inj h')
theorem ne_of_none {H : Hp} {a b : Addr} {o : HO} (h : H a = some o) (h' : H b = none) : a ≠ b := by
  intro e; subst e; rw [h] at h'; cases h'

section
variable (P : Program) (w : World)
def ObjOk (H : Hp) (h : Heap) (a : Addr) : HO → Prop
  | .lst xs => xs.length ≤ sizeLine ∧ ∃ (its : List Value) (n : Nat), Vals xs its ∧ h.get? a = some { cls := .type "list", data := .seq its.toArray n }
  | .tup xs => xs.length ≤ sizeLine ∧ ∃ its : List Value, Vals xs its ∧ IsTup h a its.toArray
  | .dK kvs => kvs.length ≤ sizeLine ∧ (a == sysModules) = false ∧ ∃ vs, KV kvs vs ∧ h.DictOf (mixKind P w) a vs
  | .dT kvs => kvs.length ≤ sizeLine ∧ (a == sysModules) = false ∧ ∃ xs : List (List Key × Addr × Value),
      Paired (fun (p : List Key × V) (q : List Key × Addr × Value) => p.1 = q.1 ∧ H q.2.1 = some (.tup (p.1.map kV)) ∧ RelV p.2 q.2.2) kvs xs ∧
      ∃ o es ep, h.get? a = some o ∧ o.ExactDict ∧ o.data = .dict es ep ∧ es.toList = xs.map (entryOfKey (tupleKind (mixKind P w))) ∧ (xs.map (·.1)).Nodup
  | .set S n => h.SetOf (intKind P w) a S n
  | .ins C dx fs => H dx = some (.own a) ∧ fs.length ≤ 1000 ∧ dx ≠ a ∧ h.get? a = some (PySem.W.instObj C dx) ∧
      ∃ mA, h.Ns1 dx mA ∧ (∀ f, RelO (fs.lookup f) (mA f)) ∧ PySem.Within mA (fs.map (·.1))
  | .own _ => ∃ o, h.get? a = some o
  | .xd fs => ∃ mA, h.Ns1 a mA ∧ ∀ f, RelO (fs.lookup f) (mA f)
  | .rng lo hi => ∃ t u v, h.get? a = some { cls := .type "range", data := .fields #[.int lo t, .int hi u, .int 1 v] }
  | .frz o u => h.get? a = some o ∧ ObjOk H h a u
  | .tbl ps => h.get? a = some { cls := .none, data := .fields ps }
  | .met f x => h.get? a = some (PySem.W.methodObj (.ref f) (.ref x))
  | .ext φ => φ h ∧ (∃ o, h.get? a = some o) ∧ ∀ h1 h2 : Heap, φ h1 → (∀ o, h1.get? a = some o → h2.get? a = some o) → φ h2
/-- the abstract heap is held -/
def HOk (H : Hp) (h : Heap) : Prop := ∀ a o, H a = some o → ObjOk P w H h a o
end

section
variable {P : Program} {w : World} {H H' : Hp} {h h' : Heap} {a : Addr} {o : HO}
theorem ObjOk.lt (x : ObjOk P w H h a o) : a < h.objs.size := by
  cases o with
  | lst xs => obtain ⟨_, _, _, _, e⟩ := x; exact Heap.lt_size e
  | tup xs => obtain ⟨_, _, _, p⟩ := x; exact p.lt
  | dK kvs => obtain ⟨_, _, _, _, o, _, _, e, _⟩ := x; exact Heap.lt_size e
  | dT kvs => obtain ⟨_, _, _, _, o, _, _, e, _⟩ := x; exact Heap.lt_size e
  | set S n => obtain ⟨o, _, _, _, e, _⟩ := x; exact Heap.lt_size e
  | ins C dx fs => obtain ⟨_, _, _, e, _⟩ := x; exact Heap.lt_size e
  | own y => obtain ⟨_, e⟩ := x; exact Heap.lt_size e
  | xd fs => obtain ⟨_, ⟨_, _, _, e, _⟩, _⟩ := x; exact Heap.lt_size e
  | rng lo hi => obtain ⟨_, _, _, e⟩ := x; exact Heap.lt_size e
  | frz ob u => obtain ⟨e, _⟩ := x; exact Heap.lt_size e
  | tbl ps => exact Heap.lt_size (show h.get? a = some _ from x)
  | met f y => exact Heap.lt_size (show h.get? a = some _ from x)
  | ext φ => obtain ⟨_, ⟨_, e⟩, _⟩ := x; exact Heap.lt_size e
theorem Paired.mapP {α β : Type} {F G : α → β → Prop} : ∀ {l₁ : List α} {l₂ : List β}, Paired F l₁ l₂ → (∀ a b, F a b → G a b) → Paired G l₁ l₂
  | _, _, .nil, _ => .nil
  | _, _, .cons r t, f => .cons (f _ _ r) (Paired.mapP t f)
/-- what an object's description leans on: its own object, its own dict, the tuples -/
theorem ObjOk.stay (x : ObjOk P w H h a o) (k : ∀ b u, (b = a ∨ H b = some (.own a)) → h.get? b = some u → h'.get? b = some u)
    (ho : ∀ b, H b = some (.own a) → H' b = some (.own a)) (ht : ∀ b xs, H b = some (.tup xs) → H' b = some (.tup xs)) : ObjOk P w H' h' a o := by
  induction o with
  | lst xs => obtain ⟨z, its, n, r, e⟩ := x; exact ⟨z, its, n, r, k _ _ (.inl rfl) e⟩
  | tup xs => obtain ⟨z, its, r, ob, e, c⟩ := x; exact ⟨z, its, r, ob, k _ _ (.inl rfl) e, c⟩
  | dK kvs => obtain ⟨z, y, vs, r, ob, es, ep, e, c⟩ := x; exact ⟨z, y, vs, r, ob, es, ep, k _ _ (.inl rfl) e, c⟩
  | dT kvs =>
    obtain ⟨z, y, xs, r, ob, es, ep, e, c⟩ := x
    exact ⟨z, y, xs, Paired.mapP r fun p q z => ⟨z.1, ht _ _ z.2.1, z.2.2⟩, ob, es, ep, k _ _ (.inl rfl) e, c⟩
  | set S n => obtain ⟨ob, es, ep, t, e, c⟩ := x; exact ⟨ob, es, ep, t, k _ _ (.inl rfl) e, c⟩
  | ins C dx fs =>
    obtain ⟨d, z, ne, e, mA, ⟨od, es, ep, e2, c⟩, r⟩ := x
    exact ⟨ho _ d, z, ne, k _ _ (.inl rfl) e, mA, ⟨od, es, ep, k _ _ (.inr d) e2, c⟩, r⟩
  | own y => obtain ⟨ob, e⟩ := x; exact ⟨ob, k _ _ (.inl rfl) e⟩
  | xd fs => obtain ⟨mA, ⟨od, es, ep, e, c⟩, r⟩ := x; exact ⟨mA, ⟨od, es, ep, k _ _ (.inl rfl) e, c⟩, r⟩
  | rng lo hi => obtain ⟨t, u, v, e⟩ := x; exact ⟨t, u, v, k _ _ (.inl rfl) e⟩
  | frz ob u ih => obtain ⟨e, q⟩ := x; exact ⟨k _ _ (.inl rfl) e, ih q⟩
  | tbl ps =>
    have e : h.get? a = some { cls := .none, data := .fields ps } := x
    show h'.get? a = some { cls := .none, data := .fields ps }
    exact k a _ (.inl rfl) e
  | met f y =>
    have e : h.get? a = some (PySem.W.methodObj (.ref f) (.ref y)) := x
    show h'.get? a = some (PySem.W.methodObj (.ref f) (.ref y))
    exact k a _ (.inl rfl) e
  | ext φ => obtain ⟨p, ⟨o, e⟩, st⟩ := x; exact ⟨st _ _ p fun o q => k _ _ (.inl rfl) q, ⟨o, k _ _ (.inl rfl) e⟩, st⟩
theorem HOk.lt (x : HOk P w H h) (e : H a = some o) : a < h.objs.size := (x a o e).lt
theorem HOk.fresh (x : HOk P w H h) (e : h.objs.size ≤ a) : H a = none := by
  cases q : H a with
  | none => rfl
  | some u => exact absurd (Nat.lt_of_lt_of_le (x.lt q) e) (Nat.lt_irrefl _)
/-- every object of the heap is kept -/
theorem HOk.kept (x : HOk P w H h) (k : ∀ b u, h.get? b = some u → h'.get? b = some u) : HOk P w H h' := fun a o e =>
  (x a o e).stay (fun b u _ q => k b u q) (fun _ q => q) fun _ _ q => q
/-- a new object is laid and tracked -/
theorem HOk.laid (x : HOk P w H h) (k : ∀ b u, h.get? b = some u → h'.get? b = some u) (hp : h.objs.size ≤ a) (new : ObjOk P w (upd H a o) h' a o) : HOk P w (upd H a o) h' := fun b u e => by
  have hn := x.fresh hp
  by_cases hb : b = a
  · subst hb; rw [upd_same] at e; cases e; exact new
  · rw [upd_ne hb] at e
    exact (x b u e).stay (fun c v _ q => k c v q) (fun c q => by rw [upd_ne (ne_of_none q hn)]; exact q) fun c xs q => by rw [upd_ne (ne_of_none q hn)]; exact q
end

/-- what may be read as u: it is u, or a known u -/
def Rd (H : Hp) (a : Addr) (u : HO) : Prop := H a = some u ∨ ∃ o, H a = some (.frz o u)
theorem Rd.of {H : Hp} {a : Addr} {u : HO} (h : H a = some u) : Rd H a u := .inl h
theorem Rd.ok {P : Program} {w : World} {H : Hp} {h : Heap} {a : Addr} {u : HO} (r : Rd H a u) (x : HOk P w H h) : ObjOk P w H h a u := by
  rcases r with r | ⟨o, r⟩
  · exact x a u r
  · obtain ⟨_, q⟩ := x a _ r
    exact q
/-- what may be written -/
def Mut : Option HO → Prop
  | some (.lst _) => True
  | some (.dK _) => True
  | some (.dT _) => True
  | some (.set _ _) => True
  | some (.ins _ _ _) => True
  | some (.ext _) => True
  | _ => False
section
variable {P : Program} {w : World} {H : Hp} {h h' : Heap} {x e : Addr} {o' : HO}
/-- the object at e is changed: x itself, or the dict of the instance x -/
theorem HOk.write (ok : HOk P w H h) (mu : Mut (H x)) (he : e = x ∨ H e = some (.own x)) (k : ∀ b u, b ≠ e → h.get? b = some u → h'.get? b = some u) (heo : ∃ u, h'.get? e = some u)
    (new : ObjOk P w (upd H x o') h' x o') : HOk P w (upd H x o') h' := fun b u q => by
  have nown : ∀ c y, H c = some (.own y) → c ≠ x := fun c y r z => by subst z; rw [r] at mu; exact mu
  have ntup : ∀ c xs, H c = some (.tup xs) → c ≠ x := fun c xs r z => by subst z; rw [r] at mu; exact mu
  by_cases hb : b = x
  · subst hb; rw [upd_same] at q; cases q; exact new
  · rw [upd_ne hb] at q
    by_cases hbe : b = e
    · have q' : H b = some (.own x) := by
        rcases he with z | z
        · exact absurd (hbe.trans z) hb
        · rw [hbe]; exact z
      rw [q] at q'; cases q'
      obtain ⟨v, hv⟩ := heo
      exact ⟨v, by rw [hbe]; exact hv⟩
    · refine (ok b u q).stay (fun c v hc r => k c v ?_ r) (fun c r => by rw [upd_ne (nown c b r)]; exact r) fun c xs r => by rw [upd_ne (ntup c xs r)]; exact r
      rcases hc with rfl | hc
      · exact hbe
      · rintro rfl
        rcases he with z | z
        · exact nown c b hc z
        · rw [hc] at z; cases z; exact hb rfl
end

/-! ### kept unless tracked; of the frames at fs (the callers') the slots may change (an exception that passes writes there); of the records at ex (iterators) nothing is said -/
structure Un (fs ex : List Addr) (H H' : Hp) (h h' : Heap) : Prop where
  keep : ∀ b o, h.get? b = some o → H b = none → b ∉ fs → b ∉ ex → h'.get? b = some o
  slot : ∀ b o, h.get? b = some o → H b = none → b ∈ fs → b ∉ ex → ∃ sl, h'.get? b = some { o with slots := sl }
  free : ∀ b o, h.get? b = some o → H b = none → b ∉ ex → H' b = none
  there : ∀ b o, h.get? b = some o → b ∉ ex → ∃ o', h'.get? b = some o'
  tups : ∀ b xs, H b = some (.tup xs) → H' b = some (.tup xs)
  frzs : ∀ b o u, H b = some (.frz o u) → H' b = some (.frz o u)
  tbls : ∀ b ps, H b = some (.tbl ps) → ∃ more, H' b = some (.tbl (ps ++ more))
section
variable {fs fs' ex ex' : List Addr} {H H1 H2 : Hp} {h h1 h2 h' : Heap} {a x e : Addr} {o : HO}
theorem Un.any (u : Un fs ex H H1 h h1) {b : Addr} {ob : Obj} (q : h.get? b = some ob) (n : H b = none) (hx : b ∉ ex) : ∃ sl, h1.get? b = some { ob with slots := sl } := by
  by_cases hb : b ∈ fs
  · exact u.slot b ob q n hb hx
  · exact ⟨ob.slots, u.keep b ob q n hb hx⟩
theorem Un.trans (a : Un fs ex H H1 h h1) (b : Un fs ex H1 H2 h1 h2) : Un fs ex H H2 h h2 where
  keep := fun c ob q n hc hx => b.keep c ob (a.keep c ob q n hc hx) (a.free c ob q n hx) hc hx
  slot := fun c ob q n hc hx => by
    obtain ⟨sl, e1⟩ := a.slot c ob q n hc hx
    obtain ⟨sl', e2⟩ := b.slot c _ e1 (a.free c ob q n hx) hc hx
    exact ⟨sl', e2⟩
  free := fun c ob q n hx => by
    obtain ⟨o', e1⟩ := a.there c ob q hx
    exact b.free c o' e1 (a.free c ob q n hx) hx
  there := fun c ob q hx => by
    obtain ⟨o', e1⟩ := a.there c ob q hx
    exact b.there c o' e1 hx
  tups := fun c xs q => b.tups c xs (a.tups c xs q)
  frzs := fun c ob xs q => b.frzs c ob xs (a.frzs c ob xs q)
  tbls := fun c ps q => by
    obtain ⟨m1, e1⟩ := a.tbls c ps q
    obtain ⟨m2, e2⟩ := b.tbls c _ e1
    exact ⟨m1 ++ m2, by rw [e2, Array.append_assoc]⟩
theorem Un.kept (k : ∀ b u, h.get? b = some u → h'.get? b = some u) : Un fs ex H H h h' :=
  ⟨fun b ob q _ _ _ => k b ob q, fun b ob q _ _ _ => ⟨ob.slots, k b ob q⟩, fun _ _ _ n _ => n, fun b ob q _ => ⟨ob, k b ob q⟩, fun _ _ q => q, fun _ _ _ q => q, fun _ ps q => ⟨#[], by rw [q]; simp⟩⟩
theorem Un.refl : Un fs ex H H h h := Un.kept fun _ _ q => q
theorem Un.laid (k : ∀ b u, h.get? b = some u → h'.get? b = some u) (hp : h.objs.size ≤ a) (hn : H a = none) : Un fs ex H (upd H a o) h h' where
  keep := fun b u q _ _ _ => k b u q
  slot := fun b u q _ _ _ => ⟨u.slots, k b u q⟩
  free := fun b u q n _ => by rw [upd_ne (Nat.ne_of_lt (Nat.lt_of_lt_of_le (Heap.lt_size q) hp))]; exact n
  there := fun b u q _ => ⟨u, k b u q⟩
  tups := fun b xs q => by rw [upd_ne (ne_of_none q hn)]; exact q
  frzs := fun b u xs q => by rw [upd_ne (ne_of_none q hn)]; exact q
  tbls := fun b ps q => ⟨#[], by rw [upd_ne (ne_of_none q hn), q]; simp⟩
theorem Un.write (mu : Mut (H x)) (he : e = x ∨ H e = some (.own x)) (k : ∀ b u, b ≠ e → h.get? b = some u → h'.get? b = some u) (heo : ∃ u, h'.get? e = some u) : Un fs ex H (upd H x o) h h' := by
  have hx : ∀ b, H b = none → b ≠ x := fun b n z => by subst z; rw [n] at mu; exact mu
  have hb : ∀ b, H b = none → b ≠ e := fun b n z => by
    subst z
    rcases he with r | r
    · exact hx b n r
    · rw [n] at r; cases r
  have hm : ∀ b u, H b = some u → ¬ Mut (some u) → b ≠ x := fun b u q nm z => by subst z; rw [q] at mu; exact nm mu
  refine ⟨fun b u q n _ _ => k b u (hb b n) q, fun b u q n _ _ => ⟨u.slots, k b u (hb b n) q⟩, fun b u q n _ => by rw [upd_ne (hx b n)]; exact n, fun b u q _ => ?_,
    fun b xs q => by rw [upd_ne (hm b _ q fun z => z)]; exact q, fun b u xs q => by rw [upd_ne (hm b _ q fun z => z)]; exact q, fun b ps q => ⟨#[], by rw [upd_ne (hm b _ q fun z => z), q]; simp⟩⟩
  by_cases hbe : b = e
  · subst hbe; exact heo
  · exact ⟨u, k b u hbe q⟩
theorem Un.mono (u : Un fs ex H H1 h h1) (hs : ∀ b ∈ fs, b ∈ fs') (hx : ∀ b ∈ ex, b ∈ ex') : Un fs' ex' H H1 h h1 :=
  ⟨fun b ob q n hb he => u.keep b ob q n (fun z => hb (hs b z)) fun z => he (hx b z), fun _ _ q n _ he => u.any q n fun z => he (hx _ z), fun b ob q n he => u.free b ob q n fun z => he (hx b z), fun b ob q he => u.there b ob q fun z => he (hx b z), u.tups, u.frzs, u.tbls⟩
end

/-! ### the heap without what is tracked -/
def trk (h : Heap) (H : Hp) : List Addr := (List.range h.objs.size).filter fun a => (H a).isSome
def hidT (h : Heap) (H : Hp) : Heap := PySem.W.hideAll h (trk h H)
theorem hidT_size (h : Heap) (H : Hp) : (hidT h H).objs.size = h.objs.size := PySem.W.hideAll_size _ _
theorem hidT_get {h : Heap} {H : Hp} {b : Addr} {o : Obj} (e : h.get? b = some o) (n : H b = none) : (hidT h H).get? b = some o :=
  PySem.W.hideAll_get _ e fun hm => by
    have q : (H b).isSome = true := (List.mem_filter.mp hm).2
    rw [n] at q; simp at q
theorem of_hidT {h : Heap} {H : Hp} {b : Addr} {o : Obj} (e : (hidT h H).get? b = some o) : h.get? b = some o ∧ H b = none := by
  have e' : h.get? b = some o := PySem.W.of_hideAll (trk h H) e
  refine ⟨e', ?_⟩
  cases q : H b with
  | none => rfl
  | some x =>
    have hm : b ∈ trk h H := List.mem_filter.mpr ⟨List.mem_range.mpr (Heap.lt_size e'), by simp [q]⟩
    have z : (hidT h H).get? b = none := PySem.W.hideAll_none (trk h H) hm
    rw [z] at e; cases e

/-! ### OpenK's ledger, filled with every new object but one -/
def allNews (g h : Heap) (L : Addr) : List (Addr × Obj) := (List.range h.objs.size).filterMap fun a => if a = L ∨ (g.get? a).isSome = true then none else (h.get? a).map fun o => (a, o)
def rest (g h : Heap) (L d : Addr) : List (Addr × Obj) := (allNews g h L).filter fun p => decide (p.1 ≠ d)
end L2

namespace L2
open PySem PySem.Spec PyProof.Rows

/-- the module's facts, over the base: the heap at the law's entry without what is tracked there -/
structure Mod (K : PySem.W.Frag) (mg : Str → Option Value) (base : Heap) : Prop where
  kin : K.In base
  glob : base.Ns mainGlobals mg
  blt : ∃ mb, base.Ns builtinsNs mb ∧ ∀ x : Str, x ≠ "__name__" → mb x = bootBuiltins x
  nolimit : base.NoLimit

/-- the context: a def's body (or a comprehension's block) running. base: fixed through the whole law; s₀, H₀: the entry; outer: the frames whose slots others may change (a def's callers); stack: all frames that run;
   ex: iterators that were made ahead of the entry and are walked here (a comprehension's); fn: the names whose cells were made at the entry (a def: all; a comprehension's block: its own); calm: not within an except suite; pn: pins that every state bears; xe: what is wanted of an exception that leaves the code -/
structure Cx where
  prog : Program
  w : World
  K : PySem.W.Frag
  mg : Str → Option Value
  base : Heap
  A : Around
  N : List Str
  s₀ : Shared
  H₀ : Hp
  env : Env
  outer : List Env
  stack : List Env
  ex : List Addr
  fn : Str → Bool
  calm : Bool
  pn : List (Addr × Obj)
  xe : Value → Shared → Prop
/-- the callers' frames -/
def frs (l : List Env) : List Addr := l.filterMap (·.frame)
abbrev Cx.fs (X : Cx) : List Addr := frs X.outer

def Vis (sc : Scope) (x : Str) : Prop := sc.names.lookup x = some .local ∨ sc.names.lookup x = some .cell ∨ sc.names.lookup x = some .free
def Loc (sc : Scope) (x : Str) : Prop := sc.names.lookup x = some .local ∨ sc.names.lookup x = some .cell
def Look (env : Env) (h : Heap) (m : Str → Option Value) (x : Str) (u : Value) : Prop :=
  (env.kindOf x = some .local ∧ m x = some u) ∨ ((env.kindOf x = some .cell ∨ env.kindOf x = some .free) ∧ ∃ c, env.cells.lookup x = some c ∧ h.IsCell c (some u))

structure Cx.Ok (X : Cx) : Prop where
  mod : Mod X.K X.mg X.base
  kind : X.env.scope.kind = .function
  glob : X.env.globals = mainGlobals
  blt : X.env.builtins = builtinsNs
  above : X.s₀.heap.objs.size ≤ X.env.locals
  inj : ∀ x y c, X.env.cells.lookup x = some c → X.env.cells.lookup y = some c → x = y
  has : ∀ x, (X.env.kindOf x = some .cell ∨ X.env.kindOf x = some .free) → ∃ c, X.env.cells.lookup x = some c
  cab : ∀ x c, X.fn x = true → X.env.cells.lookup x = some c → X.s₀.heap.objs.size ≤ c
  hd : X.calm = true → X.A.handled = none
  frames : X.A.frames = some X.stack
  stk : X.stack = X.outer ∨ (X.stack = X.env :: X.outer ∧ X.env.frame = some X.env.locals)
  exf : ∀ b ∈ X.ex, b ≠ X.env.locals ∧ ∀ x c, X.env.cells.lookup x = some c → c ≠ b
  bs : ∀ b o, X.base.get? b = some o → X.s₀.heap.get? b = some o ∧ X.H₀ b = none
  bsz : X.base.objs.size ≤ X.s₀.heap.objs.size
  noex : ∀ b o, X.base.get? b = some o → b ∉ X.ex
  exfs : ∀ b ∈ X.ex, b ∉ X.fs
  funs : X.s₀.heap.FunFrames X.base X.outer
  frf : ∀ b ∈ X.fs, X.H₀ b = none

structure Inv (X : Cx) (pins : List (Addr × Obj)) (σ : List (Option V)) (H : Hp) (s : Shared) : Prop where
  ok : X.Ok
  os : s.os = X.s₀.os
  bare : AllBare s.gens
  base : Un X.fs X.ex X.H₀ H X.s₀.heap s.heap
  loc : ∃ m, s.heap.Ns X.env.locals m ∧ ∀ (i : Nat) (x : Str) (v : V), X.N[i]? = some x → σ[i]? = some (some v) → Vis X.env.scope x → ∃ u, RelV v u ∧ Look X.env s.heap m x u
  cell : ∀ x c, X.env.cells.lookup x = some c → ∃ v, s.heap.IsCell c v
  free : H X.env.locals = none
  freeC : ∀ x c, X.env.cells.lookup x = some c → H c = none
  pin : ∀ p ∈ X.pn ++ pins, s.heap.get? p.1 = some p.2 ∧ H p.1 = none ∧ p.1 ≠ X.env.locals ∧ p.1 ∉ X.fs ∧ ∀ v, p.2.data ≠ .cell v
  hok : HOk X.prog X.w H s.heap
  len : σ.length = X.N.length

section
variable {X : Cx} {pins : List (Addr × Obj)} {σ : List (Option V)} {H H' : Hp} {s : Shared} {h' : Heap}

theorem Cx.Ok.nofr (ok : X.Ok) {b : Addr} {o : Obj} (e : X.base.get? b = some o) : b ∉ X.fs := fun hb => by
  have := (ok.funs.mem hb).1
  rw [e] at this; cases this
theorem Inv.bs (I : Inv X pins σ H s) : ∀ b o, X.base.get? b = some o → s.heap.get? b = some o ∧ H b = none := fun b o e =>
  ⟨I.base.keep b o (I.ok.bs b o e).1 (I.ok.bs b o e).2 (I.ok.nofr e) (I.ok.noex b o e), I.base.free b o (I.ok.bs b o e).1 (I.ok.bs b o e).2 (I.ok.noex b o e)⟩
theorem Inv.bk (I : Inv X pins σ H s) : ∀ b o, X.base.get? b = some o → s.heap.get? b = some o := fun b o e => (I.bs b o e).1
theorem Inv.mod (I : Inv X pins σ H s) : Mod X.K X.mg X.base := I.ok.mod
theorem Inv.kIn (I : Inv X pins σ H s) : X.K.In s.heap := I.ok.mod.kin.keeps I.bk
theorem Inv.nolimit (I : Inv X pins σ H s) : s.heap.NoLimit := I.ok.mod.nolimit.keeps I.bk
/-- the frame over the base: for OpenK's rules (K.In X.base is I.mod.kin) -/
theorem Inv.fr (I : Inv X pins σ H s) : ∃ m, Fr X.base X.env.locals s.heap m :=
  let ⟨m, hn, _⟩ := I.loc
  ⟨m, hn, I.bk, Nat.le_trans I.ok.bsz I.ok.above⟩
theorem Inv.lt (I : Inv X pins σ H s) : X.env.locals < s.heap.objs.size := let ⟨_, hn, _⟩ := I.loc; hn.lt
theorem Inv.sz (I : Inv X pins σ H s) : X.s₀.heap.objs.size ≤ s.heap.objs.size := Nat.le_trans I.ok.above (Nat.le_of_lt I.lt)
theorem Inv.nofs (I : Inv X pins σ H s) {a : Addr} (h : s.heap.objs.size ≤ a) : a ∉ X.fs := fun hb => by
  obtain ⟨_, o, ho, _⟩ := I.ok.funs.mem hb
  exact absurd (Nat.lt_of_lt_of_le (Heap.lt_size ho) (Nat.le_trans I.sz h)) (Nat.lt_irrefl _)
theorem Inv.cne (I : Inv X pins σ H s) : ∀ x c, X.env.cells.lookup x = some c → c ≠ X.env.locals := fun x c e z => by
  obtain ⟨v, o, ho, hd⟩ := I.cell x c e
  obtain ⟨m, ⟨o', es, ep, ho', hd', _⟩, _⟩ := I.loc
  rw [z, ho'] at ho; cases ho; rw [hd'] at hd; cases hd
theorem Inv.funs (I : Inv X pins σ H s) : s.heap.FunFrames X.base X.outer := by
  have all : ∀ (l : List Env), (∀ b ∈ frs l, b ∈ X.fs) → X.s₀.heap.FunFrames X.base l → s.heap.FunFrames X.base l := by
    intro l
    induction l with
    | nil => intro _ _; trivial
    | cons env r ih =>
      intro hs hl
      obtain ⟨hk, ⟨L, o, hf, hn, ho, hd⟩, hr⟩ := hl
      have hL : L ∈ X.fs := hs L (by unfold frs; rw [List.filterMap_cons, hf]; exact List.mem_cons_self)
      obtain ⟨sl, e⟩ := I.base.slot L o ho (I.ok.frf L hL) hL fun z => I.ok.exfs L z hL
      exact ⟨hk, ⟨L, _, hf, hn, e, hd⟩, ih (fun b hb => hs b (by unfold frs; rw [List.filterMap_cons, hf]; exact List.mem_cons_of_mem _ hb)) hr⟩
  exact all X.outer (fun _ hb => hb) I.ok.funs

/-- the frames that run, for a call -/
theorem Inv.stack (I : Inv X pins σ H s) : s.heap.FunFrames X.base X.stack := by
  rcases I.ok.stk with e | ⟨e, hf⟩
  · rw [e]; exact I.funs
  · rw [e]
    obtain ⟨m, hn, _⟩ := I.loc
    refine .cons (by rw [I.ok.kind]; decide) hf hn ?_ I.funs
    exact Heap.get?_none_of_le (Nat.le_trans I.ok.bsz I.ok.above)
theorem Inv.stkSub (I : Inv X pins σ H s) : ∀ b ∈ frs X.stack, b ∈ X.env.locals :: X.fs := fun b hb => by
  rcases I.ok.stk with e | ⟨e, hf⟩
  · rw [e] at hb; exact List.mem_cons_of_mem _ hb
  · rw [e] at hb
    unfold frs at hb
    rw [List.filterMap_cons, hf] at hb
    exact hb
theorem Inv.stkFree (I : Inv X pins σ H s) : ∀ b ∈ frs X.stack, H b = none := fun b hb => by
  rcases List.mem_cons.mp (I.stkSub b hb) with e | hb
  · rw [e]; exact I.free
  · obtain ⟨_, o, ho, _⟩ := I.ok.funs.mem hb
    exact I.base.free b o ho (I.ok.frf b hb) fun z => I.ok.exfs b z hb

/-- THE STEP: the untracked objects but the frame and the records at ch are kept (the callers' frames up to slots), the frame's map is kept, the new abstract heap is held -/
theorem Inv.step {g' : Array GenState} {t' : Nat} {d' : Drawn} {ch : List Addr} (I : Inv X pins σ H s)
    (hch : ∀ b ∈ ch, (b ∈ X.ex ∨ X.s₀.heap.objs.size ≤ b) ∧ b ≠ X.env.locals ∧ (∀ x c, X.env.cells.lookup x = some c → c ≠ b) ∧ ∀ p ∈ X.pn ++ pins, p.1 ≠ b)
    (keep : ∀ b o, b ≠ X.env.locals → b ∉ X.fs → b ∉ ch → s.heap.get? b = some o → H b = none → h'.get? b = some o)
    (slot : ∀ b o, b ≠ X.env.locals → b ∈ X.fs → b ∉ ch → s.heap.get? b = some o → H b = none → ∃ sl, h'.get? b = some { o with slots := sl }) (free : ∀ b o, b ∉ ch → s.heap.get? b = some o → H b = none → H' b = none)
    (there : ∀ b o, b ∉ ch → s.heap.get? b = some o → ∃ o', h'.get? b = some o')
    (tups : ∀ b xs, H b = some (.tup xs) → H' b = some (.tup xs)) (frzs : ∀ b o u, H b = some (.frz o u) → H' b = some (.frz o u)) (tbls : ∀ b ps, H b = some (.tbl ps) → ∃ more, H' b = some (.tbl (ps ++ more)))
    (ns : ∀ m, s.heap.Ns X.env.locals m → h'.Ns X.env.locals m) (hok : HOk X.prog X.w H' h') (hg : AllBare g') :
    Inv X pins σ H' { s with heap := h', gens := g', drawn := d', toks := t' } := by
  have neL : ∀ b o, X.s₀.heap.get? b = some o → b ≠ X.env.locals := fun b o e => Nat.ne_of_lt (Nat.lt_of_lt_of_le (Heap.lt_size e) I.ok.above)
  have neC : ∀ b o, X.s₀.heap.get? b = some o → b ∉ X.ex → b ∉ ch := fun b o e hx hb => by
    rcases (hch b hb).1 with z | z
    · exact hx z
    · exact absurd (Nat.lt_of_lt_of_le (Heap.lt_size e) z) (Nat.lt_irrefl _)
  have cellK : ∀ x c, X.env.cells.lookup x = some c → ∀ v, s.heap.IsCell c v → h'.IsCell c v := fun x c e v ⟨o, ho, hd⟩ => by
    have nch : c ∉ ch := fun z => (hch c z).2.2.1 x c e rfl
    by_cases hc : c ∈ X.fs
    · obtain ⟨sl, q⟩ := slot c o (I.cne x c e) hc nch ho (I.freeC x c e)
      exact ⟨_, q, hd⟩
    · exact ⟨o, keep c o (I.cne x c e) hc nch ho (I.freeC x c e), hd⟩
  refine ⟨I.ok, I.os, hg, ⟨fun b o e n hb hx => ?_, fun b o e n hb hx => ?_, fun b o e n hx => ?_, fun b o e hx => ?_, fun b xs e => tups b xs (I.base.tups b xs e), fun b o xs e => frzs b o xs (I.base.frzs b o xs e), fun b ps e => ?_⟩, ?_, fun x c e => ?_, ?_, fun x c e => ?_, fun p hp => ?_, hok, I.len⟩
  · exact keep b o (neL b o e) hb (neC b o e hx) (I.base.keep b o e n hb hx) (I.base.free b o e n hx)
  · obtain ⟨sl, e1⟩ := I.base.slot b o e n hb hx
    obtain ⟨sl', e2⟩ := slot b _ (neL b o e) hb (neC b o e hx) e1 (I.base.free b o e n hx)
    exact ⟨sl', e2⟩
  · obtain ⟨o', e1⟩ := I.base.there b o e hx
    exact free b o' (neC b o e hx) e1 (I.base.free b o e n hx)
  · obtain ⟨o', e1⟩ := I.base.there b o e hx
    exact there b o' (neC b o e hx) e1
  · obtain ⟨m1, e1⟩ := I.base.tbls b ps e
    obtain ⟨m2, e2⟩ := tbls b _ e1
    exact ⟨m1 ++ m2, by rw [e2, Array.append_assoc]⟩
  · obtain ⟨m, hn, hl⟩ := I.loc
    refine ⟨m, ns m hn, fun i x v e1 e2 e3 => ?_⟩
    obtain ⟨u, r, l⟩ := hl i x v e1 e2 e3
    refine ⟨u, r, ?_⟩
    rcases l with l | ⟨k, c, e, z⟩
    · exact .inl l
    · exact .inr ⟨k, c, e, cellK x c e _ z⟩
  · obtain ⟨v, z⟩ := I.cell x c e
    exact ⟨v, cellK x c e v z⟩
  · obtain ⟨m, ⟨o, _, _, ho, _⟩, _⟩ := I.loc
    exact free _ o (fun z => (hch _ z).2.1 rfl) ho I.free
  · obtain ⟨v, o, ho, hd⟩ := I.cell x c e
    exact free c o (fun z => (hch c z).2.2.1 x c e rfl) ho (I.freeC x c e)
  · obtain ⟨e, n, ne, nf, d⟩ := I.pin p hp
    have nch : p.1 ∉ ch := fun z => (hch p.1 z).2.2.2 p hp rfl
    exact ⟨keep p.1 p.2 ne nf nch e n, free p.1 p.2 nch e n, ne, nf, d⟩
/-- .. where the frame's own object is kept too -/
theorem Inv.un {t' : Nat} (I : Inv X pins σ H s) (u : Un X.fs [] H H' s.heap h') (hok : HOk X.prog X.w H' h') : Inv X pins σ H' { s with heap := h', toks := t' } := by
  obtain ⟨m, ⟨o, es, ep, ho, r⟩, _⟩ := id I.loc
  obtain ⟨sl, hL⟩ := u.any ho I.free (by simp)
  exact I.step (g' := s.gens) (d' := s.drawn) (ch := []) (fun _ z => nomatch z) (fun b o _ hb _ e n => u.keep b o e n hb (by simp)) (fun b o _ hb _ e n => u.slot b o e n hb (by simp)) (fun b o _ e n => u.free b o e n (by simp)) (fun b o _ e => u.there b o e (by simp)) u.tups u.frzs u.tbls (fun m' hm => by
    obtain ⟨o', es', ep', ho', r'⟩ := hm
    rw [ho] at ho'; cases ho'
    exact ⟨_, es', ep', hL, r'⟩) hok I.bare
/-- behind a call (or a comprehension's block): the slots of this frame may have changed too, the records at ch may have turned -/
theorem Inv.call {g' : Array GenState} {t' : Nat} {d' : Drawn} {ch : List Addr} (I : Inv X pins σ H s) (u : Un (frs X.stack) ch H H' s.heap h') (hok : HOk X.prog X.w H' h') (hg : AllBare g')
    (hch : ∀ b ∈ ch, (b ∈ X.ex ∨ X.s₀.heap.objs.size ≤ b) ∧ b ≠ X.env.locals ∧ (∀ x c, X.env.cells.lookup x = some c → c ≠ b) ∧ ∀ p ∈ X.pn ++ pins, p.1 ≠ b) :
    Inv X pins σ H' { s with heap := h', gens := g', drawn := d', toks := t' } := by
  obtain ⟨m, ⟨o, es, ep, ho, r⟩, _⟩ := id I.loc
  obtain ⟨sl, hL⟩ := u.any ho I.free fun z => (hch _ z).2.1 rfl
  exact I.step (ch := ch) hch (fun b o hL hb hc e n => u.keep b o e n (fun z => (List.mem_cons.mp (I.stkSub b z)).elim hL hb) hc) (fun b o _ _ hc e n => u.any e n hc) (fun b o hc e n => u.free b o e n hc) (fun b o hc e => u.there b o e hc) u.tups u.frzs u.tbls (fun m' hm => by
    obtain ⟨o', es', ep', ho', r'⟩ := hm
    rw [ho] at ho'; cases ho'
    exact ⟨_, es', ep', hL, r'⟩) hok hg
/-- an untracked record of ours (an iterator) has turned -/
theorem Inv.turned {t' : Nat} {it : Addr} (I : Inv X pins σ H s) (k : ∀ b o, b ≠ it → s.heap.get? b = some o → h'.get? b = some o) (hn : H it = none) (hL : it ≠ X.env.locals)
    (h1 : it ∈ X.ex ∨ X.s₀.heap.objs.size ≤ it) (h2 : ∀ x c, X.env.cells.lookup x = some c → c ≠ it) (h3 : ∀ p ∈ X.pn ++ pins, p.1 ≠ it) : Inv X pins σ H { s with heap := h', toks := t' } := by
  have nit : ∀ b u, H b = some u → b ≠ it := fun b u e z => by rw [z, hn] at e; cases e
  refine I.step (g' := s.gens) (d' := s.drawn) (ch := [it]) (fun b hb => ?_) (fun b o _ _ hc e _ => k b o (fun z => hc (by simp [z])) e) (fun b o _ _ hc e _ => ⟨o.slots, k b o (fun z => hc (by simp [z])) e⟩) (fun _ _ _ _ n => n)
    (fun b o hc e => ⟨o, k b o (fun z => hc (by simp [z])) e⟩) (fun _ _ e => e) (fun _ _ _ e => e) (fun b ps e => ⟨#[], by rw [e]; simp⟩) (fun m hm => ?_) (fun b u e => ?_) I.bare
  · have e : b = it := by simpa using hb
    subst e
    exact ⟨h1, hL, h2, h3⟩
  · obtain ⟨o, es, ep, ho, r⟩ := hm
    exact ⟨o, es, ep, k _ o (Ne.symm hL) ho, r⟩
  · refine (I.hok b u e).stay (fun c v hc q => k c v ?_ q) (fun _ q => q) fun _ _ q => q
    rcases hc with z | z
    · rw [z]; exact nit b u e
    · exact nit c _ z
theorem Inv.tok (I : Inv X pins σ H s) (t : Nat) : Inv X pins σ H { s with toks := t } := I.un (h' := s.heap) (t' := t) Un.refl I.hok
/-- all objects kept -/
theorem Inv.kept {t' : Nat} (I : Inv X pins σ H s) (k : ∀ b u, s.heap.get? b = some u → h'.get? b = some u) : Inv X pins σ H { s with heap := h', toks := t' } := I.un (Un.kept k) (I.hok.kept k)
/-- a new object laid and tracked -/
theorem Inv.laid {a : Addr} {o : HO} {t' : Nat} (I : Inv X pins σ H s) (k : ∀ b u, s.heap.get? b = some u → h'.get? b = some u) (hp : s.heap.objs.size ≤ a) (new : ObjOk X.prog X.w (upd H a o) h' a o) :
    Inv X pins σ (upd H a o) { s with heap := h', toks := t' } := I.un (Un.laid k hp (I.hok.fresh hp)) (I.hok.laid k hp new)
/-- an object written -/
theorem Inv.write {x e : Addr} {o : HO} {t' : Nat} (I : Inv X pins σ H s) (mu : Mut (H x)) (he : e = x ∨ H e = some (.own x)) (k : ∀ b u, b ≠ e → s.heap.get? b = some u → h'.get? b = some u) (heo : ∃ u, h'.get? e = some u)
    (new : ObjOk X.prog X.w (upd H x o) h' x o) : Inv X pins σ (upd H x o) { s with heap := h', toks := t' } := I.un (Un.write mu he k heo) (I.hok.write mu he k heo new)
/-- forgetting slots, pins -/
theorem Inv.weak {σ' : List (Option V)} (I : Inv X pins σ H s) (hl : σ'.length = σ.length) (w : ∀ (i : Nat) v, σ'[i]? = some (some v) → σ[i]? = some (some v)) : Inv X pins σ' H s :=
  ⟨I.ok, I.os, I.bare, I.base, let ⟨m, hn, hl'⟩ := I.loc; ⟨m, hn, fun i x v e1 e2 e3 => hl' i x v e1 (w i v e2) e3⟩, I.cell, I.free, I.freeC, I.pin, I.hok, hl.trans I.len⟩
theorem Inv.pins_of {pins' : List (Addr × Obj)} (I : Inv X pins σ H s) (h : ∀ p ∈ pins', s.heap.get? p.1 = some p.2 ∧ H p.1 = none ∧ p.1 ≠ X.env.locals ∧ p.1 ∉ X.fs ∧ ∀ v, p.2.data ≠ .cell v) : Inv X pins' σ H s :=
  ⟨I.ok, I.os, I.bare, I.base, I.loc, I.cell, I.free, I.freeC, fun p hp => (List.mem_append.mp hp).elim (fun z => I.pin p (List.mem_append_left _ z)) (h p), I.hok, I.len⟩

theorem nodup_ix {N : List Str} (hN : N.Nodup) {i j : Nat} {x : Str} (a : N[i]? = some x) (b : N[j]? = some x) : i = j := by
  obtain ⟨h1, e1⟩ := List.getElem?_eq_some_iff.mp a
  obtain ⟨h2, e2⟩ := List.getElem?_eq_some_iff.mp b
  exact (List.getElem_inj hN).mp (e1.trans e2.symm)

/-- a name is stored; what changed -/
theorem store_ok2 {M : Model} {A : Around} {E : Value → Shared → Prop} {i : Nat} {x : Str} {v : V} {u : Value} {Q : Unit → Shared → Prop} (I : Inv X pins σ H s) (hN : X.N.Nodup) (hi : X.N[i]? = some x) (hx : Loc X.env.scope x) (r : RelV v u)
    (h : ∀ s', Inv X pins (σ.set i (some v)) H s' → (∃ a, Heap.SameBut a s.heap s'.heap ∧ (a = X.env.locals ∨ X.env.cells.lookup x = some a)) → Q () s') (hf : X.fn x = true ∨ X.env.scope.names.lookup x = some .local := by first | exact .inl rfl | exact .inr rfl | assumption) : wpAny M A (storeName X.env x u) Q E s := by
  obtain ⟨m, hn, hl⟩ := id I.loc
  have hcls : (X.env.scope.kind == .class || (X.env.scope.kind == .module && X.env.locals != X.env.globals)) = false := by rw [I.ok.kind]; rfl
  have hiσ : i < σ.length := by rw [I.len]; exact (List.getElem?_eq_some_iff.mp hi).1
  have cne := I.cne
  have tracked : ∀ {a : Addr} {h' : Heap}, (∃ o, s.heap.get? a = some o ∧ H a = none) → Heap.SameBut a s.heap h' → HOk X.prog X.w H h' := fun {a h'} ha hs b ob e => by
    obtain ⟨_, _, hfree⟩ := ha
    refine (I.hok b ob e).stay (fun c w' hc q => (hs.2 c ?_).trans q) (fun _ q => q) fun _ _ q => q
    rintro rfl
    rcases hc with rfl | hc
    · rw [hfree] at e; cases e
    · rw [hfree] at hc; cases hc
  rcases hx with hk | hk
  · refine wpAny_storeName_local hk hn (fun h' hn' hs => ?_) hcls
    obtain ⟨oL, _, _, hoL, _⟩ := id hn
    refine h _ ⟨I.ok, I.os, I.bare, ⟨fun b o e n hb hx => ?_, fun b o e n hb hx => ?_, I.base.free, fun b o e hx => ?_, I.base.tups, I.base.frzs, I.base.tbls⟩, ⟨_, hn', fun j y v' e1 e2 e3 => ?_⟩, fun y c e => ?_, I.free, I.freeC, fun p hp => ?_, tracked ⟨oL, hoL, I.free⟩ hs, by simpa using I.len⟩ ⟨_, hs, .inl rfl⟩
    · exact (hs.2 b (Nat.ne_of_lt (Nat.lt_of_lt_of_le (Heap.lt_size e) I.ok.above))).trans (I.base.keep b o e n hb hx)
    · obtain ⟨sl, e1⟩ := I.base.slot b o e n hb hx
      exact ⟨sl, (hs.2 b (Nat.ne_of_lt (Nat.lt_of_lt_of_le (Heap.lt_size e) I.ok.above))).trans e1⟩
    · obtain ⟨o', e1⟩ := I.base.there b o e hx
      exact ⟨o', (hs.2 b (Nat.ne_of_lt (Nat.lt_of_lt_of_le (Heap.lt_size e) I.ok.above))).trans e1⟩
    · by_cases hj : j = i
      · subst hj
        rw [hi] at e1; cases e1
        rw [List.getElem?_set_self hiσ] at e2
        cases e2
        exact ⟨u, r, .inl ⟨hk, by simp⟩⟩
      · rw [List.getElem?_set_ne (Ne.symm hj)] at e2
        obtain ⟨u', r', q⟩ := hl j y v' e1 e2 e3
        refine ⟨u', r', ?_⟩
        rcases q with ⟨k, e⟩ | ⟨k, c, e, z⟩
        · refine .inl ⟨k, ?_⟩
          have : y ≠ x := fun e => hj (nodup_ix hN e1 (e ▸ hi))
          simp [this, e]
        · exact .inr ⟨k, c, e, z.sameBut hs (cne y c e)⟩
    · obtain ⟨w', z⟩ := I.cell y c e
      exact ⟨w', z.sameBut hs (cne y c e)⟩
    · obtain ⟨e, n, ne, nf, d⟩ := I.pin p hp
      exact ⟨(hs.2 p.1 ne).trans e, n, ne, nf, d⟩
  · have hfn : X.fn x = true := by
      rcases hf with z | z
      · exact z
      · rw [z] at hk; cases hk
    obtain ⟨c, hc⟩ := I.ok.has x (.inl hk)
    obtain ⟨w', z⟩ := I.cell x c hc
    refine wpAny_storeName_cell I.ok.kind hk hc z (fun h' hc' hs => ?_)
    obtain ⟨oc, hoc, hocd⟩ := id z
    refine h { s with heap := h' } ⟨I.ok, I.os, I.bare, ⟨fun b o e n hb hx => ?_, fun b o e n hb hx => ?_, I.base.free, fun b o e hx => ?_, I.base.tups, I.base.frzs, I.base.tbls⟩, ⟨m, hn.sameBut hs (Ne.symm (cne x c hc)), fun j y v' e1 e2 e3 => ?_⟩, fun y c' e => ?_, I.free, I.freeC, fun p hp => ?_, tracked ⟨oc, hoc, I.freeC x c hc⟩ hs, by simpa using I.len⟩ ⟨c, hs, .inr hc⟩
    · exact (hs.2 b (Nat.ne_of_lt (Nat.lt_of_lt_of_le (Heap.lt_size e) (I.ok.cab x c hfn hc)))).trans (I.base.keep b o e n hb hx)
    · obtain ⟨sl, e1⟩ := I.base.slot b o e n hb hx
      exact ⟨sl, (hs.2 b (Nat.ne_of_lt (Nat.lt_of_lt_of_le (Heap.lt_size e) (I.ok.cab x c hfn hc)))).trans e1⟩
    · obtain ⟨o', e1⟩ := I.base.there b o e hx
      exact ⟨o', (hs.2 b (Nat.ne_of_lt (Nat.lt_of_lt_of_le (Heap.lt_size e) (I.ok.cab x c hfn hc)))).trans e1⟩
    · by_cases hj : j = i
      · subst hj
        rw [hi] at e1; cases e1
        rw [List.getElem?_set_self hiσ] at e2
        cases e2
        exact ⟨u, r, .inr ⟨.inl hk, c, hc, hc'⟩⟩
      · rw [List.getElem?_set_ne (Ne.symm hj)] at e2
        obtain ⟨u', r', q⟩ := hl j y v' e1 e2 e3
        refine ⟨u', r', ?_⟩
        rcases q with q | ⟨k, c', e, z'⟩
        · exact .inl q
        · refine .inr ⟨k, c', e, z'.sameBut hs ?_⟩
          rintro rfl
          exact hj (nodup_ix hN e1 (I.ok.inj _ _ _ e hc ▸ hi))
    · by_cases hcc : c' = c
      · subst hcc; exact ⟨_, hc'⟩
      · obtain ⟨w2, z2⟩ := I.cell y c' e
        exact ⟨w2, z2.sameBut hs hcc⟩
    · obtain ⟨e, n, ne, nf, d⟩ := I.pin p hp
      refine ⟨(hs.2 p.1 ?_).trans e, n, ne, nf, d⟩
      intro q
      rw [q, hoc] at e
      have q' : oc = p.2 := Option.some.inj e
      exact d w' (by rw [← q']; exact hocd)
theorem store_ok {M : Model} {A : Around} {E : Value → Shared → Prop} {i : Nat} {x : Str} {v : V} {u : Value} {Q : Unit → Shared → Prop} (I : Inv X pins σ H s) (hN : X.N.Nodup) (hi : X.N[i]? = some x) (hx : Loc X.env.scope x) (r : RelV v u)
    (h : ∀ s', Inv X pins (σ.set i (some v)) H s' → Q () s') (hf : X.fn x = true ∨ X.env.scope.names.lookup x = some .local := by first | exact .inl rfl | exact .inr rfl | assumption) : wpAny M A (storeName X.env x u) Q E s :=
  store_ok2 I hN hi hx r (fun s' I' _ => h s' I') hf
/-- behind a call or a block, the state as it is -/
theorem Inv.call' {s' : Shared} {ch : List Addr} (I : Inv X pins σ H s) (ho : s'.os = s.os) (u : Un (frs X.stack) ch H H' s.heap s'.heap) (hok : HOk X.prog X.w H' s'.heap) (hg : AllBare s'.gens)
    (hch : ∀ b ∈ ch, (b ∈ X.ex ∨ X.s₀.heap.objs.size ≤ b) ∧ b ≠ X.env.locals ∧ (∀ x c, X.env.cells.lookup x = some c → c ≠ b) ∧ ∀ p ∈ X.pn ++ pins, p.1 ≠ b) : Inv X pins σ H' s' := by
  obtain ⟨h', g', d', t', o'⟩ := s'
  have e : o' = s.os := ho
  subst e
  exact I.call (g' := g') (t' := t') (d' := d') u hok hg hch
end

/-! ### the judgements -/
/-- an exception: its class, its own dict's address (where it has one), the abstract heap behind it -/
abbrev XK := Value → Option Addr → Hp → Prop
abbrev St := List (Option V)
abbrev VK := V → Hp → Prop
/-- an expression's reading; a test's; an argument list's -/
abbrev TE := St → Hp → VK → Prop
abbrev TT := St → Hp → (Bool → Hp → Prop) → Prop
abbrev TA := St → Hp → (List V → Hp → Prop) → Prop
/-- what is wanted behind a statement -/
structure Ends where
  nx : St → Hp → Prop
  rt : VK
  bk : St → Hp → Prop := fun _ _ => False
  ct : St → Hp → Prop := fun _ _ => False
abbrev TS := Ends → St → Hp → Prop

def EP (X : Cx) (pins : List (Addr × Obj)) (σ : St) (Q : VK) (u : Value) (s' : Shared) : Prop := ∃ v H', Inv X pins σ H' s' ∧ RelV v u ∧ Q v H'
def TP (X : Cx) (pins : List (Addr × Obj)) (σ : St) (Q : Bool → Hp → Prop) (b : Bool) (s' : Shared) : Prop := ∃ H', Inv X pins σ H' s' ∧ Q b H'
def AP (X : Cx) (pins : List (Addr × Obj)) (σ : St) (Q : List V → Hp → Prop) (us : List Value) (s' : Shared) : Prop := ∃ vs H', Inv X pins σ H' s' ∧ Vals vs us ∧ Q vs H'
def SP (X : Cx) (pins : List (Addr × Obj)) (D : Ends) (f : Flow) (s' : Shared) : Prop :=
  match f with
  | .next => ∃ σ' H', Inv X pins σ' H' s' ∧ D.nx σ' H'
  | .brk => ∃ σ' H', Inv X pins σ' H' s' ∧ D.bk σ' H'
  | .cont => ∃ σ' H', Inv X pins σ' H' s' ∧ D.ct σ' H'
  | .ret u => ∃ v σ' H', Inv X pins σ' H' s' ∧ RelV v u ∧ D.rt v H'

def PE (X : Cx) (e : Expr) (t : TE) : Prop :=
  ∀ (pins : List (Addr × Obj)) (s : Shared) (σ : St) (H : Hp) (Q : VK), Inv X pins σ H s → t σ H Q → wpAny (model X.prog X.w) X.A (eval e X.env) (EP X pins σ Q) X.xe s
def PT (X : Cx) (e : Expr) (t : TT) : Prop :=
  ∀ (pins : List (Addr × Obj)) (s : Shared) (σ : St) (H : Hp) (Q : Bool → Hp → Prop), Inv X pins σ H s → t σ H Q → wpAny (model X.prog X.w) X.A (isTrue e X.env (eval e X.env)) (TP X pins σ Q) X.xe s
/-- a test whatever its 'whole' is (and, or) -/
def PW (X : Cx) (e : Expr) (t : TT) : Prop :=
  ∀ (whole : Sem Value) (pins : List (Addr × Obj)) (s : Shared) (σ : St) (H : Hp) (Q : Bool → Hp → Prop), Inv X pins σ H s → t σ H Q → wpAny (model X.prog X.w) X.A (isTrue e X.env whole) (TP X pins σ Q) X.xe s
theorem PW.pt {X : Cx} {e : Expr} {t : TT} (h : PW X e t) : PT X e t := h _
/-- an argument list (no star), from the left -/
def PA (X : Cx) (es : List Expr) (t : TA) : Prop :=
  ∀ (pos : Pos) (pins : List (Addr × Obj)) (s : Shared) (σ : St) (H : Hp) (Q : List V → Hp → Prop), Inv X pins σ H s → t σ H Q → wpAny (model X.prog X.w) X.A (spliced (backTo pos (starEach es X.env))) (AP X pins σ Q) X.xe s
def PS (X : Cx) (st : Stmt) (t : TS) : Prop :=
  ∀ (pins : List (Addr × Obj)) (s : Shared) (σ : St) (H : Hp) (D : Ends), Inv X pins σ H s → t D σ H → wpAny (model X.prog X.w) X.A (exec st X.env) (SP X pins D) X.xe s
def PSs (X : Cx) (st : List Stmt) (t : TS) : Prop :=
  ∀ (pins : List (Addr × Obj)) (s : Shared) (σ : St) (H : Hp) (D : Ends), Inv X pins σ H s → t D σ H → wpAny (model X.prog X.w) X.A (execs st X.env) (SP X pins D) X.xe s
/-- weaken the end -/
theorem thn {α : Type} {t : Sem α} {Q Q' : α → Shared → Prop} {M : Model} {A : Around} {E : Value → Shared → Prop} {s : Shared} (h : wpAny M A t Q E s) (hQ : ∀ a s, Q a s → Q' a s) : wpAny M A t Q' E s := wpAny_mono h hQ fun _ _ x => x
end L2

namespace L2
open PySem PySem.Spec PyProof.Rows
section
variable {X : Cx}

/-! ### names and constants -/
def tVar (i : Nat) : TE := fun σ H Q => ∃ v, σ[i]? = some (some v) ∧ Q v H
def tC (v : V) : TE := fun _ H Q => Q v H
theorem pe_var {i : Nat} {x : Str} {pos : Pos} (hN : X.N[i]? = some x) (hv : Vis X.env.scope x) (hd : (x == ("__debug__" : Str)) = false := by decide) (hcd : (x == ("__classdict__" : Str)) = false := by decide) : PE X (.Name x pos) (tVar i) := by
  intro pins s σ H Q I h
  obtain ⟨v, e, h⟩ := h
  obtain ⟨m, hn, hl⟩ := I.loc
  obtain ⟨u, r, l⟩ := hl i x v hN e hv
  have fin : EP X pins σ Q u s := ⟨v, H, I, r, h⟩
  rcases l with ⟨hk, hm⟩ | ⟨hk, c, hc, hcell⟩
  · exact wpAny_Name (wpAny_loadName_local I.ok.kind hk hn hm fin) hd
  · rcases hk with hk | hk
    · exact wpAny_Name (wpAny_loadName_cell I.ok.kind hk hc hcell fin) hd
    · exact wpAny_Name (wpAny_loadName_free I.ok.kind hk hc hcell fin hcd) hd
theorem pe_int {i j pos} : PE X (.Constant (.int i) j pos) (tC (.int i)) := fun _ _ _ H _ I h => wpAny_Constant_int ⟨.int i, H, I.tok _, ⟨_, rfl⟩, h⟩
theorem pe_bl {b j pos} : PE X (.Constant (.bool b) j pos) (tC (.bl b)) := fun _ _ _ H _ I h => Constant_bool ⟨.bl b, H, I, rfl, h⟩
theorem pe_non {j pos} : PE X (.Constant .none j pos) (tC .non) := fun _ _ _ H _ I h => Constant_none ⟨.non, H, I, rfl, h⟩
theorem pe_str {x j pos} : PE X (.Constant (.str x) j pos) (tC (.str x)) := fun _ _ _ H _ I h => Calls.Constant_str ⟨.str x, H, I.tok _, ⟨_, rfl⟩, h⟩

/-- a global name of the def -/
def Gl (X : Cx) (x : Str) : Prop := X.env.kindOf x = some .globalImplicit
theorem ld_glob {E : Value → Shared → Prop} {pins : List (Addr × Obj)} {s : Shared} {σ : St} {H : Hp} {x : Str} {u : Value} {pos : Pos} {Q : Value → Shared → Prop} (I : Inv X pins σ H s) (hg : Gl X x) (hm : X.mg x = some u) (h : Q u s)
    (hd : (x == ("__debug__" : Str)) = false := by decide) : wpAny (model X.prog X.w) X.A (eval (.Name x pos) X.env) Q E s :=
  Calls.Name_function_global I.ok.kind hg (Calls.loadGlobal_global (by rw [I.ok.glob]; exact I.mod.glob.keeps I.bk) hm h) hd
theorem ld_blt {E : Value → Shared → Prop} {pins : List (Addr × Obj)} {s : Shared} {σ : St} {H : Hp} {x : Str} {u : Value} {pos : Pos} {Q : Value → Shared → Prop} (I : Inv X pins σ H s) (hg : Gl X x) (hm : X.mg x = none) (hv : bootBuiltins x = some u) (h : Q u s)
    (hn : x ≠ "__name__" := by decide) (hd : (x == ("__debug__" : Str)) = false := by decide) : wpAny (model X.prog X.w) X.A (eval (.Name x pos) X.env) Q E s := by
  obtain ⟨mb, h1, h2⟩ := I.mod.blt
  exact Calls.Name_function_global I.ok.kind hg (Calls.loadGlobal_builtin (by rw [I.ok.glob]; exact I.mod.glob.keeps I.bk) hm (by rw [I.ok.blt]; exact h1.keeps I.bk) ((h2 x hn).trans hv) h) hd
/-- a module's constant, a class, a function, as a value -/
theorem pe_glob {x : Str} {v : V} {u : Value} {pos : Pos} (hg : Gl X x) (hm : X.mg x = some u) (r : RelV v u) (hd : (x == ("__debug__" : Str)) = false := by decide) : PE X (.Name x pos) (tC v) :=
  fun _ _ _ H _ I h => ld_glob I hg hm ⟨v, H, I, r, h⟩ hd
theorem pe_bltn {x : Str} {v : V} {u : Value} {pos : Pos} (hg : Gl X x) (hm : X.mg x = none) (hv : bootBuiltins x = some u) (r : RelV v u) (hn : x ≠ "__name__" := by decide) (hd : (x == ("__debug__" : Str)) = false := by decide) : PE X (.Name x pos) (tC v) :=
  fun _ _ _ H _ I h => ld_blt I hg hm hv ⟨v, H, I, r, h⟩ hn hd

/-! ### arithmetic -/
variable {a b : Expr} {ta tb : TE} {pos : Pos}
/-! ### comparisons -/
def PC (X : Cx) (op : CmpOp) (a b : Expr) (t : TE) : Prop :=
  ∀ (pins : List (Addr × Obj)) (s : Shared) (σ : St) (H : Hp) (Q : VK), Inv X pins σ H s → t σ H Q →
    wpAny (model X.prog X.w) X.A (eval a X.env) (fun v s₁ => wpAny (model X.prog X.w) X.A (eval b X.env) (fun u s₂ => wpAny (model X.prog X.w) X.A (compareOp op v u) (EP X pins σ Q) X.xe s₂) X.xe s₁) X.xe s
/-- a comparison as a value, as a test -/
def tB (t : TE) : TT := fun σ H Q => t σ H fun x H1 => ∃ c, x = .bl c ∧ Q c H1
/-- an expression whose value is a bool, as a test -/
theorem pt_val {e : Expr} {t : TE} (h : PE X e t) (he : ∀ whole, isTrue e X.env whole = (do let v ← whole; standAt e.pos; holding [v] (truthy v)) := by intro _; rfl) : PT X e (tB t) := by
  intro pins s σ H Q I hw
  refine isTrue_plain (thn (h pins s σ H _ I hw) fun v s1 ⟨x, H1, I1, r1, q1⟩ => ?_) (he _)
  obtain ⟨d, rfl, q⟩ := q1
  cases r1
  exact wpAny_truthy_bool ⟨H1, I1, q⟩

/-! ### and, or, not -/
variable {tA tB' : TT} {rest : List Expr}
def tAnd (t u : TT) : TT := fun σ H Q => t σ H fun c H1 => if c = true then u σ H1 Q else Q false H1
def tOr (t u : TT) : TT := fun σ H Q => t σ H fun c H1 => if c = true then Q true H1 else u σ H1 Q
def tNot (t : TT) : TT := fun σ H Q => t σ H fun c H1 => Q (!c) H1
theorem pw_and1 (ha : PT X a tA) : PW X (.BoolOp .And [a] pos) tA := by
  intro wh pins s σ H Q I h
  refine isTrue_and (thn (ha pins s σ H Q I h) fun c s1 e => ?_)
  cases c with
  | true => exact isTrue_and_nil e
  | false => exact e
theorem pw_or1 (ha : PT X a tA) : PW X (.BoolOp .Or [a] pos) tA := by
  intro wh pins s σ H Q I h
  refine isTrue_or (thn (ha pins s σ H Q I h) fun c s1 e => ?_)
  cases c with
  | false => exact isTrue_or_nil e
  | true => exact e
theorem pw_and (ha : PT X a tA) (hb : PW X (.BoolOp .And (b :: rest) pos) tB') : PW X (.BoolOp .And (a :: b :: rest) pos) (tAnd tA tB') := by
  intro wh pins s σ H Q I h
  refine isTrue_and (thn (ha pins s σ H _ I h) fun c s1 ⟨H1, I1, q1⟩ => ?_)
  cases c with
  | true => exact hb wh pins s1 σ H1 Q I1 q1
  | false => exact ⟨H1, I1, q1⟩
theorem pw_or (ha : PT X a tA) (hb : PW X (.BoolOp .Or (b :: rest) pos) tB') : PW X (.BoolOp .Or (a :: b :: rest) pos) (tOr tA tB') := by
  intro wh pins s σ H Q I h
  refine isTrue_or (thn (ha pins s σ H _ I h) fun c s1 ⟨H1, I1, q1⟩ => ?_)
  cases c with
  | true => exact ⟨H1, I1, q1⟩
  | false => exact hb wh pins s1 σ H1 Q I1 q1
theorem pt_not (ha : PT X a tA) : PT X (.UnaryOp .Not a pos) (tNot tA) := by
  intro pins s σ H Q I h
  exact isTrue_not (ha pins s σ H (fun c H1 => Q (!c) H1) I h)
/-- .. as values (bools) -/
def tAndV (ta tb : TE) : TE := fun σ H Q => ta σ H fun x H1 => ∃ c, x = .bl c ∧ if c = true then tb σ H1 Q else Q (.bl false) H1
theorem pe_one {op} {t : TE} (h : PE X a t) : PE X (.BoolOp op [a] pos) t := fun pins s σ H Q I hw => BoolOp_one (h pins s σ H Q I hw)
theorem pe_and (ha : PE X a ta) (hb : PE X (.BoolOp .And (b :: rest) pos) tb) : PE X (.BoolOp .And (a :: b :: rest) pos) (tAndV ta tb) := by
  intro pins s σ H Q I h
  refine BoolOp_and (thn (ha pins s σ H _ I h) fun v s1 ⟨x, H1, I1, r1, q1⟩ => ?_)
  obtain ⟨c, rfl, q1⟩ := q1
  cases r1
  refine wpAny_truthy_bool ?_
  cases c with
  | true => exact hb pins s1 σ H1 Q I1 q1
  | false => exact ⟨.bl false, H1, I1, rfl, q1⟩
/-- a if t else b -/
def tIf (t : TT) (ta tb : TE) : TE := fun σ H Q => t σ H fun c H1 => if c = true then ta σ H1 Q else tb σ H1 Q
theorem pe_ifExp {c : Expr} (hc : PT X c tA) (ha : PE X a ta) (hb : PE X b tb) : PE X (.IfExp c a b pos) (tIf tA ta tb) := by
  intro pins s σ H Q I h
  refine wpAny_IfExp (thn (hc pins s σ H _ I h) fun d s1 ⟨H1, I1, q1⟩ => ?_)
  cases d with
  | true => exact ha pins s1 σ H1 Q I1 q1
  | false => exact hb pins s1 σ H1 Q I1 q1
end
end L2

namespace L2
open PySem PySem.Spec PyProof.Rows

/-! ### a list, a tuple that is read: tracked, frozen, or an object of the module -/
def SqL (K : PySem.W.Frag) (H : Hp) (a : Addr) (xs : List V) : Prop :=
  Rd H a (.lst xs) ∨
    ∃ (o : Obj) (its : Array Value) (n : Nat), K.lookup a = some o ∧ o.cls = .type "list" ∧ o.dict = none ∧ o.data = .seq its n ∧ its.size ≤ sizeLine ∧ Vals xs its.toList
def SqT (K : PySem.W.Frag) (H : Hp) (a : Addr) (xs : List V) : Prop :=
  Rd H a (.tup xs) ∨
    ∃ (o : Obj) (its : Array Value) (n : Nat), K.lookup a = some o ∧ o.cls = .type "tuple" ∧ o.data = .seq its n ∧ its.size ≤ sizeLine ∧ Vals xs its.toList
def absV : Value → Option V
  | .none => some .non
  | .bool b => some (.bl b)
  | .int i _ => some (.int i)
  | .str x _ => some (.str x)
  | .bytes b _ => some (.byt b)
  | .float b _ => some (.flt b)
  | .ref a => some (.ref a)
  | .type n => some (.ty n)
  | _ => none
theorem RelV.abs {x : V} {u : Value} (r : RelV x u) : absV u = some x := by
  cases x with
  | non => cases r; rfl
  | bl _ => cases r; rfl
  | int _ => obtain ⟨t, rfl⟩ := r; rfl
  | str _ => obtain ⟨t, rfl⟩ := r; rfl
  | byt _ => obtain ⟨t, rfl⟩ := r; rfl
  | flt _ => obtain ⟨t, rfl⟩ := r; rfl
  | ref _ => cases r; rfl
  | ty _ => cases r; rfl
theorem RelV.inj {x y : V} {u : Value} (r : RelV x u) (q : RelV y u) : x = y := Option.some.inj (r.abs.symm.trans q.abs)
theorem Vals.inj : ∀ {xs ys : List V} {us : List Value}, Vals xs us → Vals ys us → xs = ys
  | _, _, _, .nil, .nil => rfl
  | _, _, _, .cons r t, .cons r' t' => by rw [r.inj r', Vals.inj t t']
section
variable {X : Cx} {pins : List (Addr × Obj)} {σ : St} {H : Hp} {s : Shared} {a : Addr} {xs ys : List V}
theorem SqL.of {K : PySem.W.Frag} (h : H a = some (.lst xs)) : SqL K H a xs := .inl (.inl h)
theorem SqT.of {K : PySem.W.Frag} (h : H a = some (.tup xs)) : SqT K H a xs := .inl (.inl h)
theorem Inv.list (I : Inv X pins σ H s) (h : SqL X.K H a xs) : ∃ its : List Value, Vals xs its ∧ PlainL s.heap a its.toArray ∧ xs.length ≤ sizeLine := by
  rcases h with h | ⟨o, its, n, hk, hc, hd, hs, hz, r⟩
  · obtain ⟨z, its, n, r, e⟩ := h.ok I.hok
    exact ⟨its, r, ⟨_, n, e, rfl, rfl, rfl⟩, z⟩
  · refine ⟨its.toList, r, ⟨o, n, I.kIn a o hk, hc, hd, by simpa using hs⟩, ?_⟩
    have e := r.length
    simp only [Array.length_toList] at e
    omega
theorem Inv.tuple (I : Inv X pins σ H s) (h : SqT X.K H a xs) : ∃ its : List Value, Vals xs its ∧ IsTup s.heap a its.toArray ∧ xs.length ≤ sizeLine := by
  rcases h with h | ⟨o, its, n, hk, hc, hs, hz, r⟩
  · obtain ⟨z, its, r, p⟩ := h.ok I.hok
    exact ⟨its, r, p, z⟩
  · refine ⟨its.toList, r, ⟨o, I.kIn a o hk, hc, n, by simpa using hs⟩, ?_⟩
    have e := r.length
    simp only [Array.length_toList] at e
    omega
theorem Inv.list_inj (I : Inv X pins σ H s) (h : SqL X.K H a xs) (h' : SqL X.K H a ys) : xs = ys := by
  obtain ⟨its, r, ⟨o, n, e, _, _, d⟩, _⟩ := I.list h
  obtain ⟨its', r', ⟨o', n', e', _, _, d'⟩, _⟩ := I.list h'
  rw [e] at e'; cases e'
  rw [d] at d'
  injection d' with d1 _
  have : its = its' := by simpa using congrArg Array.toList d1
  subst this
  exact r.inj r'
theorem Inv.tuple_inj (I : Inv X pins σ H s) (h : SqT X.K H a xs) (h' : SqT X.K H a ys) : xs = ys := by
  obtain ⟨its, r, ⟨o, e, _, n, d⟩, _⟩ := I.tuple h
  obtain ⟨its', r', ⟨o', e', _, n', d'⟩, _⟩ := I.tuple h'
  rw [e] at e'; cases e'
  rw [d] at d'
  injection d' with d1 _
  have : its = its' := by simpa using congrArg Array.toList d1
  subst this
  exact r.inj r'
end

/-! ### another wish about exceptions -/
abbrev Cx.wish (X : Cx) (E : Value → Shared → Prop) : Cx := { X with xe := E }
/-- no exception leaves -/
abbrev Cx.nox (X : Cx) : Cx := X.wish fun _ _ => False
theorem Cx.Ok.wish {X : Cx} (ok : X.Ok) (E : Value → Shared → Prop) : (X.wish E).Ok :=
  ⟨ok.mod, ok.kind, ok.glob, ok.blt, ok.above, ok.inj, ok.has, ok.cab, ok.hd, ok.frames, ok.stk, ok.exf, ok.bs, ok.bsz, ok.noex, ok.exfs, ok.funs, ok.frf⟩
theorem Cx.Ok.unwish {X : Cx} {E : Value → Shared → Prop} (ok : (X.wish E).Ok) : X.Ok :=
  ⟨ok.mod, ok.kind, ok.glob, ok.blt, ok.above, ok.inj, ok.has, ok.cab, ok.hd, ok.frames, ok.stk, ok.exf, ok.bs, ok.bsz, ok.noex, ok.exfs, ok.funs, ok.frf⟩
section
variable {X : Cx} {pins : List (Addr × Obj)} {σ : St} {H : Hp} {s : Shared} {E : Value → Shared → Prop}
theorem Inv.wish (I : Inv X pins σ H s) (E : Value → Shared → Prop) : Inv (X.wish E) pins σ H s := ⟨I.ok.wish E, I.os, I.bare, I.base, I.loc, I.cell, I.free, I.freeC, I.pin, I.hok, I.len⟩
theorem Inv.unwish (I : Inv (X.wish E) pins σ H s) : Inv X pins σ H s := ⟨I.ok.unwish, I.os, I.bare, I.base, I.loc, I.cell, I.free, I.freeC, I.pin, I.hok, I.len⟩
theorem SP.unwish {D : Ends} {f : Flow} {s' : Shared} (h : SP (X.wish E) pins D f s') : SP X pins D f s' := by
  cases f with
  | next => obtain ⟨σ', H', I, q⟩ := h; exact ⟨σ', H', I.unwish, q⟩
  | brk => obtain ⟨σ', H', I, q⟩ := h; exact ⟨σ', H', I.unwish, q⟩
  | cont => obtain ⟨σ', H', I, q⟩ := h; exact ⟨σ', H', I.unwish, q⟩
  | ret u => obtain ⟨v, σ', H', I, r, q⟩ := h; exact ⟨v, σ', H', I.unwish, r, q⟩
theorem PE.nox {e : Expr} {t : TE} (h : PE X.nox e t) : PE X e t := fun pins s σ H Q I hw =>
  wpAny_mono (h pins s σ H Q (I.wish _) hw) (fun _ _ ⟨v, H', I', r, q⟩ => ⟨v, H', I'.unwish, r, q⟩) fun _ _ z => False.elim z
theorem PT.nox {e : Expr} {t : TT} (h : PT X.nox e t) : PT X e t := fun pins s σ H Q I hw =>
  wpAny_mono (h pins s σ H Q (I.wish _) hw) (fun _ _ ⟨H', I', q⟩ => ⟨H', I'.unwish, q⟩) fun _ _ z => False.elim z
theorem PSs.nox {st : List Stmt} {t : TS} (h : PSs X.nox st t) : PSs X st t := fun pins s σ H D I hw =>
  wpAny_mono (h pins s σ H D (I.wish _) hw) (fun _ _ q => q.unwish) fun _ _ z => False.elim z
end

/-! ### blocks and small statements -/
section
variable {X : Cx} {st : Stmt} {rest : List Stmt} {t u : TS} {e : Expr} {te : TE} {pos : Pos}
def tNext : TS := fun D σ H => D.nx σ H
def tSeq (t u : TS) : TS := fun D σ H => t { D with nx := u D } σ H
theorem pss_nil : PSs X [] tNext := fun _ _ σ H _ I h => wpAny_execs_nil ⟨σ, H, I, h⟩
theorem pss_cons (h1 : PS X st t) (h2 : PSs X rest u) : PSs X (st :: rest) (tSeq t u) := by
  intro pins s σ H D I h
  refine wpAny_execs_cons (thn (h1 pins s σ H { D with nx := u D } I h) fun f s1 q => ?_)
  cases f with
  | next =>
    obtain ⟨σ', H', I', q⟩ := q
    exact h2 pins s1 σ' H' D I' q
  | ret v => exact q
  | brk => exact q
  | cont => exact q
theorem pss_one (h1 : PS X st t) : PSs X [st] t := by
  intro pins s σ H D I h
  refine wpAny_execs_cons (thn (h1 pins s σ H D I h) fun f s1 q => ?_)
  cases f with
  | next => exact wpAny_execs_nil q
  | ret v => exact q
  | brk => exact q
  | cont => exact q
/-- in a def's body nothing is shown -/
theorem Inv.quiet {pins : List (Addr × Obj)} {σ : St} {H : Hp} {s : Shared} (I : Inv X pins σ H s) : interactive X.env = false := by simp [interactive, I.ok.kind]
/-- an expression whose value is dropped -/
def tDrop (te : TE) : TS := fun D σ H => te σ H fun _ H1 => D.nx σ H1
theorem ps_expr (he : PE X e te) (hs : swapsWith e none pos.line X.env = pure false := by rfl) : PS X (.Expr e pos) (tDrop te) := by
  intro pins s σ H D I h
  exact wpAny_Expr_any (thn (he pins s σ H _ I h) fun v s1 ⟨x, H1, I1, r1, q1⟩ => ⟨σ, H1, I1, q1⟩) I.quiet hs
def tRet (te : TE) : TS := fun D σ H => te σ H D.rt
theorem ps_ret (he : PE X e te) : PS X (.Return (some e) pos) (tRet te) := by
  intro pins s σ H D I h
  exact wpAny_Return_some (thn (he pins s σ H _ I h) fun v s1 ⟨x, H1, I1, r1, q1⟩ => ⟨x, σ, H1, I1, r1, q1⟩)
def tIfS (c : TT) (t u : TS) : TS := fun D σ H => c σ H fun b H1 => if b = true then t D σ H1 else u D σ H1
theorem ps_if {c : Expr} {a b : List Stmt} {tc : TT} (hc : PT X c tc) (ha : PSs X a t) (hb : PSs X b u) : PS X (.If c a b pos) (tIfS tc t u) := by
  intro pins s σ H D I h
  refine wpAny_If (thn (hc pins s σ H _ I h) fun d s1 ⟨H1, I1, q1⟩ => ?_)
  cases d with
  | true => exact ha pins s1 σ H1 D I1 q1
  | false => exact hb pins s1 σ H1 D I1 q1
end

/-! ### targets -/
abbrev TG := V → St → Hp → (St → Hp → Prop) → Prop
abbrev TGs := List V → St → Hp → (St → Hp → Prop) → Prop
def PG (X : Cx) (target : Expr) (t : TG) : Prop :=
  ∀ (pins : List (Addr × Obj)) (s : Shared) (σ : St) (H : Hp) (v : V) (u : Value) (Q : St → Hp → Prop), Inv X pins σ H s → RelV v u → t v σ H Q →
    wpAny (model X.prog X.w) X.A (assign target X.env u) (fun _ s' => ∃ σ' H', Inv X pins σ' H' s' ∧ Q σ' H') X.xe s
/-- several targets, one after another -/
def PGs (X : Cx) (ts : List Expr) (t : TGs) : Prop :=
  ∀ (pins : List (Addr × Obj)) (s : Shared) (σ : St) (H : Hp) (vs : List V) (us : List Value) (Q : St → Hp → Prop), Inv X pins σ H s → Vals vs us → t vs σ H Q →
    wpAny (model X.prog X.w) X.A (assignInOrder ((assignEach ts X.env).map (·.2)) us) (fun _ s' => ∃ σ' H', Inv X pins σ' H' s' ∧ Q σ' H') X.xe s
/-- o[i] = v, by values -/
abbrev TSet := V → V → V → Hp → (Hp → Prop) → Prop
def PSet (X : Cx) (t : TSet) : Prop :=
  ∀ (pins : List (Addr × Obj)) (s : Shared) (σ : St) (H : Hp) (o i v : V) (ov iv u : Value) (Q : Hp → Prop), Inv X pins σ H s → RelV o ov → RelV i iv → RelV v u → t o i v H Q →
    wpAny (model X.prog X.w) X.A (setItem ov iv u) (fun _ s' => ∃ H', Inv X pins σ H' s' ∧ Q H') X.xe s
section
variable {X : Cx} {pos : Pos}
def gName (i : Nat) : TG := fun v σ H Q => Q (σ.set i (some v)) H
theorem pg_name {i : Nat} {x : Str} (hN : X.N.Nodup) (hi : X.N[i]? = some x) (hx : Loc X.env.scope x) (hf : X.fn x = true ∨ X.env.scope.names.lookup x = some .local := by first | exact .inl rfl | exact .inr rfl | assumption) : PG X (.Name x pos) (gName i) := by
  intro pins s σ H v u Q I r h
  exact wpAny_assign_Name (store_ok I hN hi hx r (fun s' I' => ⟨_, H, I', h⟩) hf)
def gNil : TGs := fun vs σ H Q => vs = [] ∧ Q σ H
def gCons (t : TG) (u : TGs) : TGs := fun vs σ H Q => ∃ v r, vs = v :: r ∧ t v σ H fun σ' H' => u r σ' H' Q
theorem pgs_nil : PGs X [] gNil := by
  intro pins s σ H vs us Q I r h
  obtain ⟨e, h⟩ := h
  subst e
  cases r
  exact assignInOrder_nil ⟨σ, H, I, h⟩
theorem pgs_cons {e : Expr} {es : List Expr} {t : TG} {u : TGs} (h1 : PG X e t) (h2 : PGs X es u)
    (hs : (assignEach (e :: es) X.env).map (·.2) = assign e X.env :: (assignEach es X.env).map (·.2) := by rfl) : PGs X (e :: es) (gCons t u) := by
  intro pins s σ H vs us Q I r h
  obtain ⟨v, vr, e1, h⟩ := h
  subst e1
  cases r with
  | cons r rr =>
    rw [hs]
    refine assignInOrder_cons (thn (h1 pins s σ H _ _ _ I r h) fun _ s1 ⟨σ1, H1, I1, q1⟩ => ?_)
    exact h2 pins s1 σ1 H1 _ _ Q I1 rr q1
/-- (a, b, ..) = a tuple of that length -/
def gTup (K : PySem.W.Frag) (n : Nat) (t : TGs) : TG := fun v σ H Q => ∃ a xs, v = .ref a ∧ SqT K H a xs ∧ xs.length = n ∧ t xs σ H Q
theorem pg_tup {es : List Expr} {k : Nat} {t : TGs} {n : Nat} (hc : X.calm = true) (h : PGs X es t)
    (hn : (assignEach es X.env).length = n := by rfl) (hst : (assignEach es X.env).findIdx? (·.1) = none := by rfl) : PG X (.Tuple es k pos) (gTup X.K n t) := by
  intro pins s σ H v u Q I r hw
  obtain ⟨a, xs, e1, hq, hl, hw⟩ := hw
  subst e1
  cases r
  obtain ⟨its, rv, ht, hz⟩ := I.tuple hq
  refine assign_Tuple_tuple (I.ok.hd hc) ht (by simp [hn, ← hl, rv.length]) hst fun h' hx => ?_
  have I1 : Inv X pins σ H { s with heap := h' } := I.kept (t' := s.toks) fun b o e => hx b o (Nat.ne_of_lt (Heap.lt_size e)) e
  exact h pins _ σ H xs _ Q I1 (by simpa using rv) hw
/-- target = value -/
def tAsg (te : TE) (g : TG) : TS := fun D σ H => te σ H fun x H1 => g x σ H1 D.nx
/-- name = value -/
theorem ps_set {i : Nat} {x : Str} {e : Expr} {te : TE} {pos' : Pos} (hN : X.N.Nodup) (hi : X.N[i]? = some x) (hx : Loc X.env.scope x) (he : PE X e te) (hs : swapsWith e (some (.Name x pos')) pos.line X.env = pure false := by rfl) (hf : X.fn x = true ∨ X.env.scope.names.lookup x = some .local := by first | exact .inl rfl | exact .inr rfl | assumption) :
    PS X (.Assign [.Name x pos'] e pos) (tAsg te (gName i)) := by
  intro pins s σ H D I h
  refine wpAny_Assign_Name (thn (he pins s σ H _ I h) fun v s1 ⟨y, H1, I1, r1, q1⟩ => ?_) hs
  exact store_ok I1 hN hi hx r1 (fun s2 I2 => ⟨_, H1, I2, q1⟩) hf
end

/-! ### while -/
section
variable {X : Cx} {pos : Pos}
/-- the invariant W with its measure -/
def tWhile (c : TT) (tb : TS) : TS := fun D σ H => ∃ W : Nat → St → Hp → Prop, (∃ m, W m σ H) ∧ ∀ m σ H, W m σ H →
  c σ H fun b H1 => if b = true then ∃ N : St → Hp → Prop, (∀ σ' H', N σ' H' → ∃ m', m' < m ∧ W m' σ' H') ∧ tb { D with nx := N, ct := N, bk := D.nx } σ H1 else D.nx σ H1
end

/-! ### what a loop or a comprehension walks -/
/-- at turn i: it yields x (the heap may grow), or it stops -/
structure It where
  go : Nat → Hp → Prop
  yld : Nat → Hp → V → Hp → Prop
  stop : Nat → Hp → Prop
/-- the iterator's own objects may turn: they are not the frame's, not pinned, younger than the entry (or a comprehension's own) -/
def FpOk (X : Cx) (pins : List (Addr × Obj)) (H : Hp) (b : Addr) : Prop :=
  H b = none ∧ b ≠ X.env.locals ∧ b ∉ X.fs ∧ (b ∈ X.ex ∨ X.s₀.heap.objs.size ≤ b) ∧ (∀ x c, X.env.cells.lookup x = some c → c ≠ b) ∧ ∀ p ∈ X.pn ++ pins, p.1 ≠ b
theorem Inv.fpOk {X : Cx} {pins : List (Addr × Obj)} {σ : St} {H H' : Hp} {s : Shared} {b : Addr} (I : Inv X pins σ H s) (hb : s.heap.objs.size ≤ b) (hn : H' b = none) : FpOk X pins H' b := by
  refine ⟨hn, Nat.ne_of_gt (Nat.lt_of_lt_of_le I.lt hb), I.nofs hb, .inr (Nat.le_trans I.sz hb), fun x c e z => ?_, fun p hp z => ?_⟩
  · obtain ⟨v, q⟩ := I.cell x c e
    exact absurd (Nat.lt_of_lt_of_le q.lt (by rw [z]; exact hb)) (Nat.lt_irrefl _)
  · exact absurd (Nat.lt_of_lt_of_le (Heap.lt_size (I.pin p hp).1) (by rw [z]; exact hb)) (Nat.lt_irrefl _)
structure Turn (P : Program) (w : World) (K : PySem.W.Frag) (tg : Expr) (J : It) (fp : List Addr) (it : Addr) (tn : Nat → Heap → Prop) : Prop where
  mem : it ∈ fp
  obj : ∀ i h, tn i h → ∀ b ∈ fp, ∃ o, h.get? b = some o ∧ ∀ v, o.data ≠ .cell v
  keep : ∀ i h h', tn i h → (∀ b ∈ fp, ∀ o, h.get? b = some o → h'.get? b = some o) → tn i h'
  item : ∀ (X : Cx), X.prog = P → X.w = w → X.K = K → X.calm = true → ∀ (i : Nat) (pins : List (Addr × Obj)) (s : Shared) (σ : St) (H : Hp) (E : Value → Shared → Prop), Inv X pins σ H s → (∀ b ∈ fp, FpOk X pins H b) → tn i s.heap → J.go i H →
    wpAny (model P w) X.A (pyNext (.ref it)) (fun r s1 => ∃ u, r = some u ∧
      wpAny (model P w) X.A (letOwnedTupleGo tg (.ref it) u) (fun _ s2 => ∃ x H', Inv X pins σ H' s2 ∧ RelV x u ∧ J.yld i H x H' ∧ tn (i + 1) s2.heap ∧ ∀ b ∈ fp, H' b = none) E s1) E s
  done : ∀ (X : Cx), X.prog = P → X.w = w → X.K = K → X.calm = true → ∀ (i : Nat) (pins : List (Addr × Obj)) (s : Shared) (σ : St) (H : Hp) (E : Value → Shared → Prop), Inv X pins σ H s → (∀ b ∈ fp, FpOk X pins H b) → tn i s.heap → J.stop i H →
    wpAny (model P w) X.A (pyNext (.ref it)) (fun r s1 => r = none ∧ Inv X pins σ H s1) E s
  self : ∀ (A : Around) (i : Nat) (s : Shared) (Q : Value → Shared → Prop) (E : Value → Shared → Prop), tn i s.heap → Q (.ref it) s → wpAny (model P w) A (pyIter (.ref it)) Q E s
abbrev TI := St → Hp → (It → Hp → Prop) → Prop
/-- an iterator has come -/
def PIE (X : Cx) (pins : List (Addr × Obj)) (σ : St) (tg : Expr) (R : It → Hp → Prop) (itv : Value) (s2 : Shared) : Prop :=
  ∃ (it : Addr) (fp : List Addr) (tn : Nat → Heap → Prop) (J : It) (H' : Hp), itv = .ref it ∧ Inv X pins σ H' s2 ∧ Turn X.prog X.w X.K tg J fp it tn ∧ tn 0 s2.heap ∧ (∀ b ∈ fp, FpOk X pins H' b) ∧ R J H'
def PI (X : Cx) (tg iter : Expr) (wi : TI) : Prop :=
  ∀ (pins : List (Addr × Obj)) (s : Shared) (σ : St) (H : Hp) (R : It → Hp → Prop), Inv X pins σ H s → wi σ H R →
    wpAny (model X.prog X.w) X.A (eval iter X.env) (fun v s1 => wpAny (model X.prog X.w) X.A (pyIter v) (PIE X pins σ tg R) X.xe s1) X.xe s

/-- the step ahead of the store is nothing for an iterator that keeps no tuple -/
theorem go_of {M : Model} {A : Around} {E : Value → Shared → Prop} {s : Shared} {tg : Expr} {it : Addr} {u : Value} {o : Obj} {n : String} {vs : Array Value} {Q : Unit → Shared → Prop} (ho : s.heap.get? it = some o) (hc : o.cls = .type n) (hd : o.data = .fields vs)
    (hn : ["enumerate", "zip", "dict_itemiterator", "dict_reverseitemiterator", "odict_iterator", "itertools.zip_longest", "itertools.pairwise"].contains n = false) (hQ : Q () s) : wpAny M A (letOwnedTupleGo tg (.ref it) u) Q E s := by
  unfold letOwnedTupleGo
  cases tg <;> first
    | exact wpAny_pure hQ
    | (cases u <;> first
        | exact wpAny_pure hQ
        | (refine wpAny_bind (wpAny_load ho ?_)
           rw [hc, hd]
           show wpAny M A (if (["enumerate", "zip", "dict_itemiterator", "dict_reverseitemiterator", "odict_iterator", "itertools.zip_longest", "itertools.pairwise"].contains n && vs[0]? == some (rawInt _)) = true then _ else _) Q E s
           rw [if_neg (by intro h; rw [hn, Bool.false_and] at h; cases h)]
           exact wpAny_pure hQ))

/-- the list at a, as it stands at each turn (a loop may append to it) -/
def Itl (K : PySem.W.Frag) (a : Addr) : It :=
  ⟨fun i H => ∃ xs x, SqL K H a xs ∧ xs[i]? = some x, fun i H x H' => H' = H ∧ ∀ xs, SqL K H a xs → xs[i]? = some x, fun i H => ∃ xs, SqL K H a xs ∧ xs.length ≤ i⟩
/-- lo, lo + 1, .. (n of them) -/
def Itr (lo : Int) (n : Nat) : It := ⟨fun i _ => i < n, fun i H x H' => H' = H ∧ x = .int (lo + i), fun i _ => n ≤ i⟩
theorem turn_list {P : Program} {w : World} {K : PySem.W.Frag} {tg : Expr} (a it : Addr) : Turn P w K tg (Itl K a) [it] it (fun i h => h.IsListIter it a i) where
  mem := by simp
  obj := fun i h st b hb => by
    have e : b = it := by simpa using hb
    subst e
    obtain ⟨o, e, c, d⟩ := st
    exact ⟨o, e, fun v z => by rw [d] at z; cases z⟩
  keep := fun i h h' st k => st.at fun o e => k it (by simp) o e
  item := by
    intro X hP hw hK hc i pins s σ H E I hf st hg
    subst hP hw hK
    obtain ⟨xs, x, hq, hx⟩ := hg
    obtain ⟨its, rv, p, hz⟩ := I.list hq
    obtain ⟨u, hu, ru⟩ := rv.get hx
    obtain ⟨f0, f1, f2, f3, f4, f5⟩ := hf it (by simp)
    refine wpAny_pyNext_list_item st p.isList (x := u) (by simpa using hu) fun h' st' sb => ?_
    have I1 : Inv X pins σ H { s with heap := h' } := I.turned (t' := s.toks) (fun b o hb e => (sb.2 b hb).trans e) f0 f1 f3 f4 f5
    obtain ⟨o, e, c, d⟩ := id st'
    exact ⟨u, rfl, go_of (s := { s with heap := h' }) e c d (by decide) ⟨x, H, I1, ru, ⟨rfl, fun ys hy => by rw [I.list_inj hy hq]; exact hx⟩, st', fun b hb => (hf b hb).1⟩⟩
  done := by
    intro X hP hw hK hc i pins s σ H E I hf st hg
    subst hP hw hK
    obtain ⟨xs, hq, hx⟩ := hg
    obtain ⟨its, rv, p, hz⟩ := I.list hq
    obtain ⟨f0, f1, f2, f3, f4, f5⟩ := hf it (by simp)
    have hl := rv.length
    exact wpAny_pyNext_list_end (I.ok.hd hc) st p.isList (by simp; omega) fun h' eb => ⟨rfl, I.turned (t' := s.toks) (fun b o hb e => eb b o hb e) f0 f1 f3 f4 f5⟩
  self := fun _ _ _ _ _ st h => wpAny_pyIter_listiter st h
theorem turn_range {P : Program} {w : World} {K : PySem.W.Frag} {tg : Expr} (it : Addr) (lo : Int) (n : Nat) : Turn P w K tg (Itr lo n) [it] it (fun i h => IsRangeIter h it (lo + (i : Nat) * 1) ((n : Int) - (i : Nat)) 1) where
  mem := by simp
  obj := fun i h st b hb => by
    have e : b = it := by simpa using hb
    subst e
    exact ⟨_, st, fun v z => by
      have z' : Data.fields _ = Data.cell v := z
      cases z'⟩
  keep := fun i h h' st k => k it (by simp) _ st
  item := by
    intro X hP hw hK hc i pins s σ H E I hf st hg
    subst hP hw hK
    obtain ⟨f0, f1, f2, f3, f4, f5⟩ := hf it (by simp)
    have W := Walks.range (prog := X.prog) (w := X.w) (I.ok.hd hc) it lo 1 n
    refine W.item i s _ _ hg st fun v h' tk hv st' kk => ?_
    obtain ⟨t, rfl⟩ := hv
    have I1 : Inv X pins σ H { s with heap := h', toks := tk } := I.turned (fun b o hb e => kk b o (by simpa using hb) e) f0 f1 f3 f4 f5
    refine ⟨_, rfl, go_of (s := { s with heap := h', toks := tk }) (n := "range_iterator") st' rfl rfl (by decide) ⟨.int (lo + i), H, I1, ⟨t, ?_⟩, ⟨rfl, rfl⟩, st', fun b hb => (hf b hb).1⟩⟩
    rw [Int.mul_one]
  done := by
    intro X hP hw hK hc i pins s σ H E I hf st hg
    subst hP hw hK
    obtain ⟨f0, f1, f2, f3, f4, f5⟩ := hf it (by simp)
    exact wpAny_pyNext_range_end (I.ok.hd hc) st (by have : n ≤ i := hg; omega) fun h' eb => ⟨rfl, I.turned (t' := s.toks) (fun b o hb e => eb b o hb e) f0 f1 f3 f4 f5⟩
  self := fun _ _ _ _ _ st h => wpAny_pyIter_rangeiter st h
end L2

namespace L2
open PySem PySem.Spec PyProof.Rows
section
variable {X : Cx} {tg : Expr}
def iList (K : PySem.W.Frag) (tl : TE) : TI := fun σ H R => tl σ H fun x H1 => ∃ a, x = .ref a ∧ (∃ xs, SqL K H1 a xs) ∧ R (Itl K a) H1
theorem pi_list {l : Expr} {tl : TE} (hl : PE X l tl) : PI X tg l (iList X.K tl) := by
  intro pins s σ H R I h
  refine thn (hl pins s σ H _ I h) fun v s1 ⟨x, H1, I1, r1, q1⟩ => ?_
  obtain ⟨a, e, ⟨xs, hq⟩, q⟩ := q1
  subst e
  cases r1
  obtain ⟨its, rv, p, hz⟩ := I1.list hq
  refine wpAny_pyIter_list p.isList ?_
  refine ⟨s1.heap.objs.size, [s1.heap.objs.size], _, _, H1, rfl, I1.kept (t' := s1.toks) fun b o e => Heap.get?_push_of_some _ e, turn_list a _, ⟨_, Heap.get?_push_size _ rfl, rfl, rfl⟩, fun b hb => ?_, q⟩
  have e : b = s1.heap.objs.size := by simpa using hb
  subst e
  exact I1.fpOk (Nat.le_refl _) (I1.hok.fresh (Nat.le_refl _))
/-- a range object just made, walked -/
theorem range_it {pins : List (Addr × Obj)} {σ : St} {H : Hp} {s : Shared} {R : It → Hp → Prop} {E : Value → Shared → Prop} {lo hi : Int} {t u v : Tok} {tk : Nat} (I : Inv X pins σ H s) (h1 : -(2 ^ 62) ≤ lo) (h2 : lo < 2 ^ 62) (h3 : -(2 ^ 62) ≤ hi) (h4 : hi < 2 ^ 62)
    (q : R (Itr lo (hi - lo).toNat) H) : wpAny (model X.prog X.w) X.A (pyIter (.ref s.heap.objs.size)) (PIE X pins σ tg R) E { s with heap := s.heap.push { cls := .type "range", data := .fields #[.int lo t, .int hi u, .int 1 v] }, toks := tk } := by
  refine wpAny_pyIter_range (IsRange.new ..) (small_one h1 h2 h3 h4) ?_
  have I1 : Inv X pins σ H { s with heap := s.heap.push { cls := .type "range", data := .fields #[.int lo t, .int hi u, .int 1 v] }, toks := tk } := I.kept fun b o e => Heap.get?_push_of_some _ e
  refine ⟨(s.heap.push { cls := .type "range", data := .fields #[.int lo t, .int hi u, .int 1 v] }).objs.size, [(s.heap.push { cls := .type "range", data := .fields #[.int lo t, .int hi u, .int 1 v] }).objs.size], _, _, H, rfl,
    I1.kept (t' := tk) fun b o e => Heap.get?_push_of_some _ e, turn_range _ lo (hi - lo).toNat, ?_, fun b hb => ?_, q⟩
  · have e1 : lo + ((0 : Nat) : Int) * 1 = lo := by simp
    have e2 : (((hi - lo).toNat : Nat) : Int) - ((0 : Nat) : Int) = Builtin.Range.rangeSize lo hi 1 := by rw [rangeSize_one]; split <;> omega
    show IsRangeIter _ _ (lo + ((0 : Nat) : Int) * 1) ((((hi - lo).toNat : Nat) : Int) - ((0 : Nat) : Int)) 1
    rw [e1, e2]
    exact Heap.get?_push_size _ rfl
  · have e : b = (s.heap.push { cls := .type "range", data := .fields #[.int lo t, .int hi u, .int 1 v] }).objs.size := by simpa using hb
    subst e
    exact I1.fpOk (Nat.le_refl _) (I1.hok.fresh (Nat.le_refl _))
def iRng1 (ta : TA) : TI := fun σ H R => ta σ H fun vs H1 => ∃ j : Int, vs = [.int j] ∧ -(2 ^ 62) ≤ j ∧ j < 2 ^ 62 ∧ R (Itr 0 j.toNat) H1
theorem pi_range1 {a : Expr} {ta : TA} {p pos : Pos} (hg : Gl X "range") (hm : X.mg "range" = none) (ha : PA X [a] ta) (hs : starEach [a] X.env = [(false, eval a X.env)] := by rfl) : PI X tg (.Call (.Name "range" p) [a] [] pos) (iRng1 ta) := by
  intro pins s σ H R I h
  refine Call_ (ld_blt I hg hm boot_range (PyProof.Rows.callWith_type1 (thn (ha pos pins s σ H _ I h) fun us s1 ⟨vs, H1, I1, r1, q1⟩ => ?_) hs rfl))
  obtain ⟨j, e, q1, q2, q⟩ := q1
  subst e
  cases r1 with
  | cons r rr =>
    cases rr
    obtain ⟨t, rfl⟩ := r
    exact call_range_1 (range_it I1 (by omega) (by omega) q1 q2 (by simpa using q))
/-! ### for -/
/-- W: the invariant by the turn and a measure; N: what the body is to reach -/
def tFor (wi : TI) (g : TG) (tb : TS) : TS := fun D σ H => wi σ H fun J H1 => ∃ W : Nat → Nat → St → Hp → Prop, (∃ m, W 0 m σ H1) ∧ ∀ i m σ H, W i m σ H →
  (J.stop i H ∧ D.nx σ H) ∨ (J.go i H ∧ ∃ N : St → Hp → Prop, (∀ σ' H', N σ' H' → ∃ m', m' < m ∧ W (i + 1) m' σ' H') ∧ ∀ x H', J.yld i H x H' → g x σ H' fun σ2 H2 => tb { D with nx := N, ct := N, bk := D.nx } σ2 H2)
/-- the records at fp as they stand -/
def pinsAt (fp : List Addr) (h : Heap) : List (Addr × Obj) := fp.filterMap fun b => (h.get? b).map fun o => (b, o)
theorem mem_pinsAt {fp : List Addr} {h : Heap} {b : Addr} {o : Obj} (hb : b ∈ fp) (e : h.get? b = some o) : (b, o) ∈ pinsAt fp h := List.mem_filterMap.mpr ⟨b, hb, by rw [e]; rfl⟩
theorem of_pinsAt {fp : List Addr} {h : Heap} {p : Addr × Obj} (hp : p ∈ pinsAt fp h) : p.1 ∈ fp ∧ h.get? p.1 = some p.2 := by
  obtain ⟨b, hb, e⟩ := List.mem_filterMap.mp hp
  cases q : h.get? b with
  | none => rw [q] at e; cases e
  | some o =>
    rw [q] at e
    have e' : (b, o) = p := Option.some.inj e
    subst e'
    exact ⟨hb, q⟩
theorem Inv.pinned {pins : List (Addr × Obj)} {σ : St} {H : Hp} {s : Shared} {fp : List Addr} (I : Inv X pins σ H s) (hf : ∀ b ∈ fp, FpOk X pins H b) (ho : ∀ b ∈ fp, ∃ o, s.heap.get? b = some o ∧ ∀ v, o.data ≠ .cell v) : Inv X (pins ++ pinsAt fp s.heap) σ H s :=
  I.pins_of fun p hp => (List.mem_append.mp hp).elim (fun z => I.pin p (List.mem_append_right _ z)) fun z => by
    obtain ⟨hb, e⟩ := of_pinsAt z
    obtain ⟨f0, f1, f2, _⟩ := hf p.1 hb
    obtain ⟨o, e', d⟩ := ho p.1 hb
    rw [e] at e'; cases e'
    exact ⟨e, f0, f1, f2, d⟩
theorem Inv.unpinned {pins pl : List (Addr × Obj)} {σ : St} {H : Hp} {s : Shared} (I : Inv X (pins ++ pl) σ H s) : Inv X pins σ H s := I.pins_of fun p hp => I.pin p (List.mem_append_right _ (List.mem_append_left _ hp))
theorem ps_for {iter : Expr} {body : List Stmt} {wi : TI} {g : TG} {tb : TS} {pos : Pos} (hp : PassesOwn (model X.prog X.w) X.A X.env X.xe) (hc : X.calm = true) (hi : PI X tg iter wi) (hg : PG X tg g) (hb : PSs X body tb)
    (hs : ∀ x, foldedSetIterable iter X.env x = pure x := by intro _; rfl) : PS X (.For tg iter body [] pos) (tFor wi g tb) := by
  intro pins s σ H D I h
  refine wpAny_For (thn (hi pins s σ H _ I h) fun v s1 h1 => thn h1 fun itv s2 h2 => ?_) hs
  obtain ⟨it, fp, tn, J, H2, e, I2, T, st2, f2, W, ⟨m0, w0⟩, turn⟩ := h2
  subst e
  -- what stays true of the iterator's objects through the loop
  have stat : ∀ {H' : Hp}, (∀ b ∈ fp, H' b = none) → ∀ b ∈ fp, FpOk X pins H' b := fun hn b hb => ⟨hn b hb, (f2 b hb).2⟩
  refine codeAny_forLoop_any (fun n s' => ∃ i σ' H', Inv X pins σ' H' s' ∧ tn i s'.heap ∧ (∀ b ∈ fp, H' b = none) ∧ W i n σ' H') ?_ m0 ⟨0, σ, H2, I2, st2, fun b hb => (f2 b hb).1, w0⟩
  rintro n s3 ⟨i, σ3, H3, I3, st3, fr3, w3⟩
  rcases turn i n σ3 H3 w3 with ⟨stop, qn⟩ | ⟨go, N, hN, step⟩
  · refine wpAny_passesOwn hp (thn (T.done X rfl rfl rfl hc i pins s3 σ3 H3 X.xe I3 (stat fr3) st3 stop) fun r s4 ⟨hr, I4⟩ => ?_)
    subst hr
    exact wpAny_execs_nil ⟨σ3, H3, I4, qn⟩
  · refine wpAny_passesOwn hp (thn (T.item X rfl rfl rfl hc i pins s3 σ3 H3 X.xe I3 (stat fr3) st3 go) fun r s4 ⟨u, hr, h4⟩ => ?_)
    subst hr
    refine wpAny_passesOwn hp (thn h4 fun _ s5 ⟨x, H5, I5, r5, y5, st5, fr5⟩ => ?_)
    have I5' := I5.pinned (stat fr5) (T.obj _ _ st5)
    refine wpAny_passesOwn hp (thn (hg _ s5 σ3 H5 x u _ I5' r5 (step x H5 y5)) fun _ s6 ⟨σ6, H6, I6, q6⟩ => ?_)
    refine wpAny_passesOwn hp (thn (hb _ s6 σ6 H6 _ I6 q6) fun f s7 q7 => ?_)
    have again : ∀ {σ7 : St} {H7 : Hp}, Inv X (pins ++ pinsAt fp s5.heap) σ7 H7 s7 → N σ7 H7 → ∃ m, m < n ∧ ∃ i σ' H', Inv X pins σ' H' s7 ∧ tn i s7.heap ∧ (∀ b ∈ fp, H' b = none) ∧ W i m σ' H' := fun {σ7 H7} I7 n7 => by
      obtain ⟨m', hm, w7⟩ := hN σ7 H7 n7
      refine ⟨m', hm, i + 1, σ7, H7, I7.unpinned, T.keep _ _ _ st5 fun b hb o e => (I7.pin (b, o) (List.mem_append_right _ (List.mem_append_right _ (mem_pinsAt hb e)))).1, fun b hb => ?_, w7⟩
      obtain ⟨o, e, d⟩ := T.obj _ _ st5 b hb
      exact (I7.pin (b, o) (List.mem_append_right _ (List.mem_append_right _ (mem_pinsAt hb e)))).2.1
    cases f with
    | next => obtain ⟨σ7, H7, I7, n7⟩ := q7; exact again I7 n7
    | cont => obtain ⟨σ7, H7, I7, n7⟩ := q7; exact again I7 n7
    | brk => obtain ⟨σ7, H7, I7, q7⟩ := q7; exact ⟨σ7, H7, I7.unpinned, q7⟩
    | ret v => obtain ⟨x7, σ7, H7, I7, r7, q7⟩ := q7; exact ⟨x7, σ7, H7, I7.unpinned, r7, q7⟩
end

/-! ### the forms one uses -/
/-- over a list that the body leaves as it is -/
theorem for_list {K : PySem.W.Frag} {a : Addr} {xs : List V} {g : TG} {tb : TS} {D : Ends} {σ : St} {H : Hp} (Pv : Nat → St → Hp → Prop) (h0 : Pv 0 σ H) (hl : ∀ i σ H, i ≤ xs.length → Pv i σ H → SqL K H a xs)
    (hs : ∀ i x σ H, xs[i]? = some x → Pv i σ H → g x σ H fun σ2 H2 => tb { D with nx := Pv (i + 1), ct := Pv (i + 1), bk := D.nx } σ2 H2) (hd : ∀ σ H, Pv xs.length σ H → D.nx σ H) :
    ∃ W : Nat → Nat → St → Hp → Prop, (∃ m, W 0 m σ H) ∧ ∀ i m σ H, W i m σ H →
      ((Itl K a).stop i H ∧ D.nx σ H) ∨ ((Itl K a).go i H ∧ ∃ N : St → Hp → Prop, (∀ σ' H', N σ' H' → ∃ m', m' < m ∧ W (i + 1) m' σ' H') ∧ ∀ x H', (Itl K a).yld i H x H' → g x σ H' fun σ2 H2 => tb { D with nx := N, ct := N, bk := D.nx } σ2 H2) := by
  refine ⟨fun i m σ H => m = xs.length - i ∧ i ≤ xs.length ∧ Pv i σ H, ⟨xs.length, by simp, Nat.zero_le _, h0⟩, ?_⟩
  rintro i m σ H ⟨rfl, hi, p⟩
  have q := hl i σ H hi p
  by_cases hlt : i < xs.length
  · refine .inr ⟨⟨xs, xs[i], q, by simp [hlt]⟩, Pv (i + 1), fun σ' H' p' => ⟨xs.length - (i + 1), by omega, rfl, hlt, p'⟩, fun x H' y => ?_⟩
    obtain ⟨e, y⟩ := y
    subst e
    exact hs i x σ _ (y xs q) p
  · have e : i = xs.length := by omega
    subst e
    exact .inl ⟨⟨xs, q, Nat.le_refl _⟩, hd σ H p⟩
theorem for_range {lo : Int} {n : Nat} {g : TG} {tb : TS} {D : Ends} {σ : St} {H : Hp} (Pv : Nat → St → Hp → Prop) (h0 : Pv 0 σ H)
    (hs : ∀ i σ H, i < n → Pv i σ H → g (.int (lo + i)) σ H fun σ2 H2 => tb { D with nx := Pv (i + 1), ct := Pv (i + 1), bk := D.nx } σ2 H2) (hd : ∀ σ H, Pv n σ H → D.nx σ H) :
    ∃ W : Nat → Nat → St → Hp → Prop, (∃ m, W 0 m σ H) ∧ ∀ i m σ H, W i m σ H →
      ((Itr lo n).stop i H ∧ D.nx σ H) ∨ ((Itr lo n).go i H ∧ ∃ N : St → Hp → Prop, (∀ σ' H', N σ' H' → ∃ m', m' < m ∧ W (i + 1) m' σ' H') ∧ ∀ x H', (Itr lo n).yld i H x H' → g x σ H' fun σ2 H2 => tb { D with nx := N, ct := N, bk := D.nx } σ2 H2) := by
  refine ⟨fun i m σ H => m = n - i ∧ i ≤ n ∧ Pv i σ H, ⟨n, by simp, Nat.zero_le _, h0⟩, ?_⟩
  rintro i m σ H ⟨rfl, hi, p⟩
  by_cases hlt : i < n
  · refine .inr ⟨hlt, Pv (i + 1), fun σ' H' p' => ⟨n - (i + 1), by omega, rfl, hlt, p'⟩, fun x H' y => ?_⟩
    obtain ⟨e, y⟩ := y
    subst e y
    exact hs i σ _ hlt p
  · have e : i = n := by omega
    subst e
    exact .inl ⟨Nat.le_refl _, hd σ H p⟩
end L2

namespace L2
open PySem PySem.Spec PyProof.Rows

abbrev R2 := V → V → Hp → VK → Prop
/-- a two-place operation on values: f is binaryOp op, inplaceOp op or compareOp op -/
def OpR (X : Cx) (f : Value → Value → Sem Value) (r : R2) : Prop :=
  ∀ (pins : List (Addr × Obj)) (s : Shared) (σ : St) (H : Hp) (x y : V) (v u : Value) (Q : VK), Inv X pins σ H s → RelV x v → RelV y u → r x y H Q →
    wpAny (model X.prog X.w) X.A (f v u) (EP X pins σ Q) X.xe s
/-- a one-place operation -/
def UnR (X : Cx) (f : Value → Sem Value) (r : V → Hp → VK → Prop) : Prop :=
  ∀ (pins : List (Addr × Obj)) (s : Shared) (σ : St) (H : Hp) (x : V) (v : Value) (Q : VK), Inv X pins σ H s → RelV x v → r x H Q →
    wpAny (model X.prog X.w) X.A (f v) (EP X pins σ Q) X.xe s
/-- a call of a value that is known (a builtin, a type) with values -/
def CallR (X : Cx) (f : Value) (r : List V → Hp → VK → Prop) : Prop :=
  ∀ (pins : List (Addr × Obj)) (s : Shared) (σ : St) (H : Hp) (xs : List V) (us : List Value) (Q : VK), Inv X pins σ H s → Vals xs us → r xs H Q →
    wpAny (model X.prog X.w) X.A (call f us) (EP X pins σ Q) X.xe s
/-- a value's truth -/
def TruR (X : Cx) (r : V → Hp → (Bool → Hp → Prop) → Prop) : Prop :=
  ∀ (pins : List (Addr × Obj)) (s : Shared) (σ : St) (H : Hp) (x : V) (v : Value) (Q : Bool → Hp → Prop), Inv X pins σ H s → RelV x v → r x H Q →
    wpAny (model X.prog X.w) X.A (truthy v) (TP X pins σ Q) X.xe s

def tOp (r : R2) (ta tb : TE) : TE := fun σ H Q => ta σ H fun x H1 => tb σ H1 fun y H2 => r x y H2 Q
def tUn (r : V → Hp → VK → Prop) (ta : TE) : TE := fun σ H Q => ta σ H fun x H1 => r x H1 Q
/-- ints in, under C, and a value out -/
def rI (C : Int → Int → Prop) (g : Int → Int → V) : R2 := fun x y H Q => ∃ i j, x = .int i ∧ y = .int j ∧ C i j ∧ Q (g i j) H
def rI0 (g : Int → Int → V) : R2 := fun x y H Q => ∃ i j, x = .int i ∧ y = .int j ∧ Q (g i j) H
def rU (g : Int → V) : V → Hp → VK → Prop := fun x H Q => ∃ i, x = .int i ∧ Q (g i) H

section
variable {X : Cx} {a b c : Expr} {ta tb tc : TE} {pos : Pos}

theorem binT (ha : PE X a ta) (hb : PE X b tb) {pins : List (Addr × Obj)} {s : Shared} {σ : St} {H : Hp} {R : V → V → Hp → Prop} (I : Inv X pins σ H s)
    (h : ta σ H fun x H1 => tb σ H1 fun y H2 => R x y H2) {Q : Value → Shared → Prop} {f : Value → Value → Sem Value}
    (hf : ∀ v u s2 x y H2, Inv X pins σ H2 s2 → RelV x v → RelV y u → R x y H2 → wpAny (model X.prog X.w) X.A (f v u) Q X.xe s2) :
    wpAny (model X.prog X.w) X.A (eval a X.env) (fun v s₁ => wpAny (model X.prog X.w) X.A (eval b X.env) (fun u s₂ => wpAny (model X.prog X.w) X.A (f v u) Q X.xe s₂) X.xe s₁) X.xe s := by
  refine thn (ha pins s σ H _ I h) fun v s1 ⟨x, H1, I1, r1, q1⟩ => ?_
  refine thn (hb pins s1 σ H1 _ I1 q1) fun u s2 ⟨y, H2, I2, r2, q2⟩ => ?_
  exact hf v u s2 x y H2 I2 r1 r2 q2

theorem pe_op {op : Operator} {r : R2} (ho : OpR X (binaryOp op) r) (ha : PE X a ta) (hb : PE X b tb) : PE X (.BinOp a op b pos) (tOp r ta tb) := by
  intro pins s σ H Q I h
  exact wpAny_BinOp (binT ha hb I h fun v u s2 x y H2 I2 rx ry q => ho pins s2 σ H2 x y v u Q I2 rx ry q)
theorem pe_un {op : UnaryOp} {r : V → Hp → VK → Prop} (ho : UnR X (unaryOp op) r) (ha : PE X a ta) : PE X (.UnaryOp op a pos) (tUn r ta) := by
  intro pins s σ H Q I h
  exact UnaryOp_ (thn (ha pins s σ H _ I h) fun v s1 ⟨x, H1, I1, r1, q1⟩ => ho pins s1 σ H1 x v Q I1 r1 q1)
/-! ### ints -/
theorem opI {f : Value → Value → Sem Value} {C : Int → Int → Prop} {g : Int → Int → Int}
    (rule : ∀ (i j : Int) (t u : Tok) (s : Shared) (Q : Value → Shared → Prop) (E : Value → Shared → Prop), C i j → Q (.int (g i j) s.toks) { s with toks := s.toks + 1 } → wpAny (model X.prog X.w) X.A (f (.int i t) (.int j u)) Q E s) :
    OpR X f (rI C fun i j => .int (g i j)) := by
  intro pins s σ H x y v u Q I rx ry h
  obtain ⟨i, j, rfl, rfl, hc, q⟩ := h
  obtain ⟨t, rfl⟩ := rx
  obtain ⟨t', rfl⟩ := ry
  exact rule i j t t' s _ _ hc ⟨.int (g i j), H, I.tok _, ⟨_, rfl⟩, q⟩
theorem opI0 {f : Value → Value → Sem Value} {g : Int → Int → Int}
    (rule : ∀ (i j : Int) (t u : Tok) (s : Shared) (Q : Value → Shared → Prop) (E : Value → Shared → Prop), Q (.int (g i j) s.toks) { s with toks := s.toks + 1 } → wpAny (model X.prog X.w) X.A (f (.int i t) (.int j u)) Q E s) :
    OpR X f (rI0 fun i j => .int (g i j)) := by
  intro pins s σ H x y v u Q I rx ry h
  obtain ⟨i, j, rfl, rfl, q⟩ := h
  obtain ⟨t, rfl⟩ := rx
  obtain ⟨t', rfl⟩ := ry
  exact rule i j t t' s _ _ ⟨.int (g i j), H, I.tok _, ⟨_, rfl⟩, q⟩
theorem opB0 {f : Value → Value → Sem Value} {g : Int → Int → Bool}
    (rule : ∀ (i j : Int) (t u : Tok) (s : Shared) (Q : Value → Shared → Prop) (E : Value → Shared → Prop), Q (.bool (g i j)) s → wpAny (model X.prog X.w) X.A (f (.int i t) (.int j u)) Q E s) :
    OpR X f (rI0 fun i j => .bl (g i j)) := by
  intro pins s σ H x y v u Q I rx ry h
  obtain ⟨i, j, rfl, rfl, q⟩ := h
  obtain ⟨t, rfl⟩ := rx
  obtain ⟨t', rfl⟩ := ry
  exact rule i j t t' s _ _ ⟨.bl (g i j), H, I, rfl, q⟩

def CDiv (i j : Int) : Prop := 0 < j ∧ j < 1073741824
def CPow (i j : Int) : Prop := 0 ≤ j ∧ j ≤ 1000000 ∧ i.natAbs < 2 ^ 64
def CMul (i j : Int) : Prop := (-(2 ^ 64) < i ∧ i < 2 ^ 64) ∨ (-(2 ^ 64) < j ∧ j < 2 ^ 64)
theorem CMul.ok {i j : Int} (h : CMul i j) : IntMulOk i j := by
  rcases h with ⟨h1, h2⟩ | ⟨h1, h2⟩
  · exact .of_left (intBits_le_64 h1 h2)
  · exact .of_right (intBits_le_64 h1 h2)
theorem op_add : OpR X (binaryOp .Add) (rI0 fun i j => .int (i + j)) := opI0 fun _ _ _ _ _ _ _ q => add_int q
theorem op_sub : OpR X (binaryOp .Sub) (rI0 fun i j => .int (i - j)) := opI0 fun _ _ _ _ _ _ _ q => sub_int q
/-- // by a positive divisor -/
theorem op_fdiv : OpR X (binaryOp .FloorDiv) (rI CDiv fun i j => .int (i / j)) := opI fun i j _ _ _ _ _ hc q => by
  have h1 : (0 : Int) < j := hc.1
  have h2 : j < 1073741824 := hc.2
  exact floordiv_int (by omega) (by rw [Int.fdiv_eq_ediv_of_nonneg i (by omega)]; exact q) (.inl (PyProof.noPylong_small (by omega)))
/-- % by a positive divisor of any size -/
theorem op_mod : OpR X (binaryOp .Mod) (rI (fun _ j => 0 < j) fun i j => .int (i % j)) := opI fun i j _ _ _ _ _ hc q => by
  have h1 : (0 : Int) < j := hc
  exact mod_int' (by omega) (by rw [Int.fmod_eq_emod_of_nonneg i (by omega)]; exact q)
theorem op_pow : OpR X (binaryOp .Pow) (rI CPow fun i j => .int (i ^ j.toNat)) := opI fun _ _ _ _ _ _ _ hc q => pow_int_small hc.1 hc.2.1 hc.2.2 q
theorem unI {f : Value → Sem Value} {g : Int → Int}
    (rule : ∀ (i : Int) (t : Tok) (s : Shared) (Q : Value → Shared → Prop) (E : Value → Shared → Prop), Q (.int (g i) s.toks) { s with toks := s.toks + 1 } → wpAny (model X.prog X.w) X.A (f (.int i t)) Q E s) :
    UnR X f (rU fun i => .int (g i)) := by
  intro pins s σ H x v Q I rx h
  obtain ⟨i, rfl, q⟩ := h
  obtain ⟨t, rfl⟩ := rx
  exact rule i t s _ _ ⟨.int (g i), H, I.tok _, ⟨_, rfl⟩, q⟩
theorem un_neg : UnR X (unaryOp .USub) (rU fun i => .int (-i)) := unI fun _ _ _ _ _ q => neg_int q
/-! ### bools among ints: n += (a < b) -/
end

/-! ### comparisons -/
/-- the scalars that == tells apart as data does -/
def scal : V → V → Bool
  | .non, .non => true | .non, .int _ => true | .int _, .non => true | .non, .bl _ => true | .bl _, .non => true | .non, .str _ => true | .str _, .non => true
  | .int _, .int _ => true | .bl _, .bl _ => true | .str _, .str _ => true | .byt _, .byt _ => true
  | .int _, .str _ => true | .str _, .int _ => true | .bl _, .str _ => true | .str _, .bl _ => true
  | _, _ => false
def rEq : R2 := fun x y H Q => scal x y = true ∧ Q (.bl (decide (x = y))) H
theorem dec_int {i j : Int} : decide (V.int i = V.int j) = (i == j) := by
  rw [Bool.eq_iff_iff]
  simp
theorem dec_bl {i j : Bool} : decide (V.bl i = V.bl j) = (i == j) := by
  rw [Bool.eq_iff_iff]
  simp
theorem dec_str {i j : Str} : decide (V.str i = V.str j) = (i == j) := by
  rw [Bool.eq_iff_iff]
  simp
theorem dec_byt {i j : Array UInt8} : decide (V.byt i = V.byt j) = (i.toList == j.toList) := by
  rw [Bool.eq_iff_iff]
  cases i
  cases j
  simp

section
variable {X : Cx} {a b c : Expr} {ta tb tc : TE} {pos : Pos}
theorem fin_bl {pins : List (Addr × Obj)} {σ : St} {H : Hp} {s : Shared} {Q : VK} {k k' : Bool} (I : Inv X pins σ H s) (q : Q (.bl k) H) (e : k = k') : EP X pins σ Q (.bool k') s := by
  subst e
  exact ⟨.bl k, H, I, rfl, q⟩
theorem op_eq : OpR X (compareOp .Eq) rEq := by
  intro pins s σ H x y v u Q I rx ry h
  obtain ⟨hs, q⟩ := h
  cases x with
  | non =>
    cases rx
    cases y with
    | non => cases ry; exact PySem.EqNone.eq_none_none (fin_bl I q (by simp))
    | bl j => cases ry; exact PySem.EqNone.eq_none_bool (fin_bl I q (by simp))
    | int j => obtain ⟨t', rfl⟩ := ry; exact PySem.EqNone.eq_none_int (fin_bl I q (by simp))
    | str j => obtain ⟨t', rfl⟩ := ry; exact PySem.EqNone.eq_none_str (fin_bl I q (by simp))
    | _ => exact absurd (show false = true from hs) Bool.false_ne_true
  | bl i =>
    cases rx
    cases y with
    | non => cases ry; exact PySem.EqNone.eq_bool_none (fin_bl I q (by simp))
    | bl j => cases ry; exact eq_bool (fin_bl I q dec_bl)
    | str j => obtain ⟨t', rfl⟩ := ry; exact PySem.EqMixed.eq_bool_str (fin_bl I q (by simp))
    | _ => exact absurd (show false = true from hs) Bool.false_ne_true
  | int i =>
    obtain ⟨t, rfl⟩ := rx
    cases y with
    | non => cases ry; exact PySem.EqNone.eq_int_none (fin_bl I q (by simp))
    | int j => obtain ⟨t', rfl⟩ := ry; exact eq_int (fin_bl I q dec_int)
    | str j => obtain ⟨t', rfl⟩ := ry; exact PySem.EqMixed.eq_int_str (fin_bl I q (by simp))
    | _ => exact absurd (show false = true from hs) Bool.false_ne_true
  | str i =>
    obtain ⟨t, rfl⟩ := rx
    cases y with
    | non => cases ry; exact PySem.EqNone.eq_str_none (fin_bl I q (by simp))
    | bl j => cases ry; exact PySem.EqMixed.eq_str_bool (fin_bl I q (by simp))
    | int j => obtain ⟨t', rfl⟩ := ry; exact PySem.EqMixed.eq_str_int (fin_bl I q (by simp))
    | str j => obtain ⟨t', rfl⟩ := ry; exact eq_str (fin_bl I q dec_str)
    | _ => exact absurd (show false = true from hs) Bool.false_ne_true
  | byt i =>
    obtain ⟨t, rfl⟩ := rx
    cases y with
    | byt j => obtain ⟨t', rfl⟩ := ry; exact PySem.W.eq_bytes (fin_bl I q dec_byt)
    | _ => exact absurd (show false = true from hs) Bool.false_ne_true
  | _ => cases y <;> exact absurd (show false = true from hs) Bool.false_ne_true
theorem op_lt : OpR X (compareOp .Lt) (rI0 fun i j => .bl (decide (i < j))) := opB0 fun _ _ _ _ _ _ _ q => lt_int q
theorem op_le : OpR X (compareOp .LtE) (rI0 fun i j => .bl (decide (i ≤ j))) := opB0 fun _ _ _ _ _ _ _ q => le_int q
theorem op_gt : OpR X (compareOp .Gt) (rI0 fun i j => .bl (decide (j < i))) := opB0 fun _ _ _ _ _ _ _ q => gt_int q
/-- the one string within the other -/
theorem op_in_str : OpR X (compareOp .In) (fun x y H Q => ∃ i j, x = .str i ∧ y = .str j ∧ Q (.bl (!(Builtin.Str.occurrences j i 0 j.length 1).isEmpty)) H) := by
  intro pins s σ H x y v u Q I rx ry h
  obtain ⟨i, j, rfl, rfl, q⟩ := h
  obtain ⟨t, rfl⟩ := rx
  obtain ⟨t', rfl⟩ := ry
  exact in_str (fin_bl I q rfl)

/-- is None, is not None: the right side a value none -/
theorem op_isN : OpR X (compareOp .Is) (fun x y H Q => y = .non ∧ Q (.bl (decide (x = .non))) H) := by
  intro pins s σ H x y v u Q I rx ry h
  obtain ⟨rfl, q⟩ := h
  cases ry
  refine is_none_gen (fin_bl I q ?_)
  cases x <;> first
    | (cases rx; rfl)
    | (obtain ⟨t, rfl⟩ := rx; rfl)
theorem op_notN : OpR X (compareOp .IsNot) (fun x y H Q => y = .non ∧ Q (.bl (!decide (x = .non))) H) := by
  intro pins s σ H x y v u Q I rx ry h
  obtain ⟨rfl, q⟩ := h
  cases ry
  refine isnot_none_gen (fin_bl I q ?_)
  cases x <;> first
    | (cases rx; rfl)
    | (obtain ⟨t, rfl⟩ := rx; rfl)

/-- two rules for one operation: by cases -/
theorem OpR.or {f : Value → Value → Sem Value} {r r' : R2} (h : OpR X f r) (h' : OpR X f r') : OpR X f (fun x y H Q => r x y H Q ∨ r' x y H Q) := by
  intro pins s σ H x y v u Q I rx ry q
  rcases q with q | q
  · exact h pins s σ H x y v u Q I rx ry q
  · exact h' pins s σ H x y v u Q I rx ry q

theorem nomark (b : Expr) {op : CmpOp} (h : op ≠ .In := by decide) (h2 : op ≠ .NotIn := by decide) : behindInMarks op b = false := by
  have e1 : (op == CmpOp.In) = false := by cases op <;> first | rfl | exact absurd rfl h
  have e2 : (op == CmpOp.NotIn) = false := by cases op <;> first | rfl | exact absurd rfl h2
  cases b <;> simp [behindInMarks, e1, e2]
/-- a comparison as a value; hm: nomark b, or (for in, not in) by with_unfolding_all rfl -/
theorem pe_cmpR {op : CmpOp} {r : R2} (ho : OpR X (compareOp op) r) (ha : PE X a ta) (hb : PE X b tb) (hm : behindInMarks op b = false) : PE X (.Compare a [op] [b] pos) (tOp r ta tb) := by
  intro pins s σ H Q I h
  exact wpAny_Compare1 (binT ha hb I h fun v u s2 x y H2 I2 rx ry q => ho pins s2 σ H2 x y v u Q I2 rx ry q) hm
/-- a reading of a value as a test -/
def tTest (t : TE) : TT := fun σ H Q => t σ H fun x H' => ∃ k, x = .bl k ∧ Q k H'
theorem pt_cmpR {op : CmpOp} {r : R2} (ho : OpR X (compareOp op) r) (ha : PE X a ta) (hb : PE X b tb) (hm : behindInMarks op b = false) : PT X (.Compare a [op] [b] pos) (tTest (tOp r ta tb)) := by
  intro pins s σ H Q I h
  refine wpAny_isTrue_Compare1 (thn (ha pins s σ H _ I h) fun v s1 ⟨x, H1, I1, r1, q1⟩ => thn (hb pins s1 σ H1 _ I1 q1) fun u s2 ⟨y, H2, I2, r2, q2⟩ =>
    thn (ho pins s2 σ H2 x y v u _ I2 r1 r2 q2) fun c s3 ⟨z, H3, I3, r3, k, e, q3⟩ => ?_) hm
  subst e
  cases r3
  exact wpAny_truthy_bool ⟨H3, I3, q3⟩
/-- a op1 b op2 c -/
def tChain (r r' : R2) (ta tb tc : TE) : TE := fun σ H Q => ta σ H fun x H1 => tb σ H1 fun y H2 => r x y H2 fun z H3 => ∃ k, z = .bl k ∧
  (if k = true then tc σ H3 fun w' H4 => r' y w' H4 Q else Q (.bl false) H3)
theorem pe_chain {op op' : CmpOp} {r r' : R2} (ho : OpR X (compareOp op) r) (ho' : OpR X (compareOp op') r') (ha : PE X a ta) (hb : PE X b tb) (hc : PE X c tc)
    (hm : lastMarks [op, op'] [b, c] = false := by with_unfolding_all rfl) : PE X (.Compare a [op, op'] [b, c] pos) (tChain r r' ta tb tc) := by
  intro pins s σ H Q I h
  refine Compare_chain (thn (ha pins s σ H _ I h) fun v s1 ⟨x, H1, I1, r1, q1⟩ => chain_link (thn (hb pins s1 σ H1 _ I1 q1) fun u s2 ⟨y, H2, I2, r2, q2⟩ =>
    thn (ho pins s2 σ H2 x y v u _ I2 r1 r2 q2) fun d s3 ⟨z, H3, I3, r3, k, e, q3⟩ => ?_)) hm
  subst e
  cases r3
  refine wpAny_truthy_bool ?_
  cases k with
  | false => exact ite_ff ⟨.bl false, H3, I3, rfl, q3⟩
  | true => exact ite_tt (chain_last (thn (hc pins s3 σ H3 _ I3 q3) fun w' s4 ⟨z', H4, I4, r4, q4⟩ => ho' pins s4 σ H4 y z' u w' Q I4 r2 r4 q4))
/-! ### truth -/
theorem line63 : (sizeLine : Nat) < 2 ^ 63 := by rw [sizeLine_eq]; decide
/-! ### strs and bytes -/
theorem op_add_str : OpR X (binaryOp .Add) (fun x y H Q => ∃ i j, x = .str i ∧ y = .str j ∧ i.length + j.length ≤ sizeLine ∧ Q (.str (i ++ j)) H) := by
  intro pins s σ H x y v u Q I rx ry h
  obtain ⟨i, j, rfl, rfl, hz, q⟩ := h
  obtain ⟨t, rfl⟩ := rx
  obtain ⟨t', rfl⟩ := ry
  exact add_str (fun t' tk => ⟨.str (i ++ j), H, I.tok _, ⟨_, rfl⟩, q⟩) hz
/-! ### scalar builtins, by CallR -/
theorem vals1 {x : V} {us : List Value} (r : Vals [x] us) : ∃ u, us = [u] ∧ RelV x u := by
  cases r with
  | cons r1 r2 => cases r2; exact ⟨_, rfl, r1⟩
theorem vals2 {x y : V} {us : List Value} (r : Vals [x, y] us) : ∃ u w', us = [u, w'] ∧ RelV x u ∧ RelV y w' := by
  cases r with
  | cons r1 r2 =>
    cases r2 with
    | cons r3 r4 => cases r4; exact ⟨_, _, rfl, r1, r3⟩
theorem call_abs : CallR X (.builtin "abs") (fun xs H Q => ∃ i, xs = [.int i] ∧ Q (.int (if i < 0 then -i else i)) H) := by
  intro pins s σ H xs us Q I r h
  obtain ⟨i, rfl, q⟩ := h
  obtain ⟨u, rfl, t, rfl⟩ := vals1 r
  exact call_abs_int fun u tk => ⟨.int (if i < 0 then -i else i), H, I.tok _, ⟨_, rfl⟩, q⟩
theorem call_int1 : CallR X (.type "int") (fun xs H Q => (∃ i, xs = [.int i] ∧ Q (.int i) H) ∨ ∃ k, xs = [.bl k] ∧ Q (.int (if k then 1 else 0)) H) := by
  intro pins s σ H xs us Q I r h
  rcases h with ⟨i, rfl, q⟩ | ⟨k, rfl, q⟩
  · obtain ⟨u, rfl, t, rfl⟩ := vals1 r
    exact call_int_int ⟨.int i, H, I, ⟨_, rfl⟩, q⟩
  · obtain ⟨u, rfl, r1⟩ := vals1 r
    cases r1
    exact call_int_bool ⟨.int (if k then 1 else 0), H, I.tok _, ⟨_, rfl⟩, q⟩
theorem call_str_int : CallR X (.type "str") (fun xs H Q => ∃ i, xs = [.int i] ∧ i.natAbs.log2 < 1920 ∧ Q (.str (toString i)) H) := by
  intro pins s σ H xs us Q I r h
  obtain ⟨i, rfl, hz, q⟩ := h
  obtain ⟨u, rfl, t, rfl⟩ := vals1 r
  exact PySem.P.str_of_int hz ⟨.str _, H, I.tok _, ⟨_, rfl⟩, q⟩
end
end L2

namespace L2
open PySem PySem.Spec PyProof.Rows

/-! ### an instance, its attributes a map -/
structure ObjM (h : Heap) (x dx C : Addr) (mA : Str → Option Value) : Prop where
  obj : h.get? x = some (PySem.W.instObj C dx)
  ns : h.Ns1 dx mA
  ne : dx ≠ x

theorem lookIn_ns {h : Heap} {dx : Addr} {mA : Str → Option Value} (n : h.Ns1 dx mA) : ∃ od, h.get? dx = some od ∧ ∀ name, PySem.W.lookIn name od = some (mA name) := by
  obtain ⟨o, es, ep, ho, hd, hk, _, hm⟩ := n
  refine ⟨o, ho, fun name => ?_⟩
  have e := hm name
  unfold nsFind findBy at e
  rw [← Array.find?_toList] at e
  unfold PySem.W.lookIn
  rw [hd]
  dsimp only
  split
  · rename_i y q
    rw [q] at e
    exact congrArg some e
  · rename_i q
    rw [q] at e
    have a : es.toList.any (·.refKey) = false := by
      rw [List.any_eq_false]
      intro y hy
      obtain ⟨z, t, hkey⟩ := hk y (Array.mem_toList_iff.mp hy)
      simp [DictEntry.refKey, hkey]
    have a' : ¬ es.toList.any (·.refKey) = true := by rw [a]; exact Bool.false_ne_true
    rw [if_neg a']
    exact congrArg some e

theorem ObjM.look {h : Heap} {x dx C : Addr} {mA : Str → Option Value} (I : ObjM h x dx C mA) : ∃ od, PySem.W.InstAt h x (PySem.W.instObj C dx) C (some od) ∧ ∀ name, PySem.W.lookIn name od = some (mA name) :=
  let ⟨od, ho, hl⟩ := lookIn_ns I.ns
  ⟨od, ⟨I.obj, rfl, rfl, ho⟩, hl⟩

section
variable {prog : Program} {w : World} {A : Around} {E : Value → Shared → Prop} {s : Shared} {K : PySem.W.Frag} {x dx C f : Addr} {mA : Str → Option Value} {name : Str} {v : Value}

end

/-! ### the attributes as a list of pairs -/
theorem RelO.none_of {o : Option Value} (r : RelO none o) : o = none := by
  cases o with
  | none => rfl
  | some u => exact (show False from r).elim
section
variable {P : Program} {w : World} {H H' : Hp} {h h' : Heap} {a C dx : Addr} {fs fs' : List (Str × V)}
theorem ins_get (hok : HOk P w H h) (e : H a = some (.ins C dx fs)) : ∃ mA, ObjM h a dx C mA ∧ (∀ f, RelO (fs.lookup f) (mA f)) ∧ PySem.Within mA (fs.map (·.1)) ∧ fs.length ≤ 1000 ∧ H dx = some (.own a) := by
  obtain ⟨d, z, ne, ob, mA, n, r, q⟩ := (show ObjOk P w H h a (.ins C dx fs) from hok a _ e)
  exact ⟨mA, ⟨ob, n, ne⟩, r, q, z, d⟩
end

/-! ### what of the text a class must have -/
structure Cls (K : PySem.W.Frag) (C : Addr) : Prop where
  pg : PySem.W.plainGet K C Str.empty = true
  hd : PySem.W.hasDictIn K C = true
  po : PySem.W.plainOver K C = true
  sa : PySem.W.findIn K (.ref C) "__setattr__" = some (some (.builtin "object.__setattr__"))
theorem Cls.get {K : PySem.W.Frag} {C : Addr} (c : Cls K C) (f : Str) : PySem.W.plainGet K C f = true := c.pg
/-- a constant of the class -/
structure Con (K : PySem.W.Frag) (C : Addr) (f : Str) (v : V) (u : Value) : Prop where
  at_ : PySem.W.findIn K (.ref C) f = some (some u)
  rel : RelV v u
  get : PySem.W.specialIn K u "__get__" = some none
  cp : PySem.W.copiedNames.contains f = false
/-- a method: a plain def of the class or of one above it -/
structure Meth (K : PySem.W.Frag) (C : Addr) (m : Str) (f : Addr) : Prop where
  at_ : PySem.W.findIn K (.ref C) m = some (some (.ref f))
  fn : PySem.W.isFn K (.ref f) = true
  kp : PySem.W.keepIn K (.ref f) = true

section
variable {X : Cx} {pins : List (Addr × Obj)} {σ : St} {H : Hp} {s : Shared} {a C dx : Addr} {fs : List (Str × V)} {f : Str} {v : V} {A : Around} {E : Value → Shared → Prop}

/-- a new instance, tracked, without attributes -/
theorem Inv.made (I : Inv X pins σ H s) : Inv X pins σ (upd (upd H s.heap.objs.size (.own (s.heap.objs.size + 1))) (s.heap.objs.size + 1) (.ins C s.heap.objs.size []))
    { s with heap := (s.heap.push PySem.W.emptyDict).push (PySem.W.instObj C s.heap.objs.size) } := by
  have e1 : (s.heap.push PySem.W.emptyDict).get? s.heap.objs.size = some PySem.W.emptyDict := Heap.get?_push_size s.heap rfl
  have e2 : ((s.heap.push PySem.W.emptyDict).push (PySem.W.instObj C s.heap.objs.size)).get? (s.heap.objs.size + 1) = some (PySem.W.instObj C s.heap.objs.size) := by
    have := Heap.get?_push_size (s.heap.push PySem.W.emptyDict) (o := PySem.W.instObj C s.heap.objs.size) rfl
    rwa [Heap.size_push] at this
  have e3 : (s.heap.push PySem.W.emptyDict).Ns s.heap.objs.size (fun _ => none) := ⟨PySem.W.emptyDict, #[], _, e1, rfl, (fun e he => absurd he (by simp)), fun _ => rfl⟩
  have I1 := I.laid (a := s.heap.objs.size) (o := .own (s.heap.objs.size + 1)) (h' := s.heap.push PySem.W.emptyDict) (t' := s.toks) (fun b u q => Heap.get?_push_of_some _ q) (Nat.le_refl _) ⟨_, e1⟩
  refine I1.laid (a := s.heap.objs.size + 1) (o := .ins C s.heap.objs.size []) (t' := s.toks) (fun b u q => Heap.get?_push_of_some _ q) (Nat.le_of_eq (Heap.size_push _ _)) ?_
  have ne : s.heap.objs.size ≠ s.heap.objs.size + 1 := Nat.ne_of_lt (Nat.lt_succ_self _)
  refine ⟨by rw [upd_ne ne, upd_same], Nat.zero_le _, ne, e2, fun _ => none, (Heap.Ns1.of_empty e3).at fun o q => Heap.get?_push_of_some _ q, fun _ => True.intro, fun y hy => absurd rfl hy⟩

end

/-! ### readings and rules -/
section
variable {X : Cx} {o e value : Expr} {f : Str} {pos pos' tpos : Pos} {ta tv : TE}
end

/-! ### isinstance -/
section
variable {X : Cx} {pins : List (Addr × Obj)} {σ : St} {H : Hp} {s : Shared} {A : Around} {E : Value → Shared → Prop} {Q : Value → Shared → Prop} {c : Value} {b : Bool}
/-- the type of a value, as the fragment's deciders take it; for an instance its class -/
inductive TyOf (K : PySem.W.Frag) (H : Hp) : V → Value → Prop where
  | non : TyOf K H .non (.type "NoneType")
  | bl (x : Bool) : TyOf K H (.bl x) (.type "bool")
  | int (i : Int) : TyOf K H (.int i) (.type "int")
  | str (x : Str) : TyOf K H (.str x) (.type "str")
  | flt (x : UInt64) : TyOf K H (.flt x) (.type "float")
  | lst {a : Addr} {xs : List V} (e : H a = some (.lst xs)) : TyOf K H (.ref a) (.type "list")
  | frz {a : Addr} {o : Obj} {xs : List V} (e : H a = some (.frz o (.lst xs))) : TyOf K H (.ref a) (.type "list")
  | tup {a : Addr} {xs : List V} (e : H a = some (.tup xs)) : TyOf K H (.ref a) (.type "tuple")
  | dK {a : Addr} {kvs : List (Key × V)} (e : H a = some (.dK kvs)) : TyOf K H (.ref a) (.type "dict")
  | dT {a : Addr} {kvs : List (List Key × V)} (e : H a = some (.dT kvs)) : TyOf K H (.ref a) (.type "dict")
  | ins {a C dx : Addr} {fs : List (Str × V)} (e : H a = some (.ins C dx fs)) (cl : Cls K C) (ha : PySem.W.findIn K (.ref C) "__class__" = some (some (.builtin "object.__class__")))
      (hn : PySem.W.specialIn K (.builtin "object.__class__") "__get__" = some (some (.builtin "getset_descriptor.__get__"))) (htk : PySem.W.takesIn K (.builtin "object.__class__") = some true)
      (hm : PySem.W.mroIn K C (.type "object") = some true) : TyOf K H (.ref a) (.ref C)
end
end L2

namespace L2
open PySem PySem.Spec PyProof.Rows

/-! ### room -/
structure Room (k : Nat) (A : Around) : Prop where
  hd : A.handled = none
  dp : A.depth + 3 * k + 5 < recursionLimit
  un : A.units + 16 * k + 200 < cLine
theorem Room.mono {j k : Nat} {A : Around} (r : Room k A) (h : j ≤ k) : Room j A := ⟨r.hd, by have := r.dp; omega, by have := r.un; omega⟩
theorem Room.deeper {k : Nat} {A : Around} (r : Room (k + 1) A) (env : Env) : Room k (A.deeper env) :=
  ⟨r.hd, by have := r.dp; show A.depth + 1 + 3 * k + 5 < _; omega, by have := r.un; show A.units + 3 + 16 * k + 200 < _; omega⟩
theorem Room.in1 {k : Nat} {A : Around} (r : Room (k + 1) A) : Room k A.in1 :=
  ⟨r.hd, by have := r.dp; show A.depth + 3 * k + 5 < _; omega, by have := r.un; show A.units + 1 + 16 * k + 200 < _; omega⟩
theorem Room.depth {k : Nat} {A : Around} (r : Room k A) : A.depth < recursionLimit := by have := r.dp; omega
theorem Room.units {k : Nat} {A : Around} (r : Room k A) : A.units + 64 < cLine := by have := r.un; omega
/-! ### argument lists and displays -/
def tNil : TA := fun _ H Q => Q [] H
def tCons (ta : TE) (tr : TA) : TA := fun σ H Q => ta σ H fun x H1 => tr σ H1 fun xs H2 => Q (x :: xs) H2
section
variable {X : Cx} {e : Expr} {es : List Expr} {te : TE} {t : TA} {pos : Pos}
theorem pa_nil : PA X [] tNil := fun _ _ _ _ H Q I h => Calls.spliced_nil ⟨[], H, I, .nil, h⟩
theorem pa_cons (ha : PE X e te) (hr : PA X es t) (hs : starEach (e :: es) X.env = (false, eval e X.env) :: starEach es X.env := by rfl) : PA X (e :: es) (tCons te t) := by
  intro pos pins s σ H Q I h
  rw [hs]
  show wpAny _ _ (spliced ((false, eval e X.env) :: backTo pos (starEach es X.env))) _ _ s
  refine Calls.spliced_cons (thn (ha pins s σ H _ I h) fun u s1 ⟨x, H1, I1, r1, q1⟩ => ?_)
  exact thn (hr pos pins s1 σ H1 _ I1 q1) fun us s2 ⟨xs, H2, I2, r2, q2⟩ => ⟨x :: xs, H2, I2, .cons r1 r2, q2⟩

/-- a tuple, a list of written items -/
def tTup (t : TA) : TE := fun σ H Q => t σ H fun xs H1 => xs.length ≤ sizeLine ∧ ∀ p, H1 p = none → Q (.ref p) (upd H1 p (.tup xs))
def tLst (t : TA) : TE := fun σ H Q => t σ H fun xs H1 => xs.length ≤ sizeLine ∧ ∀ p, H1 p = none → Q (.ref p) (upd H1 p (.lst xs))
theorem pe_tup {x1} (h : PA X es t) : PE X (.Tuple es x1 pos) (tTup t) := by
  intro pins s σ H Q I hq
  refine wpAny_Tuple_spliced (thn (h pos pins s σ H _ I hq) fun us s1 ⟨xs, H1, I1, r, z, q⟩ => ⟨by rw [← r.length]; exact z, ?_⟩)
  have hf : H1 s1.heap.objs.size = none := I1.hok.fresh (Nat.le_refl _)
  refine ⟨.ref s1.heap.objs.size, upd H1 s1.heap.objs.size (.tup xs), I1.laid (t' := s1.toks) (fun b u e => Heap.get?_push_of_some _ e) (Nat.le_refl _) ?_, rfl, q _ hf⟩
  exact ⟨z, us, r, ⟨_, Heap.get?_push_size _ rfl, rfl, _, rfl⟩⟩
theorem pe_lst (h : PA X es t) : PE X (.List es pos) (tLst t) := by
  intro pins s σ H Q I hq
  refine wpAny_List_spliced (thn (h pos pins s σ H _ I hq) fun us s1 ⟨xs, H1, I1, r, z, q⟩ => ⟨by rw [← r.length]; exact z, ?_⟩)
  have hf : H1 s1.heap.objs.size = none := I1.hok.fresh (Nat.le_refl _)
  refine ⟨.ref s1.heap.objs.size, upd H1 s1.heap.objs.size (.lst xs), I1.laid (t' := s1.toks) (fun b u e => Heap.get?_push_of_some _ e) (Nat.le_refl _) ?_, rfl, q _ hf⟩
  exact ⟨z, us, 0, r, Heap.get?_push_size _ rfl⟩
end

/-! ### what a def promises -/
/-- a def's promise: the bound arguments in the parameters' order, the heap, the wanted end, the wanted exception -/
abbrev Sp := List V → Hp → VK → XK → Prop
/-- how an exception lies behind a call (file 08 gives it): the callers' frames, abstract heap and state ahead of the call, the wish, the exception, the state -/
abbrev CXT := List Env → Hp → Shared → XK → Value → Shared → Prop

/-- the state at a call -/
structure Env0 (P : Program) (w : World) (K : PySem.W.Frag) (mg : Str → Option Value) (base : Heap) (A : Around) (outer : List Env) (s : Shared) (H : Hp) : Prop where
  frames : A.frames = some outer
  mod : Mod K mg base
  bs : ∀ b o, base.get? b = some o → s.heap.get? b = some o ∧ H b = none
  bsz : base.objs.size ≤ s.heap.objs.size
  funs : s.heap.FunFrames base outer
  frf : ∀ b ∈ frs outer, H b = none
  hok : HOk P w H s.heap
  bare : AllBare s.gens
/-- a call's end -/
def CE (outer : List Env) (P : Program) (w : World) (H : Hp) (s : Shared) (Q : VK) (u : Value) (s' : Shared) : Prop :=
  ∃ v H', s'.os = s.os ∧ AllBare s'.gens ∧ Un (frs outer) [] H H' s.heap s'.heap ∧ HOk P w H' s'.heap ∧ RelV v u ∧ Q v H'
def CR (CX : CXT) (outer : List Env) (P : Program) (w : World) (H : Hp) (s : Shared) (Q : VK) (E : XK) (r : Result) (s' : Shared) : Prop :=
  match r with
  | .ok (.ret u) => CE outer P w H s Q u s'
  | .ok _ => False
  | .error e => CX outer H s E e s'
structure FnOk (P : Program) (w : World) (K : PySem.W.Frag) (mg : Str → Option Value) (base : Heap) (CX : CXT) (k : Nat) (f : Addr) (fd : FuncData) (ps : List Str) (sp : Sp) : Prop where
  len : ∀ vs H Q E, sp vs H Q E → vs.length = ps.length
  run : ∀ (A : Around) (outer : List Env) (s : Shared) (H : Hp) (args : Args) (us : List Value) (vs : List V) (Q : VK) (E : XK), Room k A → Env0 P w K mg base A outer s H → BindsTo s fd args (ps.zip us) → Vals vs us → sp vs H Q E →
    codeAny (model P w) A (.call (.ref f) args) (CR CX outer P w H s Q E) s
theorem FnOk.mono {P : Program} {w : World} {K : PySem.W.Frag} {mg : Str → Option Value} {base : Heap} {CX : CXT} {j k : Nat} {f : Addr} {fd : FuncData} {ps : List Str} {sp : Sp} (F : FnOk P w K mg base CX j f fd ps sp) (h : j ≤ k) :
    FnOk P w K mg base CX k f fd ps sp := ⟨F.len, fun A outer s H args us vs Q E hr => F.run A outer s H args us vs Q E (hr.mono h)⟩
/-- a weaker promise -/
theorem FnOk.imp {P : Program} {w : World} {K : PySem.W.Frag} {mg : Str → Option Value} {base : Heap} {CX : CXT} {k : Nat} {f : Addr} {fd : FuncData} {ps : List Str} {sp sp' : Sp} (F : FnOk P w K mg base CX k f fd ps sp)
    (h : ∀ vs H Q E, sp' vs H Q E → sp vs H Q E) : FnOk P w K mg base CX k f fd ps sp' :=
  ⟨fun vs H Q E q => F.len vs H Q E (h _ _ _ _ q), fun A outer s H args us vs Q E hr he hb hv hs => F.run A outer s H args us vs Q E hr he hb hv (h _ _ _ _ hs)⟩

theorem Env0.in1 {P : Program} {w : World} {K : PySem.W.Frag} {mg : Str → Option Value} {base : Heap} {A : Around} {outer : List Env} {s : Shared} {H : Hp} (e : Env0 P w K mg base A outer s H) :
    Env0 P w K mg base A.in1 outer s H := ⟨e.frames, e.mod, e.bs, e.bsz, e.funs, e.frf, e.hok, e.bare⟩

section
variable {X : Cx} {pins : List (Addr × Obj)} {σ : St} {H : Hp} {s s' : Shared}
/-- from a body: what a callee wants -/
theorem Inv.env0 (I : Inv X pins σ H s) : Env0 X.prog X.w X.K X.mg X.base X.A X.stack s H :=
  ⟨I.ok.frames, I.ok.mod, I.bs, Nat.le_trans I.ok.bsz I.sz, I.stack, I.stkFree, I.hok, I.bare⟩
/-- behind a call -/
theorem Inv.after {Q : VK} {u : Value} (I : Inv X pins σ H s) (h : CE X.stack X.prog X.w H s Q u s') : EP X pins σ Q u s' := by
  obtain ⟨v, H', os, bare, un, hok, r, q⟩ := h
  obtain ⟨hh, g, d, t, os'⟩ := s'
  obtain rfl : os' = s.os := os
  exact ⟨v, H', I.call (h' := hh) (g' := g) (d' := d) (t' := t) (ch := []) un hok bare (fun b z => absurd z (by simp)), r, q⟩
end

/-! ### calls -/
/-- f(..): the written arguments, then the defaults dvs; E: what is wanted of an exception -/
def tCall (sp : Sp) (dvs : List V) (E : XK) (t : TA) : TE := fun σ H Q => t σ H fun vs H1 => sp (vs ++ dvs) H1 Q E
/-- how the parameters are bound: us the positional arguments, kw the keywords' values by name, ds the defaults that fill up -/
def Binds (K : PySem.W.Frag) (fd : FuncData) (ps : List Str) (ds : List Value) : Prop :=
  ∀ (s : Shared) (us : List Value), K.In s.heap → (us ++ ds).length = ps.length → BindsTo s fd ⟨us, []⟩ (ps.zip (us ++ ds))
/-- every parameter is given -/
theorem Binds.all {K : PySem.W.Frag} {fd : FuncData} {ps : List Str} (h : ∀ us : List Value, us.length = ps.length → bindArgs fd ⟨us, []⟩ = pure (ps.zip us)) : Binds K fd ps [] := fun s us _ hl => by
  rw [List.append_nil] at hl ⊢
  exact .of_eq (h us hl)

/-- an exception of a callee reaches what this body wants of exceptions -/
def Passes (CX : CXT) (X : Cx) (E : XK) : Prop := ∀ (pins : List (Addr × Obj)) (σ : St) (H : Hp) (s : Shared) (e : Value) (s' : Shared), Inv X pins σ H s → CX X.stack H s E e s' → X.xe e s'

section
variable {X : Cx} {CX : CXT} {k : Nat} {f C : Addr} {fd : FuncData} {ps : List Str} {sp : Sp} {dvs : List V} {ds : List Value} {E : XK} {x m : Str} {p pos apos : Pos} {e o : Expr} {es : List Expr} {ta : TE} {t : TA}

/-- the callee runs -/
theorem run_fn {pins : List (Addr × Obj)} {σ : St} {H : Hp} {s : Shared} {Q : VK} {us : List Value} {vs : List V} (F : FnOk X.prog X.w X.K X.mg X.base CX k f fd ps sp) (hr : Room k X.A) (hb : Binds X.K fd ps ds) (hd : Vals dvs ds) (hx : Passes CX X E)
    (I : Inv X pins σ H s) (r : Vals vs us) (h : sp (vs ++ dvs) H Q E) : wpAny (model X.prog X.w) X.A (call (.ref f) us) (EP X pins σ Q) X.xe s := by
  have r2 : Vals (vs ++ dvs) (us ++ ds) := r.append hd
  have hl : (us ++ ds).length = ps.length := by rw [← r2.length]; exact F.len _ _ _ _ h
  refine wpAny_call (codeAny_mono (F.run X.A X.stack s H ⟨us, []⟩ (us ++ ds) (vs ++ dvs) Q E hr I.env0 (hb s us I.kIn hl) r2 h) fun r s' hq => ?_)
  cases r with
  | error e => exact hx pins σ H s e s' I hq
  | ok fl =>
    cases fl with
    | ret u => exact I.after hq
    | next => exact False.elim hq
    | brk => exact False.elim hq
    | cont => exact False.elim hq

theorem pe_call (F : FnOk X.prog X.w X.K X.mg X.base CX k f fd ps sp) (hr : Room k X.A) (hg : Gl X x) (hm : X.mg x = some (.ref f)) (hk : PySem.W.keepIn X.K (.ref f) = true) (hb : Binds X.K fd ps ds) (hd : Vals dvs ds) (hx : Passes CX X E)
    (ha : PA X (e :: es) t) (hdb : (x == ("__debug__" : Str)) = false := by decide) (he : starEach (e :: es) X.env = (false, eval e X.env) :: starEach es X.env := by rfl) (hpl : (backTo pos (starEach es X.env)).any (·.1) = false := by rfl) :
    PE X (.Call (.Name x p) (e :: es) [] pos) (tCall sp dvs E t) := by
  intro pins s σ H Q I h
  refine wpAny_Call_Name_kw (ld_glob I hg hm ?_ hdb)
  refine PySem.W.callWith_K (h₀ := X.base) I.ok.mod.kin hk (thn (ha pos pins s σ H _ I h) fun us s1 ⟨vs, H1, I1, r, q⟩ => ⟨I1.kIn, ?_⟩) he hpl
  exact run_fn F hr hb hd hx I1 r q
/-- what a class must have to be made -/
structure Mk (K : PySem.W.Frag) (C f : Addr) : Prop where
  makes : PySem.W.makesIn K C = true
  init : PySem.W.findIn K (.ref C) "__init__" = some (some (.ref f))
  fn : PySem.W.isFn K (.ref f) = true
  kp : PySem.W.keepIn K (.ref C) = true

end

/-! ### keywords -/
section
variable {X : Cx} {CX : CXT} {k : Nat} {f C : Addr} {fd : FuncData} {ps ks : List Str} {sp : Sp} {E : XK} {x m : Str} {p pos apos kpos : Pos} {e o : Expr} {es : List Expr} {kws : List Keyword} {te ta : TE} {t tk : TA} {nm : Option Str}
/-- how a call with keywords binds: g puts the positional values us and the keywords' values ws (names ks) in the parameters' order, defaults among them -/
structure KBinds (K : PySem.W.Frag) (fd : FuncData) (ps ks : List Str) (g : List Value → List Value → List Value) (gV : List V → List V → List V) : Prop where
  to : ∀ (s : Shared) (us ws : List Value), K.In s.heap → (g us ws).length = ps.length → BindsTo s fd ⟨us, ks.zip ws⟩ (ps.zip (g us ws))
  rel : ∀ {vs : List V} {us : List Value} {zs : List V} {ws : List Value}, Vals vs us → Vals zs ws → Vals (gV vs zs) (g us ws)
variable {g : List Value → List Value → List Value} {gV : List V → List V → List V}
end

/-! ### a def's body keeps its promise -/
/-- names: the parameters first -/
structure FnScope (N P : List Str) (sc : Scope) : Prop where
  kind : sc.kind = .function
  co : sc.isCoroutine = false
  gen : sc.isGenerator = false
  nd : N.Nodup
  pre : N.take P.length = P
  par : ∀ x ∈ P, sc.names.lookup x = some .local ∨ sc.names.lookup x = some .cell
  nofree : ∀ y ∈ sc.names, y.2 ≠ .free

theorem bindL_out {kindOf : Str → Option NameKind} {x : Str} : ∀ {binds : List (Str × Value)} {m : Str → Option Value}, (∀ v, (x, v) ∉ binds) → bindL kindOf binds m x = m x
  | [], _, _ => rfl
  | (n, v) :: r, m, h => by
    unfold bindL
    rw [bindL_out fun w hw => h w (List.mem_cons_of_mem _ hw)]
    split
    · have : x ≠ n := by rintro rfl; exact h v List.mem_cons_self
      simp [this]
    · rfl
theorem bindC_out {kindOf : Str → Option NameKind} {x : Str} : ∀ {binds : List (Str × Value)} {m : Str → Option Value}, (∀ v, (x, v) ∉ binds) → bindC kindOf binds m x = m x
  | [], _, _ => rfl
  | (n, v) :: r, m, h => by
    unfold bindC
    rw [bindC_out fun w hw => h w (List.mem_cons_of_mem _ hw)]
    split
    · rfl
    · have : x ≠ n := by rintro rfl; exact h v List.mem_cons_self
      simp [this]
theorem bindL_get {kindOf : Str → Option NameKind} {x : Str} {v : Value} : ∀ {P : List Str} {vs : List Value} {i : Nat} {m : Str → Option Value}, P.Nodup → P[i]? = some x → vs[i]? = some v → kindOf x = some .local →
    bindL kindOf (P.zip vs) m x = some v
  | [], _, _, _, _, h, _, _ => by simp at h
  | _ :: _, [], _, _, _, _, h, _ => by simp at h
  | p :: P, w :: vs, 0, m, nd, h1, h2, hk => by
    simp at h1 h2; subst h1; subst h2
    show bindL kindOf ((p, w) :: P.zip vs) m p = _
    unfold bindL
    rw [bindL_out fun v hv => (List.nodup_cons.mp nd).1 (List.of_mem_zip hv).1, if_pos hk]
    simp
  | p :: P, w :: vs, i + 1, m, nd, h1, h2, hk => by
    show bindL kindOf ((p, w) :: P.zip vs) m x = _
    unfold bindL
    exact bindL_get (i := i) (List.nodup_cons.mp nd).2 (by simpa using h1) (by simpa using h2) hk
theorem bindC_get {kindOf : Str → Option NameKind} {x : Str} {v : Value} : ∀ {P : List Str} {vs : List Value} {i : Nat} {m : Str → Option Value}, P.Nodup → P[i]? = some x → vs[i]? = some v → kindOf x ≠ some .local →
    bindC kindOf (P.zip vs) m x = some v
  | [], _, _, _, _, h, _, _ => by simp at h
  | _ :: _, [], _, _, _, _, h, _ => by simp at h
  | p :: P, w :: vs, 0, m, nd, h1, h2, hk => by
    simp at h1 h2; subst h1; subst h2
    show bindC kindOf ((p, w) :: P.zip vs) m p = _
    unfold bindC
    rw [bindC_out fun v hv => (List.nodup_cons.mp nd).1 (List.of_mem_zip hv).1, if_neg hk]
    simp
  | p :: P, w :: vs, i + 1, m, nd, h1, h2, hk => by
    show bindC kindOf ((p, w) :: P.zip vs) m x = _
    unfold bindC
    exact bindC_get (i := i) (List.nodup_cons.mp nd).2 (by simpa using h1) (by simpa using h2) hk

/-- the names' values at the entry -/
def start (N : List Str) (vs : List V) : St := vs.map some ++ List.replicate (N.length - vs.length) none

/-- the context of a def's body, at its entry; an exception leaves the frame, then lies as CX says -/
def cxOf (CX : CXT) (P : Program) (w : World) (K : PySem.W.Frag) (mg : Str → Option Value) (base : Heap) (N : List Str) (qual : Str) (scope : Scope) (f : Addr) (cd : Value) (A : Around) (outer : List Env) (s : Shared) (H : Hp) (E : XK) : Cx where
  prog := P
  w := w
  K := K
  mg := mg
  base := base
  A := A.deeper (envOfC qual scope s.heap.objs.size f cd)
  N := N
  s₀ := s
  H₀ := H
  env := envOfC qual scope s.heap.objs.size f cd
  outer := outer
  stack := envOfC qual scope s.heap.objs.size f cd :: outer
  ex := []
  calm := true
  fn := fun _ => true
  pn := []
  xe := fun e s' => wpAny (model P w) (A.deeper (envOfC qual scope s.heap.objs.size f cd)) (leaving (envOfC qual scope s.heap.objs.size f cd) e) (fun _ s'' => CX outer H s E e s'') (fun e' s'' => CX outer H s E e' s'') s'

theorem cell_has {sc : Scope} {n : Nat} {x : Str} (h : sc.names.lookup x = some .cell) : ∃ c, (cellsFrom n sc.names []).lookup x = some c := by
  have q := PySem.W.cellsFrom_some sc.names n [] (.inl h)
  exact Option.isSome_iff_exists.mp q

theorem inv_start {CX : CXT} {P : Program} {w : World} {K : PySem.W.Frag} {mg : Str → Option Value} {base : Heap} {N ps : List Str} {qual : Str} {scope : Scope} {f : Addr} {cd : Value} {A : Around} {outer : List Env} {s s1 : Shared} {H : Hp} {E : XK} {us : List Value} {vs : List V}
    (S : FnScope N ps scope) (hd : A.handled = none) (e0 : Env0 P w K mg base A outer s H) (hl : vs.length = ps.length) (r : Vals vs us)
    (x : InCallC s s.heap.objs.size (bindL (envOfC qual scope s.heap.objs.size f cd).kindOf (ps.zip us) fun _ => none) (cellsFrom (s.heap.objs.size + 1) scope.names []) (bindC (envOfC qual scope s.heap.objs.size f cd).kindOf (ps.zip us) fun _ => none) s1) :
    Inv (cxOf CX P w K mg base N qual scope f cd A outer s H E) [] (start N vs) H s1 := by
  have hpl : ps.length ≤ N.length := by have := congrArg List.length S.pre; rw [List.length_take] at this; omega
  obtain ⟨h1, tk, rfl, hk⟩ := x.done
  have noA : ∀ b : Addr, b ∉ (cxOf CX P w K mg base N qual scope f cd A outer s H E).ex := fun b z => absurd (show b ∈ ([] : List Addr) from z) (by simp)
  refine ⟨⟨e0.mod, S.kind, rfl, rfl, Nat.le_refl _, fun y z c h1 h2 => ?_, fun y hy => ?_, fun y c _ h => ?_, fun _ => hd, Around.frames_deeper e0.frames, .inr ⟨rfl, rfl⟩, fun b z => absurd z (noA b), e0.bs, e0.bsz, fun b _ _ => noA b, fun b z => absurd z (noA b), e0.funs, e0.frf⟩,
    rfl, e0.bare, Un.kept hk, ⟨_, x.toInCall.ns, fun i y v h1 h2 h3 => ?_⟩, fun y c h => ⟨_, x.cell y c h⟩, e0.hok.fresh (Nat.le_refl _), fun y c h => ?_, fun p hp => absurd (show p ∈ ([] : List (Addr × Obj)) from hp) (by simp), e0.hok.kept hk, ?_⟩
  · exact name_of_addr x.apart (PySem.mem_of_lookup h1) (PySem.mem_of_lookup h2)
  · have hy : scope.names.lookup y = some .cell ∨ scope.names.lookup y = some .free := hy
    rcases hy with hy | hy
    · exact cell_has hy
    · exact absurd rfl (S.nofree _ (PySem.mem_of_lookup hy))
  · exact Nat.le_of_lt (x.above y c (PySem.mem_of_lookup h))
  · have hi : i < vs.length := by
      unfold start at h2
      by_cases hi : i < vs.length
      · exact hi
      · rw [List.getElem?_append_right (by simpa using hi)] at h2
        rw [List.getElem?_replicate] at h2
        split at h2 <;> cases h2
    have ha : vs[i]? = some v := by
      unfold start at h2
      rw [List.getElem?_append_left (by simpa using hi), List.getElem?_map] at h2
      cases e : vs[i]? with
      | none => rw [e] at h2; cases h2
      | some a => rw [e] at h2; cases h2; rfl
    obtain ⟨u, hu, rv⟩ := r.get ha
    have hp : ps[i]? = some y := by
      rw [← S.pre, List.getElem?_take_of_lt (by omega)]; exact h1
    have ndP : ps.Nodup := by rw [← S.pre]; exact S.nd.sublist (List.take_sublist _ _)
    refine ⟨u, rv, ?_⟩
    rcases S.par y (List.mem_of_getElem? hp) with k | k
    · exact .inl ⟨k, bindL_get ndP hp hu k⟩
    · obtain ⟨c, e⟩ := cell_has (n := s.heap.objs.size + 1) k
      refine .inr ⟨.inl k, c, e, ?_⟩
      have q := x.cell y c e
      rw [bindC_get ndP hp hu (by show scope.names.lookup y ≠ _; rw [k]; decide)] at q
      exact q
  · exact e0.hok.fresh (Nat.le_of_lt (x.above y c (PySem.mem_of_lookup h)))
  · unfold start
    show _ = N.length
    rw [List.length_append, List.length_map, List.length_replicate]
    omega

/-- THE RULE: a def (or a method) of the text, by its body. The body's reading t is chosen for each entry; it is run at the parameters' values -/
theorem fn_of {CX : CXT} {P : Program} {w : World} {K : PySem.W.Frag} {mg : Str → Option Value} {base : Heap} {k : Nat} {f : Addr} {name qual : Str} {params : Arguments} {body : List Stmt} {scope : Scope} {dV kV doc pm cdv ct oc : Value} {an od : Option Addr}
    {osl : Array (Option Value)} {N ps : List Str} {sp : Sp} (lk : K.lookup f = some ⟨oc, od, .func (PySem.W.fnOf name qual params body scope dV kV doc pm an cdv ct), osl⟩) (hcd : PySem.W.codeIn K cdv qual = true) (S : FnScope N ps scope)
    (len : ∀ vs H Q E, sp vs H Q E → vs.length = ps.length)
    (hbody : ∀ (A : Around) (outer : List Env) (s : Shared) (H : Hp) (vs : List V) (Q : VK) (E : XK), Room k (A.deeper (envOfC qual scope s.heap.objs.size f cdv)) → sp vs H Q E →
      ∃ t, PSs (cxOf CX P w K mg base N qual scope f cdv A outer s H E) body t ∧ t { nx := fun _ H' => Q .non H', rt := Q } (start N vs) H) :
    FnOk P w K mg base CX (k + 1) f (PySem.W.fnOf name qual params body scope dV kV doc pm an cdv ct) ps sp := by
  refine ⟨len, fun A outer s H args us vs Q E hr e0 hb r hsp => ?_⟩
  have hl := len _ _ _ _ hsp
  have KX : K.In s.heap := e0.mod.kin.keeps fun b o e => (e0.bs b o e).1
  have lim : s.heap.NoLimit := e0.mod.nolimit.keeps fun b o e => (e0.bs b o e).1
  have hkind : ∀ y ∈ ps.zip us, scope.names.lookup y.1 = some .local ∨ (scope.names.lookup y.1 = some .cell ∧ ((cellsFrom (s.heap.objs.size + 1) scope.names []).lookup y.1).isSome = true) := fun ⟨n, v⟩ hy => by
    rcases S.par n (List.of_mem_zip hy).1 with q | q
    · exact .inl q
    · exact .inr ⟨q, PySem.W.cellsFrom_some _ _ _ (.inl q)⟩
  refine codeAny_call_function hr.depth (KX _ _ lk) rfl S.co S.gen rfl (PySem.W.codeRec_of KX hcd) (hb _ _ _ _ ?_)
  refine wpAny_newFunctionEnv_cells S.kind hkind fun env he s1 x => ?_
  subst he
  refine ⟨lim.keeps x.toInCall.keep, codeAny_func ?_⟩
  obtain ⟨t, ht, hq⟩ := hbody A outer s H vs Q E (hr.deeper _) hsp
  have I : Inv (cxOf CX P w K mg base N qual scope f cdv A outer s H E) [] (start N vs) H s1 := inv_start S hr.hd e0 hl r x
  refine wpAny_mono (ht [] s1 (start N vs) H _ I hq) (fun fl s' hs => ?_) fun e s' hs => hs
  have fin : ∀ {σ' : St} {H' : Hp} {v : V} {u : Value}, Inv (cxOf CX P w K mg base N qual scope f cdv A outer s H E) [] σ' H' s' → RelV v u → Q v H' → CE outer P w H s Q u s' :=
    fun {σ' H' v u} J rv q => ⟨v, H', J.os, J.bare, J.base, J.hok, rv, q⟩
  cases fl with
  | ret u =>
    obtain ⟨v, σ', H', J, rv, q⟩ := hs
    exact fin J rv q
  | next =>
    obtain ⟨σ', H', J, q⟩ := hs
    exact fin (v := V.non) (u := Value.none) J rfl q
  | brk =>
    obtain ⟨_, _, _, q⟩ := hs
    exact False.elim q
  | cont =>
    obtain ⟨_, _, _, q⟩ := hs
    exact False.elim q
end L2

namespace L2
open PySem PySem.Spec PyProof.Rows
section
variable {X : Cx} {x : Str} {p pos : Pos} {e : Expr} {es : List Expr} {t : TA} {id T : String} {r : List V → Hp → VK → Prop}

def tCB (r : List V → Hp → VK → Prop) (t : TA) : TE := fun σ H Q => t σ H fun vs H1 => r vs H1 Q
/-- f(e, ..), f a built-in function -/
theorem pe_callB (hc : CallR X (.builtin id) r) (hg : Gl X x) (hm : X.mg x = none) (hv : bootBuiltins x = some (.builtin id)) (ha : PA X (e :: es) t) (hn : x ≠ "__name__" := by decide) (hdb : (x == ("__debug__" : Str)) = false := by decide)
    (he : starEach (e :: es) X.env = (false, eval e X.env) :: starEach es X.env := by rfl) (hpl : (backTo pos (starEach es X.env)).any (·.1) = false := by rfl) : PE X (.Call (.Name x p) (e :: es) [] pos) (tCB r t) := by
  intro pins s σ H Q I h
  refine wpAny_Call_Name_kw (ld_blt I hg hm hv ?_ hn hdb)
  exact PyProof.Rows.callWith_builtin1 (thn (ha pos pins s σ H _ I h) fun us s1 ⟨vs, H1, I1, r1, q1⟩ => hc pins s1 σ H1 vs us Q I1 r1 q1) he hpl
/-- T(e, ..), T a built-in type -/
theorem pe_callTy (hc : CallR X (.type T) r) (hg : Gl X x) (hm : X.mg x = none) (hv : bootBuiltins x = some (.type T)) (ha : PA X (e :: es) t) (hn : x ≠ "__name__" := by decide) (hdb : (x == ("__debug__" : Str)) = false := by decide)
    (he : starEach (e :: es) X.env = (false, eval e X.env) :: starEach es X.env := by rfl) (hpl : (backTo pos (starEach es X.env)).any (·.1) = false := by rfl) : PE X (.Call (.Name x p) (e :: es) [] pos) (tCB r t) := by
  intro pins s σ H Q I h
  refine wpAny_Call_Name_kw (ld_blt I hg hm hv ?_ hn hdb)
  exact PyProof.Rows.callWith_type1 (thn (ha pos pins s σ H _ I h) fun us s1 ⟨vs, H1, I1, r1, q1⟩ => hc pins s1 σ H1 vs us Q I1 r1 q1) he hpl
end
end L2

namespace HT
open PySem PyProof.Rows

section
open PySem.SeqAt
open PySem.AutoSeq1 (wpAny_loadPart')
open PySem.MeetsSeq PySem.MeetsSeq2 PySem.MeetsSeq3

end

section
variable {prog : Program} {w : World} {A : Around} {E : Value → Shared → Prop} {s : Shared}

/-! ### t[a:b], not the whole -/
/-- a slice's bound as a place among n (d where it is left out) -/
def sIx (n d : Nat) : Option Int → Nat
  | none => d
  | some v => if v < 0 then (v + (n : Int)).toNat else min v.toNat n
theorem sIx_nat (n d k : Nat) : sIx n d (some (k : Int)) = min k n := by
  show (if (k : Int) < 0 then ((k : Int) + (n : Int)).toNat else min (k : Int).toNat n) = min k n
  rw [if_neg (by omega), Int.toNat_natCast]
theorem sIx_le (n d : Nat) (hd : d ≤ n) (o : Option Int) : sIx n d o ≤ n := by
  cases o with
  | none => exact hd
  | some v =>
    show (if v < 0 then (v + (n : Int)).toNat else min v.toNat n) ≤ n
    by_cases hv : v < 0
    · rw [if_pos hv]; omega
    · rw [if_neg hv]; exact Nat.min_le_right _ _
end
end HT

namespace L2
open PySem PySem.Spec PyProof.Rows

/-! ### the parts of a slice -/
abbrev TO := St → Hp → (Option Int → Hp → Prop) → Prop
/-- a slice's part (left out, or an int) -/
def PO (X : Cx) (e : Option Expr) (t : TO) : Prop :=
  ∀ (pins : List (Addr × Obj)) (s : Shared) (σ : St) (H : Hp) (Q : Option Int → Hp → Prop), Inv X pins σ H s → t σ H Q →
    wpAny (model X.prog X.w) X.A (evalPart e X.env) (fun u s' => ∃ o H', Inv X pins σ H' s' ∧ IsPart u o ∧ Q o H') X.xe s
def tNoPart : TO := fun _ H Q => Q none H
def tPart (t : TE) : TO := fun σ H Q => t σ H fun x H1 => ∃ i, x = .int i ∧ Q (some i) H1

section
variable {X : Cx} {e : Expr} {te : TE} {lo hi : Option Expr} {tl th : TO} {pos p2 : Pos}

theorem po_none : PO X none tNoPart := by
  intro pins s σ H Q I h
  rw [evalPart_none]
  exact wpAny_pure ⟨none, H, I, .none, h⟩
theorem po_some (h : PE X e te) : PO X (some e) (tPart te) := by
  intro pins s σ H Q I hw
  rw [evalPart_some]
  refine thn (h pins s σ H _ I hw) fun u s1 ⟨x, H1, I1, r1, q1⟩ => ?_
  obtain ⟨i, rfl, q⟩ := q1
  obtain ⟨t, rfl⟩ := r1
  exact ⟨some i, H1, I1, .int i t, q⟩

/-- what a slice of a value is, by values: the slice object stands at sl -/
def SlR (X : Cx) (r : V → Option Int → Option Int → Hp → VK → Prop) : Prop :=
  ∀ (pins : List (Addr × Obj)) (s : Shared) (σ : St) (H : Hp) (x : V) (v vl vu : Value) (lo hi : Option Int) (sl : Addr) (Q : VK), Inv X pins σ H s → RelV x v → s.heap.IsSliceOf sl vl vu .none → IsPart vl lo → IsPart vu hi → r x lo hi H Q →
    ∃ T id, typeLookup (.type T) "__getitem__" = pure (some (.builtin id)) ∧ s.TypeIs v T ∧ wpAny (model X.prog X.w) X.A (getItem v (.ref sl)) (EP X pins σ Q) X.xe s
theorem SlR.or {r r' : V → Option Int → Option Int → Hp → VK → Prop} (h : SlR X r) (h' : SlR X r') : SlR X (fun x lo hi H Q => r x lo hi H Q ∨ r' x lo hi H Q) := by
  intro pins s σ H x v vl vu lo hi sl Q I rx hs pl pu q
  rcases q with q | q
  · exact h pins s σ H x v vl vu lo hi sl Q I rx hs pl pu q
  · exact h' pins s σ H x v vl vu lo hi sl Q I rx hs pl pu q
def tSl (r : V → Option Int → Option Int → Hp → VK → Prop) (te : TE) (tl th : TO) : TE := fun σ H Q => te σ H fun x H1 => tl σ H1 fun l H2 => th σ H2 fun u H3 => r x l u H3 Q
/-- a[lo:hi], any a -/
theorem pe_slice {r : V → Option Int → Option Int → Hp → VK → Prop} (hr : SlR X r) (he : PE X e te) (hl : PO X lo tl) (hu : PO X hi th) : PE X (.Subscript e (.Slice lo hi none p2) pos) (tSl r te tl th) := by
  intro pins s σ H Q I h
  refine Subscript_ (thn (he pins s σ H _ I h) fun v s1 ⟨x, H1, I1, r1, q1⟩ => ?_)
  refine wpAny_Slice (thn (hl pins s1 σ H1 _ I1 q1) fun vl s2 ⟨l, H2, I2, pl, q2⟩ => thn (hu pins s2 σ H2 _ I2 q2) fun vu s3 ⟨u, H3, I3, pu, q3⟩ => ?_)
  rw [evalPart_none]
  refine wpAny_pure ?_
  have I4 : Inv X pins σ H3 { s3 with heap := s3.heap.push { cls := .type "slice", data := .fields #[vl, vu, .none] } } := I3.kept (t' := s3.toks) fun b ob q => Heap.get?_push_of_some _ q
  obtain ⟨T, id, hT, ht, hg⟩ := hr pins { s3 with heap := s3.heap.push { cls := .type "slice", data := .fields #[vl, vu, .none] } } σ H3 x v vl vu l u s3.heap.objs.size Q I4 r1 (Heap.IsSliceOf.new ..) pl pu q3
  show wpAny (model X.prog X.w) X.A (subscriptTail e (.Slice lo hi none p2) v (.ref s3.heap.objs.size)) (EP X pins σ Q) X.xe { s3 with heap := s3.heap.push { cls := .type "slice", data := .fields #[vl, vu, .none] } }
  exact tail_any (ops := [.ref s3.heap.objs.size, v]) ht hT hg (by with_unfolding_all rfl)

/-- the items of xs[lo:hi] -/
def cutV (xs : List V) (lo hi : Option Int) : List V := (xs.drop (HT.sIx xs.length 0 lo)).take (HT.sIx xs.length xs.length hi - HT.sIx xs.length 0 lo)
theorem cutV_length (xs : List V) (lo hi : Option Int) : (cutV xs lo hi).length ≤ xs.length := by
  unfold cutV
  rw [List.length_take, List.length_drop]
  omega
/-! ### t < u, t + u -/
end
end L2

namespace L2
open PySem PySem.Spec PyProof.Rows

/-! ### places -/
/-- the place that an index of any sign means -/
def ixN (n : Nat) (i : Int) : Option Nat := if 0 ≤ i then (if i < n then some i.toNat else none) else if -(n : Int) ≤ i then some (i + n).toNat else none
def atI {α : Type} (xs : List α) (i : Int) : Option α := (ixN xs.length i).bind fun j => xs[j]?
theorem ixN_seq {n : Nat} {i : Int} {j : Nat} (h : ixN n i = some j) : seqIndex? i n = some j ∧ j < n ∧ -(n : Int) ≤ i ∧ i < n := by
  unfold ixN at h
  by_cases h0 : 0 ≤ i
  · rw [if_pos h0] at h
    by_cases h1 : i < n
    · rw [if_pos h1] at h
      have e : i.toNat = j := Option.some.inj h
      exact ⟨by rw [seqIndex_of h0 h1, e], by omega, by omega, h1⟩
    · rw [if_neg h1] at h; cases h
  · rw [if_neg h0] at h
    by_cases h1 : -(n : Int) ≤ i
    · rw [if_pos h1] at h
      have e : (i + n).toNat = j := Option.some.inj h
      exact ⟨by rw [seqIndex_neg (by omega) h1, e], by omega, h1, by omega⟩
    · rw [if_neg h1] at h; cases h
theorem atI_get {α : Type} {xs : List α} {i : Int} {v : α} (h : atI xs i = some v) : ∃ j, seqIndex? i xs.length = some j ∧ xs[j]? = some v ∧ j < xs.length ∧ -(xs.length : Int) ≤ i ∧ i < xs.length := by
  unfold atI at h
  cases e : ixN xs.length i with
  | none => rw [e] at h; cases h
  | some j =>
    rw [e] at h
    obtain ⟨h1, h2, h3, h4⟩ := ixN_seq e
    exact ⟨j, h1, h, h2, h3, h4⟩
theorem atI_nat {α : Type} {xs : List α} {j : Nat} {v : α} (h : xs[j]? = some v) : atI xs (j : Int) = some v := by
  have hj : j < xs.length := (List.getElem?_eq_some_iff.mp h).1
  have e : ixN xs.length (j : Int) = some j := by
    unfold ixN
    rw [if_pos (by omega), if_pos (by omega)]; simp
  unfold atI; rw [e]; exact h
theorem atI_last {α : Type} (xs : List α) (v : α) : atI (xs ++ [v]) (-1) = some v := by
  have hl : (xs ++ [v]).length = xs.length + 1 := by simp
  have e : ixN (xs ++ [v]).length (-1) = some xs.length := by
    unfold ixN
    rw [hl, if_neg (by decide), if_pos (by omega)]
    congr 1
    omega
  unfold atI
  rw [e]
  show (xs ++ [v])[xs.length]? = some v
  simp

/-! ### what may be subscripted -/
/-- what stands as an index of a plain subscript -/
def PlainIx (b : Expr) : Prop := ∀ o i, subscripted b false o i = operate [o, i] (getItem o i)
/-- a subscript by values -/
def IxR (X : Cx) (r : R2) : Prop :=
  ∀ (value slice : Expr) (pins : List (Addr × Obj)) (s : Shared) (σ : St) (H : Hp) (x y : V) (v u : Value) (Q : VK), Inv X pins σ H s → RelV x v → RelV y u → r x y H Q →
    subscripted slice false v u = operate [v, u] (getItem v u) → wpAny (model X.prog X.w) X.A (subscriptTail value slice v u) (EP X pins σ Q) X.xe s
/-- a call of a builtin's method by values: the receiver, the arguments -/
def MtR (X : Cx) (id : String) (r : V → List V → Hp → VK → Prop) : Prop :=
  ∀ (pins : List (Addr × Obj)) (s : Shared) (σ : St) (H : Hp) (x : V) (xs : List V) (v : Value) (us : List Value) (Q : VK), Inv X pins σ H s → RelV x v → Vals xs us → r x xs H Q →
    wpAny (model X.prog X.w) X.A (call (.builtin id) (v :: us)) (EP X pins σ Q) X.xe s
section
variable {X : Cx} {a b : Expr} {ta tb : TE} {pos : Pos}
theorem IxR.or {r r' : R2} (h : IxR X r) (h' : IxR X r') : IxR X (fun x y H Q => r x y H Q ∨ r' x y H Q) := by
  intro value slice pins s σ H x y v u Q I rx ry q hs
  rcases q with q | q
  · exact h value slice pins s σ H x y v u Q I rx ry q hs
  · exact h' value slice pins s σ H x y v u Q I rx ry q hs
theorem MtR.or {id : String} {r r' : V → List V → Hp → VK → Prop} (h : MtR X id r) (h' : MtR X id r') : MtR X id (fun x xs H Q => r x xs H Q ∨ r' x xs H Q) := by
  intro pins s σ H x xs v us Q I rx rs q
  rcases q with q | q
  · exact h pins s σ H x xs v us Q I rx rs q
  · exact h' pins s σ H x xs v us Q I rx rs q
/-- a[b] -/
theorem pe_ix {r : R2} (hr : IxR X r) (ha : PE X a ta) (hb : PE X b tb) (hs : PlainIx b) : PE X (.Subscript a b pos) (tOp r ta tb) := by
  intro pins s σ H Q I h
  exact Subscript_ (binT ha hb I h fun v u s2 x y H2 I2 rx ry q => hr a b pins s2 σ H2 x y v u Q I2 rx ry q (hs _ _))

def rIxL (K : PySem.W.Frag) : R2 := fun x y H Q => ∃ p xs i v, x = .ref p ∧ y = .int i ∧ SqL K H p xs ∧ atI xs i = some v ∧ Q v H
def rIxT (K : PySem.W.Frag) : R2 := fun x y H Q => ∃ p xs i v, x = .ref p ∧ y = .int i ∧ SqT K H p xs ∧ atI xs i = some v ∧ Q v H
def rIxS : R2 := fun x y H Q => ∃ z i c, x = .str z ∧ y = .int i ∧ z.length ≤ sizeLine ∧ atI z.cps.toList i = some c ∧ Q (.str ⟨#[c]⟩) H
theorem ix_list : IxR X (rIxL X.K) := by
  intro value slice pins s σ H x y v u Q I rx ry h hs
  obtain ⟨p, xs, i, z, rfl, rfl, hq, he, q⟩ := h
  cases rx
  obtain ⟨t, rfl⟩ := ry
  obtain ⟨its, r, pl, hz⟩ := I.list hq
  obtain ⟨j, h1, h2, h3, h4, h5⟩ := atI_get he
  obtain ⟨w, ew, rw'⟩ := r.get h2
  have hl := r.length
  have hn := line63
  have fin : EP X pins σ Q w s := ⟨z, H, I, rw', q⟩
  by_cases h0 : 0 ≤ i
  · have hj : i.toNat = j := by
      rw [seqIndex_of h0 h5] at h1
      exact Option.some.inj h1
    exact item_listR pl.isList h0 (by omega) (by rw [hj]; simpa using ew) fin hs
  · have hj : (i + (its.toArray.size : Int)).toNat = j := by
      rw [seqIndex_neg (by omega) h4] at h1
      rw [List.size_toArray, ← hl]
      exact Option.some.inj h1
    exact subscriptTail_builtinR (x := w) pl.isList.typeIs slot_list_getitem.lookup
      (wpAny_getItem_list_neg (Q := fun r s' => r = w ∧ EP X pins σ Q r s') pl.isList (by omega) (by rw [List.size_toArray] <;> omega) (by omega) (by rw [hj]; simpa using ew) ⟨rfl, fin⟩) hs
theorem ix_tup : IxR X (rIxT X.K) := by
  intro value slice pins s σ H x y v u Q I rx ry h hs
  obtain ⟨p, xs, i, z, rfl, rfl, hq, he, q⟩ := h
  cases rx
  obtain ⟨t, rfl⟩ := ry
  obtain ⟨its, r, pl, hz⟩ := I.tuple hq
  obtain ⟨j, h1, h2, h3, h4, h5⟩ := atI_get he
  obtain ⟨w, ew, rw'⟩ := r.get h2
  have hl := r.length
  have hn := line63
  have fin : EP X pins σ Q w s := ⟨z, H, I, rw', q⟩
  exact subscriptTail_builtinR (x := w) pl.typeIs slot_tuple_getitem.lookup
    (getItem_tuple (j := j) (Q := fun r s' => r = w ∧ EP X pins σ Q r s') pl (by omega) (by omega) (by rw [List.size_toArray, ← hl]; exact h1) (by simpa using ew) ⟨rfl, fin⟩) hs
theorem ix_str : IxR X rIxS := by
  intro value slice pins s σ H x y v u Q I rx ry h hs
  obtain ⟨z, i, c, rfl, rfl, hz, he, q⟩ := h
  obtain ⟨t, rfl⟩ := rx
  obtain ⟨t', rfl⟩ := ry
  obtain ⟨j, h1, h2, h3, h4, h5⟩ := atI_get he
  have hl : z.cps.toList.length = z.length := by simp [Str.length]
  rw [hl] at h1 h4 h5
  have hn := line63
  exact tail_any (typeIs_str s z t) slot_str_getitem.lookup (getItem_str (c := c) (by
    have e1 : decide (i < -(2 ^ 63 : Int)) = false := decide_eq_false (by omega)
    have e2 : decide (i ≥ 2 ^ 63) = false := decide_eq_false (by omega)
    rw [e1, e2, Bool.or_false]) (by rw [h1]; simpa using h2) ⟨.str ⟨#[c]⟩, H, I.tok _, ⟨_, rfl⟩, q⟩) hs
/-! ### xs[i] = v, any sign -/
theorem Inv.lst {pins : List (Addr × Obj)} {σ : St} {H : Hp} {s : Shared} {p : Addr} {xs : List V} (I : Inv X pins σ H s) (h : H p = some (.lst xs)) :
    ∃ (its : List Value) (n : Nat), Vals xs its ∧ s.heap.get? p = some { cls := .type "list", data := .seq its.toArray n } ∧ xs.length ≤ sizeLine := by
  obtain ⟨z, its, n, r, e⟩ := I.hok p _ h
  exact ⟨its, n, r, e, z⟩
/-! ### slices -/
theorem slice_bounds (lo hi : Option Int) (n : Nat) : (sliceBounds lo hi none n).1 = ((HT.sIx n 0 lo : Nat) : Int) ∧ (sliceBounds lo hi none n).2.1 = ((HT.sIx n n hi : Nat) : Int) ∧ (sliceBounds lo hi none n).2.2 = 1 := by
  refine ⟨?_, ?_, rfl⟩
  · cases lo with
    | none => simp [sliceBounds, HT.sIx]
    | some i =>
      simp only [sliceBounds, HT.sIx, Option.getD_none, show (1 : Int) > 0 by decide, if_true]
      by_cases h : i < 0
      · simp only [h, if_true] <;> omega
      · simp only [h, if_false] <;> omega
  · cases hi with
    | none => simp [sliceBounds, HT.sIx]
    | some i =>
      simp only [sliceBounds, HT.sIx, Option.getD_none, show (1 : Int) > 0 by decide, if_true]
      by_cases h : i < 0
      · simp only [h, if_true] <;> omega
      · simp only [h, if_false] <;> omega
theorem slicePick_cut (its : List Value) (lo hi : Option Int) : slicePick its.toArray lo hi none = ((its.drop (HT.sIx its.length 0 lo)).take (HT.sIx its.length its.length hi - HT.sIx its.length 0 lo)).toArray := by
  obtain ⟨h1, h2, h3⟩ := slice_bounds lo hi its.toArray.size
  unfold slicePick
  rw [h1, h2, h3]
  simp only [sliceRange_one, pick_run, List.size_toArray] <;> rfl
/-- xs[lo:hi] of a list: a new list -/
def rSlL (K : PySem.W.Frag) : V → Option Int → Option Int → Hp → VK → Prop := fun x lo hi H Q => ∃ a xs, x = .ref a ∧ SqL K H a xs ∧ ∀ p, H p = none → Q (.ref p) (upd H p (.lst (cutV xs lo hi)))
theorem sl_list : SlR X (rSlL X.K) := by
  intro pins s σ H x v vl vu lo hi sl Q I rx hs pl pu h
  obtain ⟨a, xs, rfl, hx, q⟩ := h
  cases rx
  obtain ⟨its, r, ht, hz⟩ := I.list hx
  have hlen := r.length
  refine ⟨"list", _, slot_list_getitem.lookup, ht.isList.typeIs, ?_⟩
  refine wpAny_getItem_list_slice ht.isList hs pl pu .none (by simp) ?_ (by rw [List.size_toArray] <;> omega)
  rw [slicePick_cut, ← hlen]
  refine ⟨.ref s.heap.objs.size, _, I.laid (t' := s.toks) (o := .lst (cutV xs lo hi)) (fun b ob q => Heap.get?_push_of_some _ q) (Nat.le_refl _) ?_, rfl, q _ (I.hok.fresh (Nat.le_refl _))⟩
  exact ⟨Nat.le_trans (cutV_length xs lo hi) hz, _, 0, (r.drop (HT.sIx xs.length 0 lo)).take (HT.sIx xs.length xs.length hi - HT.sIx xs.length 0 lo), Heap.get?_push_size _ rfl⟩

/-! ### in, not in: flat items -/
def flatV : V → Bool
  | .non => true
  | .bl _ => true
  | .int _ => true
  | .str _ => true
  | _ => false
/-- == of flat values -/
def eqV : V → V → Bool
  | .non, .non => true
  | .bl a, .bl b => a == b
  | .bl a, .int b => (if a then 1 else 0) == b
  | .int a, .bl b => a == (if b then 1 else 0)
  | .int a, .int b => a == b
  | .str a, .str b => a == b
  | _, _ => false
theorem eqAt_V {A : Around} {s : Shared} {y x : V} {u v : Value} (ry : RelV y u) (rx : RelV x v) (fy : flatV y = true) (fx : flatV x = true) : SeqAt.EqAt A s u v (eqV y x) := by
  cases y with
  | non =>
    cases ry
    cases x with
    | non => cases rx; exact SeqAt.EqAt.same _
    | bl b => cases rx; exact SeqAt.EqAt.none_bool b
    | int b => obtain ⟨t, rfl⟩ := rx; exact SeqAt.EqAt.none_int b t
    | str b => obtain ⟨t, rfl⟩ := rx; exact SeqAt.EqAt.none_str b t
    | _ => exact absurd (show false = true from fx) Bool.false_ne_true
  | bl a =>
    cases ry
    cases x with
    | non => cases rx; exact SeqAt.EqAt.bool_none a
    | bl b => cases rx; exact SeqAt.EqAt.bool_bool a b
    | int b => obtain ⟨t, rfl⟩ := rx; exact SeqAt.EqAt.bool_int a b t
    | str b => obtain ⟨t, rfl⟩ := rx; exact SeqAt.EqAt.bool_str a b t
    | _ => exact absurd (show false = true from fx) Bool.false_ne_true
  | int a =>
    obtain ⟨t', rfl⟩ := ry
    cases x with
    | non => cases rx; exact SeqAt.EqAt.int_none a t'
    | bl b => cases rx; exact SeqAt.EqAt.int_bool a t' b
    | int b => obtain ⟨t, rfl⟩ := rx; exact SeqAt.EqAt.int_int a t' b t
    | str b => obtain ⟨t, rfl⟩ := rx; exact SeqAt.EqAt.int_str a t' b t
    | _ => exact absurd (show false = true from fx) Bool.false_ne_true
  | str a =>
    obtain ⟨t', rfl⟩ := ry
    cases x with
    | non => cases rx; exact SeqAt.EqAt.str_none a t'
    | bl b => cases rx; exact SeqAt.EqAt.str_bool a t' b
    | int b => obtain ⟨t, rfl⟩ := rx; exact SeqAt.EqAt.str_int a t' b t
    | str b => obtain ⟨t, rfl⟩ := rx; exact SeqAt.EqAt.str_str a t' b t
    | _ => exact absurd (show false = true from fx) Bool.false_ne_true
  | _ => exact absurd (show false = true from fy) Bool.false_ne_true
/-- the items' answers, read off the values (a value's own answer does not lean on its token) -/
def eqU (x : V) (u : Value) : Bool := match u with
  | .none => eqV .non x
  | .bool b => eqV (.bl b) x
  | .int i _ => eqV (.int i) x
  | .str z _ => eqV (.str z) x
  | _ => false
theorem eqU_of {x y : V} {u : Value} (r : RelV y u) (f : flatV y = true) : eqU x u = eqV y x := by
  cases y with
  | non => cases r; rfl
  | bl b => cases r; rfl
  | int i => obtain ⟨t, rfl⟩ := r; rfl
  | str z => obtain ⟨t, rfl⟩ := r; rfl
  | _ => exact absurd (show false = true from f) Bool.false_ne_true
theorem any_eqU {x : V} : ∀ {xs : List V} {us : List Value}, Vals xs us → xs.all flatV = true → us.any (eqU x) = xs.any fun y => eqV y x
  | _, _, .nil, _ => rfl
  | y :: xs, u :: us, .cons r t, f => by
    rw [List.all_cons, Bool.and_eq_true] at f
    rw [List.any_cons, List.any_cons, eqU_of r f.1, any_eqU t f.2]
theorem mem_eqAt {A : Around} {s : Shared} {x : V} {v : Value} (rx : RelV x v) (fx : flatV x = true) : ∀ {xs : List V} {us : List Value}, Vals xs us → xs.all flatV = true → ∀ u ∈ us, SeqAt.EqAt A s u v (eqU x u)
  | _, _, .nil, _ => fun u hu => by cases hu
  | y :: xs, u :: us, .cons r t, f => fun u' hu => by
    rw [List.all_cons, Bool.and_eq_true] at f
    rcases List.mem_cons.mp hu with rfl | hu
    · rw [eqU_of r f.1]; exact eqAt_V r rx f.1 fx
    · exact mem_eqAt rx fx t f.2 u' hu
def inV (x : V) (xs : List V) : Bool := xs.any fun y => eqV y x
/-- x in a list or tuple of flat items -/
def rIn (K : PySem.W.Frag) (neg : Bool) : R2 := fun x y H Q => ∃ p xs, y = .ref p ∧ (SqL K H p xs ∨ SqT K H p xs) ∧ flatV x = true ∧ xs.all flatV = true ∧ Q (.bl (if neg then !inV x xs else inV x xs)) H
theorem op_in_seq : OpR X (compareOp .In) (rIn X.K false) := by
  intro pins s σ H x y v u Q I rx ry h
  obtain ⟨p, xs, rfl, hq, fx, fs, q⟩ := h
  cases ry
  rcases hq with hq | hq
  · obtain ⟨its, r, pl, hz⟩ := I.list hq
    refine SeqAt.in_listAt (eqU x) pl.isList (fun w hw => mem_eqAt rx fx r fs w (by simpa using hw)) ⟨.bl _, H, I, rfl, ?_⟩
    rw [show its.toArray.any (eqU x) = its.any (eqU x) by simp, any_eqU r fs]
    exact q
  · obtain ⟨its, r, pl, hz⟩ := I.tuple hq
    refine SeqAt.in_tupleAt (eqU x) pl (fun w hw => mem_eqAt rx fx r fs w (by simpa using hw)) ⟨.bl _, H, I, rfl, ?_⟩
    rw [show its.toArray.any (eqU x) = its.any (eqU x) by simp, any_eqU r fs]
    exact q
/-! ### len, list(x), tuple(x) of any list or tuple that is read -/
theorem call_len_seq : CallR X (.builtin "len") (fun xs H Q => ∃ p ys, xs = [.ref p] ∧ (SqL X.K H p ys ∨ SqT X.K H p ys) ∧ Q (.int ys.length) H) := by
  intro pins s σ H xs us Q I r h
  obtain ⟨p, ys, rfl, hq, q⟩ := h
  obtain ⟨u, rfl, rx⟩ := vals1 r
  cases rx
  have hn := line63
  rcases hq with hq | hq
  · obtain ⟨its, r', pl, hz⟩ := I.list hq
    have hlen := r'.length
    exact Calls.call_len_list pl.isList (by simp only [List.size_toArray] <;> omega) ⟨.int ys.length, H, I.tok _, ⟨s.toks + 1, by rw [List.size_toArray, hlen]⟩, q⟩
  · obtain ⟨its, r', pl, hz⟩ := I.tuple hq
    have hlen := r'.length
    exact len_tuple pl (by simp only [List.size_toArray] <;> omega) ⟨.int ys.length, H, I.tok _, ⟨s.toks + 1, by rw [List.size_toArray, hlen]⟩, q⟩
theorem call_len_str : CallR X (.builtin "len") (fun xs H Q => ∃ z, xs = [.str z] ∧ z.length ≤ sizeLine ∧ Q (.int z.length) H) := by
  intro pins s σ H xs us Q I r h
  obtain ⟨z, rfl, hz, q⟩ := h
  obtain ⟨u, rfl, t, rfl⟩ := vals1 r
  have hn := line63
  exact len_str (by omega) ⟨.int z.length, H, I.tok _, ⟨_, rfl⟩, q⟩
theorem CallR.or {f : Value} {r r' : List V → Hp → VK → Prop} (h : CallR X f r) (h' : CallR X f r') : CallR X f (fun xs H Q => r xs H Q ∨ r' xs H Q) := by
  intro pins s σ H xs us Q I rs q
  rcases q with q | q
  · exact h pins s σ H xs us Q I rs q
  · exact h' pins s σ H xs us Q I rs q
/-! ### the call of a builtin's method: o.m(..) -/
/-- the value is of that builtin type -/
def tyV (K : PySem.W.Frag) (T : String) (x : V) (H : Hp) : Prop := match x with
  | .str _ => T = "str"
  | .int _ => T = "int"
  | .ref p => (T = "list" ∧ ∃ xs, SqL K H p xs) ∨ (T = "tuple" ∧ ∃ o, K.lookup p = some o ∧ o.cls = .type "tuple" ∧ o.dict = none) ∨
      (T = "dict" ∧ ((∃ kvs, H p = some (.dK kvs)) ∨ ∃ kvs, H p = some (.dT kvs))) ∨ (T = "set" ∧ ∃ S n, H p = some (.set S n))
  | _ => False
theorem tyV_is {pins : List (Addr × Obj)} {σ : St} {H : Hp} {s : Shared} {T : String} {x : V} {v : Value} (I : Inv X pins σ H s) (r : RelV x v) (ty : tyV X.K T x H) :
    s.TypeIs v T ∧ ∀ a, v = .ref a → ∃ ob, s.heap.get? a = some ob ∧ ob.dict = none := by
  cases x with
  | str z =>
    obtain ⟨t, rfl⟩ := r
    cases (show T = "str" from ty)
    exact ⟨typeIs_str s z t, fun _ e => nomatch e⟩
  | int i =>
    obtain ⟨t, rfl⟩ := r
    cases (show T = "int" from ty)
    exact ⟨typeIs_int s i t, fun _ e => nomatch e⟩
  | ref p =>
    cases r
    rcases ty with ⟨rfl, xs, hq⟩ | ⟨rfl, o, hk, hc, hd⟩ | ⟨rfl, hk⟩ | ⟨rfl, S, n, hk⟩
    · obtain ⟨its, _, pl, _⟩ := I.list hq
      refine ⟨pl.isList.typeIs, fun a e => ?_⟩
      cases e
      obtain ⟨o, n, e, c, hd, _⟩ := pl
      exact ⟨o, e, hd⟩
    · refine ⟨⟨o, I.kIn p o hk, hc⟩, fun a e => ?_⟩
      cases e
      exact ⟨o, I.kIn _ o hk, hd⟩
    · have z : ∃ o, s.heap.get? p = some o ∧ o.ExactDict := by
        rcases hk with ⟨kvs, hk⟩ | ⟨kvs, hk⟩
        · obtain ⟨_, _, _, _, o, _, _, e, ex, _⟩ := I.hok p _ hk
          exact ⟨o, e, ex⟩
        · obtain ⟨_, _, _, _, o, _, _, e, ex, _⟩ := I.hok p _ hk
          exact ⟨o, e, ex⟩
      obtain ⟨o, e, ex⟩ := z
      refine ⟨⟨o, e, ex.1⟩, fun a e2 => ?_⟩
      cases e2
      exact ⟨o, e, ex.2.1⟩
    · obtain ⟨o, _, _, _, e, ex, _⟩ := I.hok p _ hk
      refine ⟨⟨o, e, ex.1⟩, fun a e2 => ?_⟩
      cases e2
      exact ⟨o, e, ex.2.1⟩
  | _ => exact False.elim ty
def tBM (K : PySem.W.Frag) (T : String) (r : V → List V → Hp → VK → Prop) (to : TE) (t : TA) : TE := fun σ H Q => to σ H fun x H1 => tyV K T x H1 ∧ t σ H1 fun xs H2 => r x xs H2 Q
variable {o e : Expr} {es : List Expr} {to : TE} {t : TA} {name : Str} {apos cpos : Pos} {T id : String} {r : V → List V → Hp → VK → Prop}
theorem pe_bm (pa : PlainAttrs T) (slot : Slot T name id) (hty : typeOf (.builtin id) = pure (.type "method_descriptor")) (hm : MtR X id r) (ho : PE X o to) (ha : PA X (e :: es) t)
    (hbase : attributeBase o name X.env (eval o X.env) = eval o X.env := by rfl)
    (hfew : ((backTo cpos (starEach (e :: es) X.env)).all (fun x => !x.1) && (backToKw cpos (keywordEach [] X.env)).all (fun x => x.1.isSome)
      && decide ((e :: es).length + ([] : List Keyword).length + (if ([] : List Keyword).isEmpty then 0 else 1) < 30)) = true := by rfl)
    (hline : (apos.endLine == cpos.line) = true := by rfl) (hs : starEach (e :: es) X.env = (false, eval e X.env) :: starEach es X.env := by rfl) (hplain : (backTo cpos (starEach es X.env)).any (·.1) = false := by rfl) :
    PE X (.Call (.Attribute o name apos) (e :: es) [] cpos) (tBM X.K T r to t) := by
  intro pins s σ H Q I h
  refine wpAny_Call_method_late hbase hfew hline rfl (thn (ho pins s σ H _ I h) fun v s1 ⟨x, H1, I1, r1, ty, q1⟩ => ?_)
  obtain ⟨h1, h2⟩ := tyV_is I1 r1 ty
  refine ⟨T, id, pa, slot, hty, h1, h2, ?_⟩
  have hA := ha cpos pins s1 σ H1 _ I1 q1
  rw [hs] at hA ⊢
  refine Calls.callWith_builtin (by show (false || (backTo cpos (starEach es X.env)).any (·.1)) = false; rw [hplain] <;> rfl) (Calls.evalArgs_plain ?_)
  exact thn hA fun us s2 ⟨vs, H2, I2, r2, q2⟩ => hm pins s2 σ H2 x vs v us Q I2 r1 r2 q2
/- xs.append(e), list.index on a module's tuple .. are MtR facts of 06m -/
end
end L2

namespace L2
open PySem PySem.Spec PyProof.Rows

def MtM (X : Cx) (id : String) (r : V → List V → Hp → VK → Prop) : Prop :=
  ∀ (pins : List (Addr × Obj)) (s : Shared) (σ : St) (H : Hp) (x : V) (xs : List V) (v : Value) (us : List Value) (Q : VK), Inv X pins σ H s → RelV x v → Vals xs us → r x xs H Q →
    wpAny (model X.prog X.w) X.A (call (.builtin id) (v :: us)) (EP X pins σ Q) X.xe s

/-! ### lists of values -/
theorem Vals.one : ∀ {x : V} {us : List Value}, Vals [x] us → ∃ u, us = [u] ∧ RelV x u
  | _, _, .cons r .nil => ⟨_, rfl, r⟩
theorem Vals.two : ∀ {x y : V} {us : List Value}, Vals [x, y] us → ∃ u v, us = [u, v] ∧ RelV x u ∧ RelV y v
  | _, _, _, .cons r (.cons q .nil) => ⟨_, _, rfl, r, q⟩
theorem Vals.zero : ∀ {us : List Value}, Vals [] us → us = []
  | _, .nil => rfl
theorem Vals.dropLast {xs : List V} {us : List Value} (h : Vals xs us) : Vals xs.dropLast us.dropLast := by
  induction h with
  | nil => exact .nil
  | cons r t ih =>
    cases t with
    | nil => exact .nil
    | cons q t' => exact .cons r ih
theorem Vals.reverse {xs : List V} {us : List Value} (h : Vals xs us) : Vals xs.reverse us.reverse := by
  induction h with
  | nil => exact .nil
  | cons r t ih => rw [List.reverse_cons, List.reverse_cons]; exact Vals.append ih (.cons r .nil)
section
variable {X : Cx} {pins : List (Addr × Obj)} {σ : St} {H : Hp} {s : Shared} {l b : Addr} {xs ys zs : List V}

/-! ### the two steps: a tracked list is rewritten, a new list is laid -/
theorem Inv.lset {its its' : List Value} {n : Nat} {f : Array Value → Array Value} {t' : Nat} (I : Inv X pins σ H s) (hH : H l = some (.lst xs))
    (e : s.heap.get? l = some { cls := .type "list", data := .seq its.toArray n }) (hf : f its.toArray = its'.toArray) (hv : Vals ys its') (hz : ys.length ≤ sizeLine) :
    Inv X pins σ (upd H l (.lst ys)) { s with heap := s.heap.update l (Obj.mapSeq f), toks := t' } := by
  have q := PySem.IsL.update e f
  rw [hf] at q
  refine I.write (x := l) (e := l) (by rw [hH]; exact trivial) (.inl rfl) (fun b' u hb hu => (Heap.get?_update_other s.heap (Obj.mapSeq f) (Ne.symm hb)).trans hu) ⟨_, q⟩ ?_
  exact ⟨hz, its', _, hv, q⟩
theorem Inv.lnew {its : List Value} {t' : Nat} (I : Inv X pins σ H s) (hv : Vals ys its) (hz : ys.length ≤ sizeLine) :
    Inv X pins σ (upd H s.heap.objs.size (.lst ys)) { s with heap := s.heap.push { cls := .type "list", data := .seq its.toArray }, toks := t' } :=
  I.laid (fun _ _ q => Heap.get?_push_of_some _ q) (Nat.le_refl _) ⟨hz, its, 0, hv, Heap.get?_push_size _ rfl⟩
theorem Inv.fresh (I : Inv X pins σ H s) : H s.heap.objs.size = none := I.hok.fresh (Nat.le_refl _)
theorem Inv.lstM (I : Inv X pins σ H s) (hH : H l = some (.lst xs)) : xs.length ≤ sizeLine ∧ ∃ (its : List Value) (n : Nat), Vals xs its ∧ xs.length = its.length ∧ s.heap.get? l = some { cls := .type "list", data := .seq its.toArray n } := by
  obtain ⟨z, its, n, r, e⟩ := I.hok l _ hH
  exact ⟨z, its, n, r, r.length, e⟩

end

section
variable {X : Cx}

/-! ### methods -/
def rAppend : V → List V → Hp → VK → Prop := fun x vs H Q => ∃ l xs y, x = .ref l ∧ vs = [y] ∧ H l = some (.lst xs) ∧ xs.length < sizeLine ∧ Q .non (upd H l (.lst (xs ++ [y])))
theorem mt_append : MtM X "list.append" rAppend := by
  intro pins s σ H x vs v us Q I rx rv h
  obtain ⟨l, xs, y, rfl, rfl, hH, hz, q⟩ := h
  cases rx
  obtain ⟨u, rfl, ru⟩ := rv.one
  obtain ⟨z, its, n, r, hl, e⟩ := I.lstM hH
  refine call_meets F.slot_list_append ⟨_, e, rfl⟩ F.entry_list_append (F.args_list_append_2 _ _) (PySem.list_append l its.toArray n u (by rw [List.size_toArray]; omega)) ⟨e, ?_⟩
  refine ⟨.non, _, I.lset (its' := its ++ [u]) hH e (by simp) (r.append (.cons ru .nil)) ?_, rfl, q⟩
  rw [List.length_append, List.length_singleton]
  omega

/-! ### list + list, list += list, list * int -/
def rCat : R2 := fun x y H Q => ∃ l b xs zs, x = .ref l ∧ y = .ref b ∧ H l = some (.lst xs) ∧ H b = some (.lst zs) ∧ xs.length + zs.length ≤ sizeLine ∧ ∀ p, H p = none → Q (.ref p) (upd H p (.lst (xs ++ zs)))
theorem op_cat : OpR X (binaryOp .Add) rCat := by
  intro pins s σ H x y v u Q I rx ry h
  obtain ⟨l, b, xs, zs, rfl, rfl, hH, hB, hz, q⟩ := h
  cases rx
  cases ry
  obtain ⟨z, its, n, r, hl, e⟩ := I.lstM hH
  obtain ⟨z2, its2, n2, r2, hl2, e2⟩ := I.lstM hB
  refine PySem.P.add_list e e2 ?_ (by rw [List.size_toArray, List.size_toArray]; omega)
  have ea : its.toArray ++ its2.toArray = (its ++ its2).toArray := by simp
  rw [ea]
  exact ⟨.ref _, _, I.lnew (t' := s.toks) (r.append r2) (by rw [List.length_append]; omega), rfl, q _ I.fresh⟩
/-! ### del xs[i] -/
end

/-! ### xs[a:b] = ys -/
section
variable {prog : Program} {w : World} {A : Around} {E : Value → Shared → Prop} {s : Shared}
end

section
variable {X : Cx}
end
end L2

namespace Att
open PySem PySem.W PySem.Calls PyProof.Rows

/-! ### the script -/
theorem ints_of_wellAll {P : Params} {h : Heap} : ∀ (ns : List Int) (vs : List Value), WellAll P h vs (ns.map WData.int) → IntsAre vs ns := by
  intro ns
  induction ns with
  | nil =>
    intro vs w
    rw [List.map_nil] at w
    cases w
    exact .nil
  | cons n ns ih =>
    intro vs w
    rw [List.map_cons] at w
    cases w with
    | cons a b =>
      cases a
      exact .cons _ _ (ih _ b)

theorem script_of {l : OpenLaw} {n : Nat} (hn : l.most = some n) {P : Params} {h : Heap} {args : List WData} {vals : List Value}
    (hpre : l.row.toRowW.claim.pre args = true) (hwl : WellAll P h vals args) :
    ∃ a vs ns, vals = [Value.ref a] ∧ args = [WData.list (ns.map WData.int)] ∧ h.get? a = some { cls := .type "list", data := .seq vs.toArray } ∧ IntsAre vs ns ∧ ns.length ≤ n := by
  have hsh : WShape.hasAll [] args [.list .int] = true := (pre_splitW hpre).1
  have hc : l.pre.holds [] { args := args } = true := (pre_splitW hpre).2
  obtain ⟨d, r, rfl, h1, h2⟩ := hasAllW_cons hsh
  obtain rfl := hasAllW_nil h2
  obtain ⟨xs, rfl, h3⟩ := hasW_list h1
  obtain ⟨ns, rfl⟩ := items_int h3
  have hlen : ns.length ≤ n := by
    unfold OpenLaw.pre at hc
    have h4 : (WTm.not (.lt (.lit (.int (n : Int))) (.len (.arg 0)))).holds [] { args := [.list (ns.map .int)] } = true := by
      have h4 := (holds_andW hc).1
      rw [hn] at h4
      exact h4
    have h5 := condW_of h4 (w_not (w_lt w_lit (w_len_list (w_arg rfl))))
    rw [List.length_map] at h5
    refine Nat.le_of_not_lt fun q => ?_
    have q' : (n : Int) < ((ns.length : Nat) : Int) := by omega
    first
      | (rw [decide_eq_true q'] at h5; exact absurd h5 (by decide))
      | (simp at h5; omega)
  cases hwl with
  | cons w1 w2 =>
    cases w2
    cases w1 with
    | list ho hall => exact ⟨_, _, ns, rfl, rfl, ho, ints_of_wellAll ns _ hall, hlen⟩

theorem post_true (l : OpenLaw) (args : List WData) : l.row.toRowW.claim.post args (.bool true) args = true :=
  postW_of (r := l.row.toRowW) (X := (true == true))
    (show WShape.has [] (.bool true) .bool = true by first | rfl | decide | simp [WShape.has, WShape.arms, WShape.armsAll])
    (show (WTm.eq .res (.lit (.bool true))).value [] { args := args, res := some (.bool true), after := args } = some (.bool (true == true)) from w_eq_bool (w_res rfl) w_lit) rfl

/-! ### the attachment: holds_open's last premise (the goal 'hc' behind k_head) from a wpAny of the law's body -/
/-! ### rules over ANY heap (no ledger) from facts about the written part K: the library's own take a ledger (News) for what they write -/
section
variable {prog : Program} {w : World} {A : Around} {E : Value → Shared → Prop} {s : Shared} {K : Frag}

/-! the whole heap as the ledger: makes every rule that writes through a ledger a rule over any heap -/
end
end Att

namespace L2
open PySem PySem.Spec PyProof.Rows

theorem vals_ints : ∀ {vs : List Value} {ns : List Int}, IntsAre vs ns → Vals (ns.map V.int) vs
  | _, _, .nil => .nil
  | _, _, .cons n t h => .cons ⟨t, rfl⟩ (vals_ints h)

/-- nothing is tracked but the script, known to the object (or it is an object of the module) -/
def Only (H : Hp) : Prop := ∀ b, H b = none ∨ ∃ o xs, H b = some (.frz o (.lst xs))

/-- THE HEAD: the law's promise, at the heap behind the top. F, the promise of the law's def, may use that base is part of the heap (so K.In base, base.Ns mainGlobals mg stand in Mod) -/
theorem law_call {P : Program} {w : World} {K : PySem.W.Frag} {mg mb : Str → Option Value} {CX : CXT} {k : Nat} {fa a : Addr} {fd : FuncData} {x : Str} {sp : Sp} {s₁ : Shared} {vs : List Value} {ns : List Int}
    (KX : K.In s₁.heap) (hns : s₁.heap.Ns mainGlobals mg) (hb : s₁.heap.Ns builtinsNs mb) (hbb : ∀ x : Str, x ≠ "__name__" → mb x = bootBuiltins x) (hlim : s₁.heap.NoLimit) (hg : s₁.gens = #[])
    (ha : s₁.heap.get? a = some { cls := .type "list", data := .seq vs.toArray }) (hi : IntsAre vs ns) (hl : ns.length ≤ sizeLine) (hr : Room k callerA)
    (F : ∀ base : Heap, K.In base → base.Ns mainGlobals mg → FnOk P w K mg base CX k fa fd [x] sp) (hbind : ∀ (s : Shared) (u : Value), BindsTo s fd ⟨[u], []⟩ [(x, u)])
    (hsp : ∀ H : Hp, Only H → SqL K H a (ns.map V.int) → sp [.ref a] H (fun v _ => v = .bl true) fun _ _ _ => False)
    (hCX : ∀ H e s', CX [] H s₁ (fun _ _ _ => False) e s' → False) :
    codeAny (model P w) callerA (.call (.ref fa) ⟨[.ref a], []⟩) (fun r s' => r = .ok (.ret (.bool true)) ∧ OldK s₁.heap s'.heap ∧ s'.os = s₁.os ∧ AllBare s'.gens) s₁ := by
  have rv := vals_ints hi
  have lenV := hi.length
  -- from an abstract heap in which nothing but the script may be tracked
  have core : ∀ H : Hp, Only H → SqL K H a (ns.map V.int) → HOk P w H s₁.heap → (∀ b, H b ≠ none → b = a) → (H a ≠ none → K.lookup a = none) →
      codeAny (model P w) callerA (.call (.ref fa) ⟨[.ref a], []⟩) (fun r s' => r = .ok (.ret (.bool true)) ∧ OldK s₁.heap s'.heap ∧ s'.os = s₁.os ∧ AllBare s'.gens) s₁ := by
    intro H hO hS hok hA hK
    have base_of : ∀ {b : Addr} {o : Obj}, s₁.heap.get? b = some o → H b = none → (hidT s₁.heap H).get? b = some o := fun e n => hidT_get e n
    have noA : ∀ {b : Addr} {o : Obj} {es : Array DictEntry} {ep : Nat}, s₁.heap.get? b = some o → o.data = .dict es ep → H b = none := fun {b o es ep} e d => by
      cases q : H b with
      | none => rfl
      | some u =>
        have e' : b = a := hA b (by rw [q]; simp)
        subst e'
        rw [ha] at e; cases e
        have d' : Data.seq vs.toArray _ = Data.dict es ep := d
        cases d'
    have nsK : ∀ {b : Addr} {m : Str → Option Value}, s₁.heap.Ns b m → (hidT s₁.heap H).Ns b m := fun {b m} ⟨o, es, ep, e, d, r⟩ => ⟨o, es, ep, base_of e (noA e d), d, r⟩
    have hKb : K.In (hidT s₁.heap H) := fun b o e => base_of (KX b o e) (by
      cases q : H b with
      | none => rfl
      | some u =>
        have e' : b = a := hA b (by rw [q]; simp)
        subst e'
        rw [hK (by rw [q]; simp)] at e; cases e)
    have hM : Mod K mg (hidT s₁.heap H) := ⟨hKb, nsK hns, ⟨mb, nsK hb, hbb⟩, let ⟨mc, h1, h2⟩ := hlim; ⟨mc, nsK h1, h2⟩⟩
    have e0 : Env0 P w K mg (hidT s₁.heap H) callerA [] s₁ H := ⟨rfl, hM, fun b o e => of_hidT e, Nat.le_of_eq (hidT_size _ _), trivial, fun b hb => absurd (show b ∈ ([] : List Addr) from hb) (by simp), hok, .of_eq hg⟩
    refine codeAny_mono ((F _ hKb (nsK hns)).run callerA [] s₁ H ⟨[.ref a], []⟩ [.ref a] [.ref a] _ _ hr e0 (hbind s₁ (.ref a)) (.cons rfl .nil) (hsp H hO hS)) fun r s' h => ?_
    cases r with
    | error e => exact (hCX H e s' h).elim
    | ok fl =>
      cases fl with
      | next => exact False.elim h
      | brk => exact False.elim h
      | cont => exact False.elim h
      | ret u =>
        obtain ⟨v, H', os, bare, un, hok', r', q⟩ := h
        have q' : v = .bl true := q
        subst q'
        obtain rfl : u = Value.bool true := r'
        refine ⟨rfl, OldK.of_keep fun b o e => ?_, os, bare⟩
        cases q : H b with
        | none => exact un.keep b o e q (by intro z; exact absurd (show b ∈ ([] : List Addr) from z) (by simp)) (by simp)
        | some u =>
          rcases hO b with z | ⟨ob, xs, z⟩
          · rw [q] at z; cases z
          · have z2 := un.frzs b ob _ z
            obtain ⟨e1, _⟩ := hok b _ z
            obtain ⟨e2, _⟩ := hok' b _ z2
            rw [e] at e1; cases e1
            exact e2
  cases hk : K.lookup a with
  | some o =>
    -- the script is one of the module's own objects
    have e := KX a o hk
    rw [ha] at e
    cases e
    refine core (fun _ => none) (fun _ => .inl rfl) (.inr ⟨_, vs.toArray, _, hk, rfl, rfl, rfl, by rw [List.size_toArray, lenV]; exact hl, by simpa using rv⟩) (fun b u z => by have z' : (none : Option HO) = some u := z; cases z') (fun b z => absurd rfl z) fun z => absurd rfl z
  | none =>
    refine core (fun b => if b = a then some (.frz { cls := .type "list", data := .seq vs.toArray } (.lst (ns.map V.int))) else none) (fun b => ?_) (.inl (.inr ⟨{ cls := .type "list", data := .seq vs.toArray }, if_pos rfl⟩)) (fun b u z => ?_) (fun b z => ?_) fun _ => hk
    · by_cases hb : b = a
      · exact .inr ⟨_, _, if_pos hb⟩
      · exact .inl (if_neg hb)
    · by_cases hb : b = a
      · have z' := (if_pos hb).symm.trans z
        cases z'
        subst hb
        exact ⟨ha, by rw [List.length_map]; exact hl, vs, _, rv, ha⟩
      · have z' := (if_neg hb).symm.trans z
        cases z'
    · by_cases hb : b = a
      · exact hb
      · exact absurd (if_neg hb) z
end L2

namespace L2
open PySem PySem.Spec PyProof.Rows

abbrev KOf {K : PySem.W.Frag} {h : Heap} (_ : K.In h) : PySem.W.Frag := K

end L2


/-! SHORT WORDS over the layer: a def of the text, its body, what a loop and a test want. -/
namespace L2
open PySem PySem.Spec PyProof.Rows

/-! ### the text by places -/
def defArgs (s : Stmt) : Arguments := match s with
  | .FunctionDef _ a _ _ _ _ _ _ _ _ => a
  | _ => { posonlyargs := [], args := [], vararg := none, kwonlyargs := [], kw_defaults := [], kwarg := none, defaults := [] }
def defBody (s : Stmt) : List Stmt := match s with
  | .FunctionDef _ _ b _ _ _ _ _ _ _ => b
  | _ => []
def defScope (s : Stmt) : Scope := match s with
  | .FunctionDef _ _ _ _ _ _ sc _ _ _ => sc
  | _ => { kind := .function, names := [], isGenerator := false, isCoroutine := false }

/-! ### no exception leaves a def -/
abbrev CX0 : CXT := fun _ _ _ _ _ _ => False
abbrev E0 : XK := fun _ _ _ => False
theorem pass0 {X : Cx} : Passes CX0 X E0 := fun _ _ _ _ _ _ _ h => h.elim

/-! ### a def (or method) of the text as it stands behind the top -/
structure Fun (K : PySem.W.Frag) (x qual : Str) (st : Stmt) (f : Addr) (fd : FuncData) : Prop where
  ex : ∃ (oc : Value) (od : Option Addr) (kV doc pm : Value) (an : Option Addr) (cdv ct : Value) (osl : Array (Option Value)),
    fd = PySem.W.fnOf x qual (defArgs st) (defBody st) (defScope st) .none kV doc pm an cdv ct ∧ K.lookup f = some ⟨oc, od, .func fd, osl⟩ ∧ PySem.W.codeIn K cdv qual = true
  kp : PySem.W.keepIn K (.ref f) = true
section
variable {P : Program} {w : World} {K : PySem.W.Frag} {mg : Str → Option Value} {base : Heap}
/-- THE RULE for a def: its body as a term of rules, and the reading of that term -/
theorem Fun.ok {x qual : Str} {st : Stmt} {f : Addr} {fd : FuncData} {N ps : List Str} {k : Nat} {sp : Sp} (F : Fun K x qual st f fd) (S : FnScope N ps (defScope st)) (len : ∀ vs H Q E, sp vs H Q E → vs.length = ps.length)
    (hbody : ∀ (cdv : Value) (A : Around) (outer : List Env) (s : Shared) (H : Hp) (vs : List V) (Q : VK) (E : XK), Room k (A.deeper (envOfC qual (defScope st) s.heap.objs.size f cdv)) → sp vs H Q E →
      ∃ t, PSs (cxOf CX0 P w K mg base N qual (defScope st) f cdv A outer s H E).nox (defBody st) t ∧ t { nx := fun _ H' => Q .non H', rt := Q } (start N vs) H) : FnOk P w K mg base CX0 (k + 1) f fd ps sp := by
  obtain ⟨oc, od, kV, doc, pm, an, cdv, ct, osl, rfl, lk, hcd⟩ := F.ex
  refine fn_of lk hcd S len fun A outer s H vs Q E hr hsp => ?_
  obtain ⟨t, h, q⟩ := hbody cdv A outer s H vs Q E hr hsp
  exact ⟨t, h.nox, q⟩
/-- how its arguments bind (no defaults): h is «fun _ _ _ _ _ _ us hl => match us, hl with | [_, _], _ => rfl», one _ a parameter -/
theorem Fun.binds {x qual : Str} {st : Stmt} {f : Addr} {fd : FuncData} {ps : List Str} (F : Fun K x qual st f fd)
    (h : ∀ (kV doc pm : Value) (an : Option Addr) (cdv ct : Value) (us : List Value), us.length = ps.length → bindArgs (PySem.W.fnOf x qual (defArgs st) (defBody st) (defScope st) .none kV doc pm an cdv ct) ⟨us, []⟩ = pure (ps.zip us)) : Binds K fd ps [] := by
  obtain ⟨oc, od, kV, doc, pm, an, cdv, ct, osl, rfl, lk, hcd⟩ := F.ex
  exact .all (h kV doc pm an cdv ct)
theorem fun_mk {x qual : Str} {st : Stmt} {f : Addr} {oc : Value} {od an : Option Addr} {osl : Array (Option Value)} {kV doc pm cdv ct : Value} (l : K.lookup f = some ⟨oc, od, .func (PySem.W.fnOf x qual (defArgs st) (defBody st) (defScope st) .none kV doc pm an cdv ct), osl⟩)
    (c : PySem.W.codeIn K cdv qual = true) (k : PySem.W.keepIn K (.ref f) = true) : Fun K x qual st f (PySem.W.fnOf x qual (defArgs st) (defBody st) (defScope st) .none kV doc pm an cdv ct) := ⟨⟨oc, od, kV, doc, pm, an, cdv, ct, osl, rfl, l, c⟩, k⟩
end
/-! ### expressions in short: the name that stands in the i-th slot -/
section
variable {X : Cx}
theorem pv (i : Nat) {x : Str} {pos : Pos} (hN : X.N[i]? = some x := by rfl) (hv : Vis X.env.scope x := by first | exact Or.inl rfl | exact Or.inr (Or.inl rfl) | exact Or.inr (Or.inr rfl)) (hd : (x == ("__debug__" : Str)) = false := by decide)
    (hcd : (x == ("__classdict__" : Str)) = false := by decide) : PE X (.Name x pos) (tVar i) := pe_var hN hv hd hcd
end

/-! ### tests -/
theorem iteF {A B : Prop} (h : B) : if false = true then A else B := by
  rw [if_neg Bool.false_ne_true]
  exact h
theorem iteT {A B : Prop} (h : A) : if true = true then A else B := by
  rw [if_pos rfl]
  exact h
theorem ite2 {c A B : Prop} [Decidable c] (h1 : c → A) (h2 : ¬ c → B) : if c then A else B := by
  by_cases h : c
  · rw [if_pos h]
    exact h1 h
  · rw [if_neg h]
    exact h2 h
/-! ### heaps -/
/-- all that was tracked is as it was -/
def Same (H H' : Hp) : Prop := ∀ b o, H b = some o → H' b = some o
theorem Same.refl (H : Hp) : Same H H := fun _ _ h => h
theorem Same.trans {H H1 H2 : Hp} (a : Same H H1) (b : Same H1 H2) : Same H H2 := fun c o h => b c o (a c o h)
theorem Same.free {H H' : Hp} (e : Same H H') {l : Addr} (h : H' l = Option.none) : H l = Option.none := by
  cases q : H l with
  | none => rfl
  | some o =>
    rw [e l o q] at h
    cases h
theorem Same.seq {K : PySem.W.Frag} {H H' : Hp} {a : Addr} {xs : List V} (e : Same H H') (h : SqL K H a xs) : SqL K H' a xs := by
  rcases h with (h | ⟨o, h⟩) | h
  · exact .inl (.inl (e _ _ h))
  · exact .inl (.inr ⟨o, e _ _ h⟩)
  · exact .inr h

end L2
namespace L2
open PySem PySem.Spec PyProof.Rows

/-! ### lists of pairs as tables -/
section
variable {κ : Type} [DecidableEq κ]
def valV (kvs : List (κ × V)) (k : κ) : Option V := (kvs.find? fun kv => decide (kv.1 = k)).map (·.2)
/-- in its place, or at the end -/
def putK (kvs : List (κ × V)) (k : κ) (v : V) : List (κ × V) :=
  if (kvs.any fun kv => decide (kv.1 = k)) = true then kvs.map (fun kv => if kv.1 = k then (kv.1, v) else kv) else kvs ++ [(k, v)]
def dropK (kvs : List (κ × V)) (k : κ) : List (κ × V) := kvs.filter fun kv => decide (kv.1 ≠ k)

theorem valV_pos {p : κ × V} {r : List (κ × V)} {k : κ} (e : p.1 = k) : valV (p :: r) k = some p.2 := by simp [valV, List.find?_cons, e]
theorem valV_neg {p : κ × V} {r : List (κ × V)} {k : κ} (e : ¬ p.1 = k) : valV (p :: r) k = valV r k := by simp [valV, List.find?_cons, e]
theorem RelO.getD {o : Option V} {u : Option Value} {d : V} {d' : Value} (r : RelO o u) (rd : RelV d d') : RelV (o.getD d) (u.getD d') := by
  cases o with
  | none => cases u with
    | none => exact rd
    | some _ => exact (show False from r).elim
  | some _ => cases u with
    | none => exact (show False from r).elim
    | some _ => exact r

/-- raw tables of the same keys -/
theorem KV.val {kvs : List (κ × V)} {vs : List (κ × Value)} (r : KV kvs vs) (k : κ) : RelO (valV kvs k) (valueAt vs k) := by
  unfold KV at r
  induction r with
  | nil => exact True.intro
  | @cons p q ps qs h t ih =>
    obtain ⟨h1, h2⟩ := h
    by_cases e : p.1 = k
    · have e' : q.1 = k := h1.symm.trans e
      have b : valueAt (q :: qs) k = some q.2 := by simp [valueAt, List.find?_cons, e']
      rw [valV_pos e, b]; exact h2
    · have e' : ¬ q.1 = k := fun z => e (h1.trans z)
      have b : valueAt (q :: qs) k = valueAt qs k := by simp [valueAt, List.find?_cons, e']
      rw [valV_neg e, b]; exact ih
theorem KV.any {kvs : List (κ × V)} {vs : List (κ × Value)} (r : KV kvs vs) (k : κ) : (kvs.any fun kv => decide (kv.1 = k)) = vs.any fun kv => decide (kv.1 = k) := by
  unfold KV at r
  induction r with
  | nil => rfl
  | cons h t ih => rw [List.any_cons, List.any_cons, ih, h.1]
theorem KV.drop {kvs : List (κ × V)} {vs : List (κ × Value)} (r : KV kvs vs) (k : κ) : KV (dropK kvs k) (without vs k) := by
  unfold KV at r ⊢
  unfold dropK without
  induction r with
  | nil => exact .nil
  | @cons p q ps qs h t ih =>
    obtain ⟨h1, h2⟩ := h
    rw [List.filter_cons, List.filter_cons]
    by_cases e : p.1 = k
    · have a : ¬ decide (p.1 ≠ k) = true := by simp [e]
      have b : ¬ decide (q.1 ≠ k) = true := by simp [h1.symm.trans e]
      rw [if_neg a, if_neg b]; exact ih
    · have e' : ¬ q.1 = k := fun z => e (h1.trans z)
      have a : decide (p.1 ≠ k) = true := by simp [e]
      have b : decide (q.1 ≠ k) = true := by simp [e']
      rw [if_pos a, if_pos b]; exact .cons ⟨h1, h2⟩ ih
theorem KV.keys {kvs : List (κ × V)} {vs : List (κ × Value)} (r : KV kvs vs) : kvs.map (·.1) = vs.map (·.1) := by
  unfold KV at r
  induction r with
  | nil => rfl
  | cons h t ih => rw [List.map_cons, List.map_cons, ih, h.1]
theorem KV.length {kvs : List (κ × V)} {vs : List (κ × Value)} (r : KV kvs vs) : kvs.length = vs.length := Paired.length r
end


/-! ### a tracked dict, its keys ints and texts or tuples of these -/
/-- raw entries of a dict with tuple keys -/
abbrev KT (H : Hp) : List (List Key × V) → List (List Key × Addr × Value) → Prop := Paired fun p q => p.1 = q.1 ∧ H q.2.1 = some (.tup (p.1.map kV)) ∧ RelV p.2 q.2.2
theorem KT.val {H : Hp} {kvs : List (List Key × V)} {xs : List (List Key × Addr × Value)} (r : KT H kvs xs) (k : List Key) : RelO (valV kvs k) ((atKey xs k).map (·.2)) := by
  induction r with
  | nil => exact True.intro
  | @cons p q ps qs h t ih =>
    obtain ⟨h1, _, h2⟩ := h
    by_cases e : p.1 = k
    · have e' : q.1 = k := h1.symm.trans e
      have b : atKey (q :: qs) k = some q.2 := by simp [atKey, List.find?_cons, e']
      rw [valV_pos e, b]; exact h2
    · have e' : ¬ q.1 = k := fun z => e (h1.trans z)
      have b : atKey (q :: qs) k = atKey qs k := by simp [atKey, List.find?_cons, e']
      rw [valV_neg e, b]; exact ih
theorem KT.keeps {H H' : Hp} {kvs : List (List Key × V)} {xs : List (List Key × Addr × Value)} (r : KT H kvs xs) (ht : ∀ b ys, H b = some (.tup ys) → H' b = some (.tup ys)) : KT H' kvs xs :=
  Paired.mapP r fun _ _ z => ⟨z.1, ht _ _ z.2.1, z.2.2⟩

section
variable {P : Program} {w : World} {H : Hp} {h : Heap} {a : Addr}
end

/-- what the dict at a holds at the key y -/
def DGet (H : Hp) (a : Addr) (y : V) (r : Option V) : Prop :=
  (∃ kvs k, Rd H a (.dK kvs) ∧ y = kV k ∧ r = valV kvs k) ∨ ∃ kvs k b, Rd H a (.dT kvs) ∧ y = .ref b ∧ H b = some (.tup (k.map kV)) ∧ r = valV kvs k
/-- the heap behind a[y] = v -/
def DPut (H : Hp) (a : Addr) (y v : V) (H' : Hp) : Prop :=
  (∃ kvs k, H a = some (.dK kvs) ∧ y = kV k ∧ kvs.length < sizeLine ∧ H' = upd H a (.dK (putK kvs k v))) ∨
  ∃ kvs k b, H a = some (.dT kvs) ∧ y = .ref b ∧ H b = some (.tup (k.map kV)) ∧ kvs.length < sizeLine ∧ H' = upd H a (.dT (putK kvs k v))
theorem DGet.k {H : Hp} {a : Addr} {kvs : List (Key × V)} {k : Key} (e : H a = some (.dK kvs)) : DGet H a (kV k) (valV kvs k) := .inl ⟨kvs, k, .inl e, rfl, rfl⟩
theorem DGet.t {H : Hp} {a b : Addr} {kvs : List (List Key × V)} {k : List Key} (e : H a = some (.dT kvs)) (eb : H b = some (.tup (k.map kV))) : DGet H a (.ref b) (valV kvs k) := .inr ⟨kvs, k, b, .inl e, rfl, eb, rfl⟩
theorem DPut.k {H : Hp} {a : Addr} {kvs : List (Key × V)} {k : Key} {v : V} (e : H a = some (.dK kvs)) (hl : kvs.length < sizeLine) : DPut H a (kV k) v (upd H a (.dK (putK kvs k v))) := .inl ⟨kvs, k, e, rfl, hl, rfl⟩
theorem DPut.t {H : Hp} {a b : Addr} {kvs : List (List Key × V)} {k : List Key} {v : V} (e : H a = some (.dT kvs)) (eb : H b = some (.tup (k.map kV))) (hl : kvs.length < sizeLine) :
    DPut H a (.ref b) v (upd H a (.dT (putK kvs k v))) := .inr ⟨kvs, k, b, e, rfl, eb, hl, rfl⟩


section
variable {X : Cx} {pins : List (Addr × Obj)} {σ : St} {H : Hp} {s : Shared} {a : Addr} {y v : V} {u r : Value} {o : Option V} {A : Around} {E : Value → Shared → Prop}

theorem Inv.big (I : Inv X pins σ H s) : sysModules < s.heap.objs.size := by
  have h : mainGlobals < s.heap.objs.size := (I.mod.glob.keeps I.bk).lt
  exact Nat.lt_trans (by decide) h

end

section
variable {X : Cx} {pins : List (Addr × Obj)} {σ : St} {H : Hp} {s : Shared} {a : Addr} {kvs : List (Key × V)} {k : Key} {u : Value} {A : Around} {E : Value → Shared → Prop}
end


/-! ### readings and rules -/
section
variable {X : Cx} {o i e value : Expr} {pos pos' tpos : Pos} {td ty tv : TE}
end


/-! ### displays -/
theorem dk_empty {P : Program} {w : World} {H : Hp} (h : Heap) (hb : sysModules < h.objs.size) : ObjOk P w H (h.push { cls := .type "dict", data := .dict #[] }) h.objs.size (.dK []) :=
  ⟨Nat.zero_le _, beq_eq_false_iff_ne.mpr (Ne.symm (Nat.ne_of_lt hb)), [], .nil, Heap.DictOf.new h⟩
/-- {}, to be a dict of the kind that is wanted -/
def tDNewK : TE := fun _ H Q => ∀ p, H p = none → Q (.ref p) (upd H p (.dK []))
section
variable {X : Cx} {pos : Pos}
theorem pe_dnewK : PE X (.Dict [] [] pos) tDNewK := fun pins s σ H Q I h =>
  wpAny_Dict_empty ⟨.ref s.heap.objs.size, _, I.laid (a := s.heap.objs.size) (o := .dK []) (t' := s.toks) (fun _ _ q => Heap.get?_push_of_some _ q) (Nat.le_refl _) (dk_empty s.heap I.big), rfl, h _ (I.hok.fresh (Nat.le_refl _))⟩
end

/-- the pairs of a display, from the left -/
def tPairs : List (TE × TE) → St → Hp → (List (V × V) → Hp → Prop) → Prop
  | [], _, H, Q => Q [] H
  | (tk, tv) :: r, σ, H, Q => tk σ H fun x H1 => tv σ H1 fun y H2 => tPairs r σ H2 fun ps H3 => Q ((x, y) :: ps) H3
abbrev VV : List (V × V) → List (Value × Value) → Prop := Paired fun p q => RelV p.1 q.1 ∧ RelV p.2 q.2
def PPs (X : Cx) (pos : Pos) (keys : List (Option Expr)) (values : List Expr) (trs : List (TE × TE)) : Prop :=
  ∀ (pins : List (Addr × Obj)) (s : Shared) (σ : St) (H : Hp) (Q : List (V × V) → Hp → Prop), Inv X pins σ H s → tPairs trs σ H Q →
    wpAny (model X.prog X.w) X.A (evalPairs (pairTrees keys values X.env pos)) (fun vs s' => ∃ ps H', Inv X pins σ H' s' ∧ VV ps vs ∧ Q ps H') X.xe s
/-! ### methods -/
/-- a method call o.m(e) of a built-in, with one argument: what must be seen of the text -/
structure M1 (X : Cx) (o : Expr) (m : Str) (apos : Pos) (e : Expr) (cpos : Pos) : Prop where
  base : attributeBase o m X.env (eval o X.env) = eval o X.env
  few : ((backTo cpos (starEach [e] X.env)).all (fun x => !x.1) && (backToKw cpos (keywordEach [] X.env)).all (fun x => x.1.isSome)
    && decide (([e] : List Expr).length + ([] : List Keyword).length + (if ([] : List Keyword).isEmpty then 0 else 1) < 30)) = true
  line : (apos.endLine == cpos.line) = true
  trees : backTo cpos (starEach [e] X.env) = [(false, eval e X.env)]
structure M2 (X : Cx) (o : Expr) (m : Str) (apos : Pos) (e f : Expr) (cpos : Pos) : Prop where
  base : attributeBase o m X.env (eval o X.env) = eval o X.env
  few : ((backTo cpos (starEach [e, f] X.env)).all (fun x => !x.1) && (backToKw cpos (keywordEach [] X.env)).all (fun x => x.1.isSome)
    && decide (([e, f] : List Expr).length + ([] : List Keyword).length + (if ([] : List Keyword).isEmpty then 0 else 1) < 30)) = true
  line : (apos.endLine == cpos.line) = true
  trees : backTo cpos (starEach [e, f] X.env) = [(false, eval e X.env), (false, eval f X.env)]

section
variable {X : Cx} {pins : List (Addr × Obj)} {σ : St} {H : Hp} {s : Shared} {a : Addr} {y d : V} {u r : Value} {o : Option V} {A : Around} {E : Value → Shared → Prop}
end

section
variable {X : Cx} {o e f : Expr} {apos cpos : Pos} {td ty tx : TE}
end

/-! ### dict(d): a copy -/
section
variable {X : Cx} {pins : List (Addr × Obj)} {σ : St} {H : Hp} {s : Shared} {a : Addr} {kvs : List (Key × V)} {A : Around} {E : Value → Shared → Prop}
end


section
variable {X : Cx} {pins : List (Addr × Obj)} {σ : St} {H : Hp} {s : Shared} {a : Addr} {y : V} {u : Value} {A : Around} {E : Value → Shared → Prop}
end
end L2

namespace L2
open PySem PySem.Spec PyProof.Rows
section
variable {X : Cx}
end
/-! ### a dict's pairs: keys that differ -/
section
variable {κ : Type} [DecidableEq κ]
end
end L2
/-! comprehensions over the layer -/
namespace L2
open PySem PySem.Spec PyProof.Rows PySem.Calls

/-! ### the loop of a comprehension, with the step ahead of the store -/
section
variable {prog : Program} {w : World} {A : Around} {R : Result → Shared → Prop} {s : Shared}
theorem compLoop_go {elt target iter : Expr} {scope : Scope} {pos : Pos} {it acc : Value} {env : Env} (I : Nat → Shared → Prop)
    (turn : ∀ n s, I n s → wpAny (model prog w) A (pyNext it) (fun r s₁ => match r with
      | none => R (.ok .next) s₁
      | some v => wpAny (model prog w) A (letOwnedTupleGo target it v) (fun _ s₂ => wpAny (model prog w) A (assign target env v) (fun _ s₃ =>
          wpAny (model prog w) A (eval elt env) (fun x s₄ =>
            wpAny (model prog w) A (call (.builtin "list.append") [acc, x]) (fun _ s₅ => ∃ m, m < n ∧ I m s₅) (notedBy (model prog w) A env fun e s' => R (.error e) s') s₄)
            (notedBy (model prog w) A env fun e s' => R (.error e) s') s₃) (notedBy (model prog w) A env fun e s' => R (.error e) s') s₂) (notedBy (model prog w) A env fun e s' => R (.error e) s') s₁)
      (notedBy (model prog w) A env fun e s' => R (.error e) s') s)
    (n : Nat) (h : I n s) : codeAny (model prog w) A (.compLoop (.ListComp elt [⟨target, iter, [], 0⟩] scope pos) 0 it acc env) R s := by
  refine codeAny_loop rfl I (fun n s hI => ?_) n h
  show wpAny _ A ((compTurn (.ListComp elt [⟨target, iter, [], 0⟩] scope pos) 0 it acc env).onRaise (fun x => do noteFrame x env; theTreesLotGoes x)) _ _ s
  refine wpAny_noted ?_
  rw [compTurn_list1]
  refine wpAny_bind (wpAny_standAt (wpAny_bind (wpAny_mono (turn n s hI) (fun r s₁ h₁ => ?_) fun _ _ h' => h')))
  cases r with
  | none => exact wpAny_pure h₁
  | some v =>
    refine wpAny_bind (wpAny_mono h₁ (fun _ s₂ h₂ => wpAny_bind (wpAny_mono h₂ (fun _ s₃ h₃ => ?_) fun _ _ h' => h')) fun _ _ h' => h')
    exact wpAny_bind (wpAny_bind (wpAny_mono h₃ (fun x s₄ h₄ => wpAny_bind (wpAny_mono h₄ (fun _ s₅ h₅ => wpAny_pure (wpAny_pure ⟨rfl, h₅⟩)) fun _ _ h' => h')) fun _ _ h' => h'))
end

/-! ### the cells that a comprehension's block takes along -/
def clOf (env : Env) : List (Str × NameKind) → List (Str × Addr) → List (Str × Addr)
  | [], cs => cs
  | (n, k) :: r, cs => clOf env r (if k == .free then match env.cells.lookup n with | some c => (n, c) :: cs | none => cs else cs)
theorem clOf_mem {env : Env} : ∀ {ns : List (Str × NameKind)} {cs : List (Str × Addr)} {y : Str} {c : Addr}, (y, c) ∈ clOf env ns cs → (y, c) ∈ cs ∨ env.cells.lookup y = some c
  | [], _, _, _, h => .inl h
  | (n, k) :: r, cs, y, c, h => by
    unfold clOf at h
    rcases clOf_mem h with q | q
    · split at q
      · cases e : env.cells.lookup n with
        | none => rw [e] at q; exact .inl q
        | some d =>
          rw [e] at q
          rcases List.mem_cons.mp q with z | z
          · cases z; exact .inr e
          · exact .inl z
      · exact .inl q
    · exact .inr q
theorem clOf_has {env : Env} : ∀ {ns : List (Str × NameKind)} {cs : List (Str × Addr)} {y : Str}, ((∃ c, (y, c) ∈ cs) ∨ ((y, NameKind.free) ∈ ns ∧ ∃ c, env.cells.lookup y = some c)) → ∃ c, (y, c) ∈ clOf env ns cs
  | [], _, _, h => by
    rcases h with h | ⟨h, _⟩
    · exact h
    · cases h
  | (n, k) :: r, cs, y, h => by
    unfold clOf
    apply clOf_has
    rcases h with ⟨c, h⟩ | ⟨h, c, e⟩
    · left
      split
      · cases e : env.cells.lookup n with
        | none => exact ⟨c, h⟩
        | some d => exact ⟨c, List.mem_cons_of_mem _ h⟩
      · exact ⟨c, h⟩
    · rcases List.mem_cons.mp h with z | z
      · cases z
        left
        rw [e]
        exact ⟨c, by simp⟩
      · exact .inr ⟨z, c, e⟩
theorem closure_cl {env : Env} : ∀ {ns : List (Str × NameKind)} {cs : List (Str × Addr)}, (∀ y, (y, NameKind.free) ∈ ns → ∃ c, env.cells.lookup y = some c) →
    (forIn ns cs fun (x : Str × NameKind) (r : List (Str × Addr)) => (if x.2 == NameKind.free then (do let c ← cellOf env x.1; pure (ForInStep.yield ((x.1, c) :: r))) else pure (ForInStep.yield r) : Sem (ForInStep (List (Str × Addr))))) = (pure (clOf env ns cs) : Sem (List (Str × Addr)))
  | [], _, _ => rfl
  | (n, k) :: r, cs, h => by
    have ih := @closure_cl env r
    rw [List.forIn_cons]
    unfold clOf
    cases hk : k == NameKind.free with
    | false =>
      simp only [Bool.false_eq_true, if_false]
      exact ih fun y hy => h y (List.mem_cons_of_mem _ hy)
    | true =>
      have ek : k = NameKind.free := by simpa using hk
      subst ek
      obtain ⟨c, e⟩ := h n (by simp)
      have ec : cellOf env n = pure c := by unfold cellOf; rw [e]
      simp only [if_true]
      rw [ec, e]
      exact ih fun y hy => h y (List.mem_cons_of_mem _ hy)
theorem closure_eq {scope : Scope} {env : Env} (h : ∀ y, (y, NameKind.free) ∈ scope.names → ∃ c, env.cells.lookup y = some c) : closureFor scope env = pure (clOf env scope.names []) := by
  have q := closure_cl (cs := []) h
  unfold closureFor
  exact congrArg (fun m => m >>= fun r => pure r) q
end L2
namespace L2
open PySem PySem.Spec PyProof.Rows PySem.Calls

theorem lookup_relabel {env : Env} {y : Str} : ∀ {names : List (Str × NameKind)},
    (names.map fun (n, k) => if (k == NameKind.free && env.scope.kind == .function && env.kindOf n == some .cell) then (n, NameKind.cell) else (n, k)).lookup y
      = (names.lookup y).map fun k => if (k == NameKind.free && env.scope.kind == .function && env.kindOf y == some .cell) then NameKind.cell else k
  | [] => rfl
  | (n, k) :: r => by
    have ih := @lookup_relabel env y r
    by_cases hx : y = n
    · subst hx
      simp only [List.map_cons]
      split <;> rename_i hc
      · rw [List.lookup_cons, List.lookup_cons]; simp only [beq_self_eq_true, Option.map_some]; rw [if_pos hc]
      · rw [List.lookup_cons, List.lookup_cons]; simp only [beq_self_eq_true, Option.map_some]; rw [if_neg hc]
    · have hb : (y == n) = false := beq_eq_false_iff_ne.mpr hx
      simp only [List.map_cons]
      split <;> simp only [List.lookup_cons, hb] <;> exact ih

section
variable {X : Cx} {pins : List (Addr × Obj)} {σ : St} {H : Hp} {s : Shared} {a : Addr} {o : HO}
/-- an untracked new record is tracked from here on -/
theorem Inv.track (I : Inv X pins σ H s) (f : FpOk X pins H a) (hs : X.s₀.heap.objs.size ≤ a) (new : ObjOk X.prog X.w (upd H a o) s.heap a o) : Inv X pins σ (upd H a o) s := by
  obtain ⟨f0, f1, f2, f3, f4, f5⟩ := f
  have old : ∀ b ob, X.s₀.heap.get? b = some ob → b ≠ a := fun b ob e z => by subst z; exact absurd (Nat.lt_of_lt_of_le (Heap.lt_size e) hs) (Nat.lt_irrefl _)
  refine ⟨I.ok, I.os, I.bare, ⟨I.base.keep, I.base.slot, fun b ob e n hx => ?_, I.base.there, fun b xs e => ?_, fun b ob u e => ?_, fun b ps e => ?_⟩, I.loc, I.cell, ?_, fun x c e => ?_, fun p hp => ?_, fun b u e => ?_, I.len⟩
  · rw [upd_ne (old b ob e)]; exact I.base.free b ob e n hx
  · have q := I.base.tups b xs e; rw [upd_ne (ne_of_none q f0)]; exact q
  · have q := I.base.frzs b ob u e; rw [upd_ne (ne_of_none q f0)]; exact q
  · obtain ⟨more, q⟩ := I.base.tbls b ps e; exact ⟨more, by rw [upd_ne (ne_of_none q f0)]; exact q⟩
  · rw [upd_ne (Ne.symm f1)]; exact I.free
  · rw [upd_ne (f4 x c e)]; exact I.freeC x c e
  · obtain ⟨e, n, ne, nf, d⟩ := I.pin p hp
    exact ⟨e, by rw [upd_ne (f5 p hp)]; exact n, ne, nf, d⟩
  · by_cases hb : b = a
    · subst hb; rw [upd_same] at e; cases e; exact new
    · rw [upd_ne hb] at e
      exact (I.hok b u e).stay (fun c v _ q => q) (fun c q => by rw [upd_ne (ne_of_none q f0)]; exact q) fun c xs q => by rw [upd_ne (ne_of_none q f0)]; exact q
end

/-- the context of a comprehension's block: the variable x, then the names of the def around -/
def compCx (X : Cx) (scope : Scope) (C : Addr) (x : Str) (M : List Str) (s₂ : Shared) (H₂ : Hp) (fp : List Addr) : Cx :=
  { X with N := x :: M, s₀ := s₂, H₀ := H₂, env := compEnvC scope (clOf X.env scope.names []) C X.env, outer := X.stack, ex := fp, fn := fun _ => false, pn := [], xe := fun _ _ => False }

structure CompOk (X : Cx) (scope : Scope) (x : Str) (M : List Str) : Prop where
  kind : scope.kind = .function
  cell : ∀ y ∈ scope.names, y.2 ≠ .cell
  names : ∀ y ∈ scope.names, y.2 = .local → scope.names.lookup y.1 = some .local
  loc : scope.names.lookup x = some .local
  nd : (x :: M).Nodup
  free : ∀ y, (y, NameKind.free) ∈ scope.names → X.env.scope.names.lookup y = some .cell ∨ X.env.scope.names.lookup y = some .free
  len : M.length = X.N.length
  sub : ∀ (j : Nat) y, M[j]? = some y → scope.names.lookup y = some .local ∨ scope.names.lookup y = some .free → X.N[j]? = some y ∧ scope.names.lookup y = some .free

def compOkB (names outer : List (Str × NameKind)) (N M : List Str) (x : Str) : Bool :=
  names.all (fun y => decide (y.2 ≠ .cell)) && names.all (fun y => decide (y.2 = .local → names.lookup y.1 = some .local)) && decide (names.lookup x = some .local) && decide (x :: M).Nodup &&
  names.all (fun y => decide (y.2 = .free → (outer.lookup y.1 = some .cell ∨ outer.lookup y.1 = some .free))) && decide (M.length = N.length) &&
  (M.zip N).all (fun p => decide (names.lookup p.1 = some .local ∨ names.lookup p.1 = some .free → p.1 = p.2 ∧ names.lookup p.1 = some .free))
theorem compOk_of {X : Cx} {scope : Scope} {x : Str} {M : List Str} (hk : scope.kind = .function) (h : compOkB scope.names X.env.scope.names X.N M x = true) : CompOk X scope x M := by
  unfold compOkB at h
  simp only [Bool.and_eq_true, List.all_eq_true, decide_eq_true_eq] at h
  obtain ⟨⟨⟨⟨⟨⟨h1, h2⟩, h3⟩, h4⟩, h5⟩, h6⟩, h7⟩ := h
  refine ⟨hk, h1, h2, h3, h4, fun y hy => h5 _ hy rfl, h6, fun j y e q => ?_⟩
  have hj : j < M.length := (List.getElem?_eq_some_iff.mp e).1
  have hj2 : j < X.N.length := by omega
  have z : (M.zip X.N)[j]? = some (y, X.N[j]) := by rw [List.getElem?_zip_eq_some]; exact ⟨e, by simp [hj2]⟩
  have r := h7 _ (List.mem_of_getElem? z) q
  exact ⟨by rw [List.getElem?_eq_getElem hj2]; exact congrArg some r.1.symm, r.2⟩

section
variable {X : Cx} {scope : Scope} {x : Str} {M : List Str} {pins : List (Addr × Obj)} {σ : St} {H₂ : Hp} {s₂ : Shared}

/-- what the block's cells are -/
theorem CompOk.cl_of {y : Str} {c : Addr} (h : (clOf X.env scope.names []).lookup y = some c) : X.env.cells.lookup y = some c := by
  rcases clOf_mem (PySem.mem_of_lookup h) with q | q
  · cases q
  · exact q
theorem CompOk.cl_has (K : CompOk X scope x M) (ok : X.Ok) {y : Str} (h : (y, NameKind.free) ∈ scope.names) : ∃ c, (clOf X.env scope.names []).lookup y = some c ∧ X.env.cells.lookup y = some c := by
  have e1 : ∃ c, X.env.cells.lookup y = some c := ok.has y (K.free y h)
  obtain ⟨c, hc⟩ := clOf_has (env := X.env) (ns := scope.names) (cs := []) (y := y) (.inr ⟨h, e1⟩)
  have q : ∃ c, (clOf X.env scope.names []).lookup y = some c := by
    cases e : (clOf X.env scope.names []).lookup y with
    | some c => exact ⟨c, rfl⟩
    | none =>
      rw [List.lookup_eq_none_iff] at e
      have := e _ hc
      simp at this
  obtain ⟨c', hc'⟩ := q
  exact ⟨c', hc', CompOk.cl_of hc'⟩

theorem CompOk.closure (K : CompOk X scope x M) (ok : X.Ok) : closureFor scope X.env = pure (clOf X.env scope.names []) :=
  closure_eq fun y hy => by obtain ⟨c, _, q⟩ := K.cl_has ok hy; exact ⟨c, q⟩

/-- the block's start: D the list (untracked), C the block's own names -/
theorem inv_comp (K : CompOk X scope x M) (I : Inv X pins σ H₂ s₂) {fp : List Addr} (hf : ∀ b ∈ fp, FpOk X pins H₂ b) (hfl : ∀ b ∈ fp, b < s₂.heap.objs.size) {C : Addr} (hC : s₂.heap.objs.size ≤ C) {h₁ : Heap} {t : Nat} {m : Str → Option Value} (hn : h₁.Ns C m)
    (hk : ∀ b o, s₂.heap.get? b = some o → h₁.get? b = some o) : Inv (compCx X scope C x M s₂ H₂ fp) [] (none :: σ) H₂ { s₂ with heap := h₁, toks := t } := by
  have lt : ∀ {b : Addr} {o : Obj}, s₂.heap.get? b = some o → b ≠ C := fun {b o} e z => by subst z; exact absurd (Nat.lt_of_lt_of_le (Heap.lt_size e) hC) (Nat.lt_irrefl _)
  have cC : ∀ y c, (clOf X.env scope.names []).lookup y = some c → c ≠ C := fun y c e => by
    obtain ⟨v, o, ho, _⟩ := I.cell y c (CompOk.cl_of e)
    exact lt ho
  have sub : ∀ b ∈ frs X.stack, b = X.env.locals ∨ b ∈ X.fs := fun b hb => List.mem_cons.mp (I.stkSub b hb)
  have ok : (compCx X scope C x M s₂ H₂ fp).Ok := by
    refine ⟨I.ok.mod, K.kind, I.ok.glob, I.ok.blt, hC, fun y z c h1 h2 => ?_, fun y hy => ?_, fun y c z => ?_, I.ok.hd, I.ok.frames, .inl rfl, fun b hb => ⟨?_, fun y c e => ?_⟩, I.bs, Nat.le_trans I.ok.bsz I.sz, fun b o e hb => ?_, fun b hb hb2 => ?_, I.stack, I.stkFree⟩
    · exact I.ok.inj y z c (CompOk.cl_of h1) (CompOk.cl_of h2)
    · have hy' : (relabel scope X.env).names.lookup y = some .cell ∨ (relabel scope X.env).names.lookup y = some .free := hy
      have q : (y, NameKind.free) ∈ scope.names := by
        unfold relabel at hy'
        rw [lookup_relabel] at hy'
        cases e : scope.names.lookup y with
        | none => rw [e] at hy'; simp at hy'
        | some k =>
          have hm := PySem.mem_of_lookup e
          cases k with
          | free => exact hm
          | cell => exact absurd rfl (K.cell _ hm)
          | _ => rw [e] at hy'; simp at hy'
      obtain ⟨c, q, _⟩ := K.cl_has I.ok q
      exact ⟨c, q⟩
    · exact Bool.noConfusion (show false = true from z)
    · intro z
      have z' : b = C := z
      subst z'
      exact absurd (Nat.lt_of_lt_of_le (hfl b hb) hC) (Nat.lt_irrefl _)
    · exact (hf b hb).2.2.2.2.1 y c (CompOk.cl_of e)
    · have q := (hf b hb).2.2.2.1
      rcases q with q | q
      · exact I.ok.noex b o e q
      · exact absurd (Nat.lt_of_lt_of_le (Heap.lt_size (I.ok.bs b o e).1) q) (Nat.lt_irrefl _)
    · rcases sub b hb2 with z | z
      · exact (hf b hb).2.1 z
      · exact (hf b hb).2.2.1 z
  refine ⟨ok, rfl, I.bare, Un.kept hk, ⟨m, hn, fun i y v e1 e2 e3 => ?_⟩, fun y c e => ?_, ?_, fun y c e => ?_, fun p hp => absurd (show p ∈ ([] : List (Addr × Obj)) from hp) (by simp), I.hok.kept hk, ?_⟩
  · cases i with
    | zero =>
      have e2' : some (none : Option V) = some (some v) := e2
      cases e2'
    | succ j =>
      have e1' : M[j]? = some y := e1
      have e2' : σ[j]? = some (some v) := e2
      have e3' : (relabel scope X.env).names.lookup y = some .local ∨ (relabel scope X.env).names.lookup y = some .cell ∨ (relabel scope X.env).names.lookup y = some .free := e3
      have q : scope.names.lookup y = some .local ∨ scope.names.lookup y = some .free := by
        unfold relabel at e3'
        rw [lookup_relabel] at e3'
        cases e : scope.names.lookup y with
        | none => rw [e] at e3'; simp at e3'
        | some k =>
          have hm := PySem.mem_of_lookup e
          cases k with
          | free => exact .inr rfl
          | «local» => exact .inl rfl
          | cell => exact absurd rfl (K.cell _ hm)
          | _ => rw [e] at e3'; simp at e3'
      obtain ⟨nj, fr⟩ := K.sub j y e1' q
      have hm := PySem.mem_of_lookup fr
      have kd := K.free y hm
      have vs : Vis X.env.scope y := .inr kd
      obtain ⟨mo, _, lo⟩ := I.loc
      obtain ⟨u, r, l⟩ := lo j y v nj e2' vs
      refine ⟨u, r, .inr ⟨?_, ?_⟩⟩
      · show (relabel scope X.env).names.lookup y = some .cell ∨ (relabel scope X.env).names.lookup y = some .free
        unfold relabel
        rw [lookup_relabel, fr]
        simp only [Option.map_some]
        split
        · exact .inl rfl
        · exact .inr rfl
      · obtain ⟨c, q1, q2⟩ := K.cl_has I.ok hm
        rcases l with ⟨k, _⟩ | ⟨_, c', q3, z⟩
        · have k' : X.env.scope.names.lookup y = some .local := k
          rcases kd with kd | kd <;> · rw [k'] at kd; cases kd
        · rw [q2] at q3
          cases q3
          obtain ⟨oc, ho, hd⟩ := z
          exact ⟨c, q1, oc, hk _ _ ho, hd⟩
  · obtain ⟨v, oc, ho, hd⟩ := I.cell y c (CompOk.cl_of e)
    exact ⟨v, oc, hk _ _ ho, hd⟩
  · exact I.hok.fresh hC
  · exact I.freeC y c (CompOk.cl_of e)
  · show (none :: σ).length = (x :: M).length
    rw [List.length_cons, List.length_cons, K.len, I.len]
end
end L2
namespace L2
open PySem PySem.Spec PyProof.Rows PySem.Calls

/-- [e for x in it]: n bounds the turns; W i ys H: behind i turns, ys made -/
def tComp (wi : TI) (te : TE) : TE := fun σ H Q => wi σ H fun J H1 => ∃ (n : Nat) (W : Nat → List V → Hp → Prop), n ≤ sizeLine ∧ W 0 [] H1 ∧ ∀ i ys H, i ≤ n → ys.length = i → W i ys H →
  (J.stop i H ∧ ∀ p, H p = none → Q (.ref p) (upd H p (.lst ys))) ∨ (J.go i H ∧ i < n ∧ ∀ x H', J.yld i H x H' → te (some x :: σ) H' fun v H'' => W (i + 1) (ys ++ [v]) H'')

section
variable {X : Cx} {scope : Scope} {x : Str} {M : List Str} {pins : List (Addr × Obj)} {σ : St} {H₂ : Hp} {s₂ : Shared} {elt iter : Expr} {px pos : Pos} {te : TE} {wi : TI}

theorem comp_block (K : CompOk X scope x M) (hc : X.calm = true) (I : Inv X pins σ H₂ s₂) (he : ∀ (C : Addr) (s₂ : Shared) (H₂ : Hp) (fp : List Addr), PE (compCx X scope C x M s₂ H₂ fp) elt te)
    {it : Addr} {fp : List Addr} {tn : Nat → Heap → Prop} {J : It} (T : Turn X.prog X.w X.K (.Name x px) J fp it tn) (st : tn 0 s₂.heap) (hf : ∀ b ∈ fp, FpOk X pins H₂ b) {n : Nat} (hsz : n ≤ sizeLine) {W : Nat → List V → Hp → Prop} {F : List V → Hp → Prop}
    (w0 : W 0 [] H₂) (turn : ∀ i ys H, i ≤ n → ys.length = i → W i ys H → (J.stop i H ∧ F ys H) ∨ (J.go i H ∧ i < n ∧ ∀ x H', J.yld i H x H' → te (some x :: σ) H' fun v H'' => W (i + 1) (ys ++ [v]) H''))
    {E : Value → Shared → Prop} {RR : Value → Addr → Result → Shared → Prop}
    (hRR : ∀ (D C : Addr) (s' : Shared) (H' : Hp) (ys : List V) (m : Str → Option Value), Inv X pins σ (upd H' D (.lst ys)) s' → H' D = none → FpOk X pins (upd H' D (.lst ys)) C → s'.heap.Ns C m → F ys H' → RR (.ref D) C (.ok .next) s') :
    wpAny (model X.prog X.w) X.A (newList []) (fun acc s₃ => wpAny (model X.prog X.w) X.A (newFunctionEnv scope X.env.globals (clOf X.env scope.names []) [] X.env.qual none .none (some X.env)) (fun cenv s₄ =>
      codeAny (model X.prog X.w) X.A (.compStart (.ListComp elt [⟨.Name x px, iter, [], 0⟩] scope pos) 0 (.ref it) acc { cenv with scope := relabel scope X.env }) (RR acc cenv.locals) s₄) E s₃) E s₂ := by
  refine wpAny_newObj_type (wpAny_newFunctionEnv K.cell (by intro y hy; simp at hy) (fun h₁ hns₁ hsb₁ => ?_) K.kind)
  dsimp only at hns₁ hsb₁ ⊢
  generalize hH2 : s₂.heap.push { cls := .type "list", dict := none, data := .seq ([] : List Value).toArray } = H2 at hns₁ hsb₁ ⊢
  have hC : H2.objs.size = s₂.heap.objs.size + 1 := by rw [← hH2, Heap.size_push]
  have hDC : s₂.heap.objs.size ≠ H2.objs.size := by rw [hC]; exact Nat.ne_of_lt (Nat.lt_succ_self _)
  have below : ∀ b, b < s₂.heap.objs.size → b ≠ H2.objs.size ∧ b ≠ s₂.heap.objs.size := fun b hb => ⟨by rw [hC]; exact Nat.ne_of_lt (Nat.lt_succ_of_lt hb), Nat.ne_of_lt hb⟩
  have hfl : ∀ b ∈ fp, b < s₂.heap.objs.size := fun b hb => by obtain ⟨o, e, _⟩ := T.obj _ _ st b hb; exact Heap.lt_size e
  have old : ∀ b o, s₂.heap.get? b = some o → h₁.get? b = some o := fun b o e => hsb₁.extBut b o (below b (Heap.lt_size e)).1 (Heap.get?_push_of_some _ (hH2 ▸ Heap.get?_push_of_some _ e))
  have hacc : h₁.get? s₂.heap.objs.size = some { cls := .type "list", data := .seq ([] : List Value).toArray 0 } := hsb₁.extBut _ _ hDC (Heap.get?_push_of_some _ (hH2 ▸ Heap.get?_push_size _ rfl))
  generalize hCC : H2.objs.size = C at *
  generalize hDD : s₂.heap.objs.size = D at *
  have hCle : s₂.heap.objs.size ≤ C := by rw [hDD, hC]; exact Nat.le_succ _
  have st₁ : tn 0 h₁ := T.keep _ _ _ st fun b _ o e => old b o e
  have I₁ := inv_comp (t := s₂.toks + ([] : List (Str × Value)).length) K I hf (fun b hb => by rw [hDD]; exact hfl b hb) hCle hns₁ old
  -- the context of the block
  generalize hX' : compCx X scope C x M s₂ H₂ fp = X' at I₁
  have eX : X'.prog = X.prog ∧ X'.w = X.w ∧ X'.K = X.K ∧ X'.calm = true ∧ X'.A = X.A ∧ X'.ex = fp ∧ X'.env = compEnvC scope (clOf X.env scope.names []) C X.env ∧ X'.s₀ = s₂ ∧ X'.pn = [] := by
    subst hX'; exact ⟨rfl, rfl, rfl, hc, rfl, rfl, rfl, rfl, rfl⟩
  obtain ⟨eP, ew, eK, ec, eA, eex, eenv, es0, epn⟩ := eX
  have eL : X'.env.locals = C := by rw [eenv]; rfl
  have cells' : ∀ y c, X'.env.cells.lookup y = some c → X.env.cells.lookup y = some c := fun y c e => by rw [eenv] at e; exact CompOk.cl_of e
  have efs : X'.fs = frs X.stack := by subst hX'; rfl
  have fsub : ∀ b ∈ X'.fs, b = X.env.locals ∨ b ∈ X.fs := fun b hb => List.mem_cons.mp (I.stkSub b (by rw [← efs]; exact hb))
  -- the iterator's records, the list: ours to turn
  have fpok : ∀ {pn : List (Addr × Obj)} {H' : Hp}, (∀ p ∈ pn, p.1 = D) → (∀ b ∈ fp, H' b = none) → ∀ b ∈ fp, FpOk X' pn H' b := fun {pn H'} hp hn b hb => by
    refine ⟨hn b hb, ?_, fun z => ?_, .inl (by rw [eex]; exact hb), fun y c e => (hf b hb).2.2.2.2.1 y c (cells' y c e), fun p hq => ?_⟩
    · rw [eL]; exact (below b (hfl b hb)).1
    · rcases fsub b z with q | q
      · exact (hf b hb).2.1 q
      · exact (hf b hb).2.2.1 q
    · rw [epn, List.nil_append] at hq
      rw [hp p hq]; exact Ne.symm (below b (hfl b hb)).2
  have Dfp : D ∉ fp := fun z => Nat.lt_irrefl _ (hfl D z)
  have ltL : X.env.locals < D := by have := I.lt; rw [hDD] at this; exact this
  have ltF : ∀ b ∈ X.fs, b < D := fun b hb => Nat.lt_of_not_le fun z => I.nofs (a := b) (by rw [hDD]; exact z) hb
  have newok : ∀ {b : Addr} {pn : List (Addr × Obj)} {H' : Hp}, D ≤ b → b ≠ C → H' b = none → (∀ p ∈ pn, p.1 ≠ b) → FpOk X' pn H' b := fun {b pn H'} hb hbC hn hp => by
    refine ⟨hn, by rw [eL]; exact hbC, fun z => ?_, .inr (by rw [es0, hDD]; exact hb), fun y c e => ?_, fun p hq => ?_⟩
    · rcases fsub b z with q | q
      · rw [q] at hb; exact absurd (Nat.lt_of_lt_of_le ltL hb) (Nat.lt_irrefl _)
      · exact absurd (Nat.lt_of_lt_of_le (ltF b q) hb) (Nat.lt_irrefl _)
    · obtain ⟨v, o, ho, _⟩ := I.cell y c (cells' y c e)
      have := Heap.lt_size ho
      rw [hDD] at this
      exact Nat.ne_of_lt (Nat.lt_of_lt_of_le this hb)
    · rw [epn, List.nil_append] at hq
      exact hp p hq
  -- behind the block
  have outer : ∀ {σ' : St} {H' : Hp} {s' : Shared} {pn : List (Addr × Obj)}, Inv X' pn σ' H' s' → Inv X pins σ H' s' := fun {σ' H' s' pn} J' => by
    subst hX'
    refine I.call' (ch := fp) J'.os J'.base J'.hok J'.bare fun b hb => ?_
    obtain ⟨f0, f1, f2, f3, f4, f5⟩ := hf b hb
    exact ⟨f3, f1, f4, f5⟩
  have outok : ∀ {b : Addr} {H' : Hp}, D ≤ b → H' b = none → FpOk X pins H' b := fun {b H'} hb hn => by
    have q := I.fpOk (H' := H') (b := b) (by rw [hDD]; exact hb) hn
    exact q
  have loop : ∀ s₃ : Shared, s₃ = { s₂ with heap := h₁, toks := s₂.toks + ([] : List (Str × Value)).length } →
      codeAny (model X.prog X.w) X.A (.compLoop (.ListComp elt [⟨.Name x px, iter, [], 0⟩] scope pos) 0 (.ref it) (.ref D) (compEnvC scope (clOf X.env scope.names []) C X.env)) (RR (.ref D) C) s₃ := by
    rintro s₃ rfl
    refine compLoop_go (fun k s' => ∃ (i : Nat) (ys : List V) (its : List Value) (σ0 : Option V) (H' : Hp), i ≤ n ∧ k = n + 1 - i ∧ ys.length = i ∧ Inv X' [] (σ0 :: σ) H' s' ∧ tn i s'.heap ∧ (∀ b ∈ fp, H' b = none) ∧ H' D = none ∧ Vals ys its ∧
      (∃ c, s'.heap.get? D = some { cls := .type "list", data := .seq its.toArray c }) ∧ W i ys H') ?_ (n + 1) ⟨0, [], [], none, H₂, Nat.zero_le _, rfl, rfl, I₁, st₁, fun b hb => (hf b hb).1, by rw [← hDD]; exact I.hok.fresh (Nat.le_refl _), .nil, ⟨0, hacc⟩, w0⟩
    rintro k s' ⟨i, ys, its, σ0, H', hi, rfl, hyl, I', st', fr', hD', rv, ⟨c, hobj⟩, w'⟩
    have hx0 : X'.N[0]? = some x := by subst hX'; rfl
    have hxl : X'.env.scope.names.lookup x = some .local := by rw [eenv]; exact lookup_relabel_local K.loc
    have hNd : X'.N.Nodup := by subst hX'; exact K.nd
    rcases turn i ys H' hi hyl w' with ⟨stop, fin⟩ | ⟨go, hlt, step⟩
    · have pinD : Inv X' [(D, { cls := .type "list", data := .seq its.toArray c })] (σ0 :: σ) H' s' := I'.pins_of fun p hp => by
        obtain rfl : p = (D, { cls := .type "list", data := .seq its.toArray c }) := by simpa using hp
        refine ⟨hobj, hD', ?_, ?_, fun v z => nomatch z⟩
        · rw [eL]; exact hDC
        · intro z
          rcases fsub D z with q | q
          · rw [q] at ltL; exact Nat.lt_irrefl _ ltL
          · exact Nat.lt_irrefl _ (ltF D q)
      have q := T.done X' eP ew eK ec i _ s' (σ0 :: σ) H' (notedBy (model X.prog X.w) X.A (compEnvC scope (clOf X.env scope.names []) C X.env) fun e s' => RR (.ref D) C (.error e) s') pinD (fpok (fun p hp => by obtain rfl : p = (D, { cls := .type "list", data := .seq its.toArray c }) := (by simpa using hp); rfl) fr') st' stop
      rw [eA] at q
      refine wpAny_mono q (fun r s4 ⟨hr, I4⟩ => ?_) fun _ _ z => z
      subst hr
      obtain ⟨e4, n4, _⟩ := I4.pin (D, { cls := .type "list", data := .seq its.toArray c }) (List.mem_append_right _ (by simp))
      have O4 := outer I4
      obtain ⟨m4, ns4, _⟩ := I4.loc
      rw [eL] at ns4
      refine hRR D C s4 H' ys m4 (O4.track (outok (Nat.le_refl _) n4) (Nat.le_trans I.sz (by rw [hDD]; exact Nat.le_refl _)) ⟨by rw [hyl]; exact Nat.le_trans hi hsz, its, c, rv, e4⟩) n4 (outok (by rw [hC]; exact Nat.le_succ _) ?_) ns4 fin
      rw [upd_ne (Ne.symm hDC)]
      have := I4.free
      rw [eL] at this
      exact this
    · have pinD : Inv X' [(D, { cls := .type "list", data := .seq its.toArray c })] (σ0 :: σ) H' s' := I'.pins_of fun p hp => by
        obtain rfl : p = (D, { cls := .type "list", data := .seq its.toArray c }) := by simpa using hp
        refine ⟨hobj, hD', ?_, ?_, fun v z => nomatch z⟩
        · rw [eL]; exact hDC
        · intro z
          rcases fsub D z with q | q
          · rw [q] at ltL; exact Nat.lt_irrefl _ ltL
          · exact Nat.lt_irrefl _ (ltF D q)
      have pd : ∀ p ∈ [(D, ({ cls := .type "list", data := .seq its.toArray c } : Obj))], p.1 = D := fun p hp => by obtain rfl : p = (D, { cls := .type "list", data := .seq its.toArray c }) := (by simpa using hp); rfl
      have q := T.item X' eP ew eK ec i _ s' (σ0 :: σ) H' (notedBy (model X.prog X.w) X.A (compEnvC scope (clOf X.env scope.names []) C X.env) fun e s' => RR (.ref D) C (.error e) s') pinD (fpok pd fr') st' go
      rw [eA] at q
      refine wpAny_mono q (fun r s4 ⟨u, hr, h4⟩ => ?_) fun _ _ z => z
      subst hr
      refine wpAny_mono h4 (fun _ s5 ⟨xv, H5, I5, r5, y5, st5, fr5⟩ => ?_) fun _ _ z => z
      have I5' := I5.pinned (fpok pd fr5) (T.obj _ _ st5)
      refine wpAny_assign_Name ?_
      rw [← eenv]
      refine store_ok I5' hNd hx0 (.inl hxl) r5 (fun s6 I6 => ?_) (.inr hxl)
      have te6 := step xv H5 y5
      have q6 := (he C s₂ H₂ fp) (([(D, ({ cls := .type "list", data := .seq its.toArray c } : Obj))]) ++ pinsAt fp s5.heap) s6 (some xv :: σ) H5 (fun v H'' => W (i + 1) (ys ++ [v]) H'') (by rw [hX']; exact I6) te6
      rw [hX', eP, ew, eA] at q6
      refine wpAny_mono q6 (fun u7 s7 ⟨v7, H7, I7, r7, w7⟩ => ?_) (fun _ _ z => by subst hX'; exact (show False from z).elim)
      obtain ⟨e7, n7, _⟩ := I7.pin (D, { cls := .type "list", data := .seq its.toArray c }) (List.mem_append_right _ (List.mem_append_left _ (by simp)))
      refine append_at (hsz := by rw [List.size_toArray, ← rv.length, hyl]; exact Nat.le_trans hi hsz) e7 fun h8 sb8 g8 => ?_
      have I8 : Inv X' [] (some xv :: σ) H7 { s7 with heap := h8, toks := s7.toks } := (I7.pins_of (pins' := []) fun p hp => absurd hp (by simp)).turned (t' := s7.toks) (it := D) (fun b o hb e => (sb8.2 b hb).trans e) n7 (by rw [eL]; exact hDC) (.inr (by rw [es0, hDD]; exact Nat.le_refl _))
        (newok (H' := H7) (pn := []) (Nat.le_refl _) hDC n7 (fun p hp => absurd hp (by simp))).2.2.2.2.1 (fun p hp => by rw [epn] at hp; exact absurd hp (by simp))
      refine ⟨n + 1 - (i + 1), by omega, i + 1, ys ++ [v7], its ++ [u7], some xv, H7, hlt, rfl, by rw [List.length_append, List.length_singleton, hyl], I8, ?_, fun b hb => ?_, n7, rv.append (.cons r7 .nil), ⟨c + 1, ?_⟩, w7⟩
      · refine T.keep _ _ _ st5 fun b hb o e => ?_
        have e' := (I7.pin (b, o) (List.mem_append_right _ (List.mem_append_right _ (mem_pinsAt hb e)))).1
        exact (sb8.2 b (fun z => Dfp (z ▸ hb))).trans e'
      · obtain ⟨o, e, d⟩ := T.obj _ _ st5 b hb
        exact (I7.pin (b, o) (List.mem_append_right _ (List.mem_append_right _ (mem_pinsAt hb e)))).2.1
      · rw [g8, List.push_toArray]
  exact codeAny_compStart_list (loop _ rfl) (T.self X.A 0 _ _ _ st₁ (loop _ rfl))

/-- a comprehension as a value -/
theorem pe_comp (K : CompOk X scope x M) (hc : X.calm = true) (hi : PI X (.Name x px) iter wi) (he : ∀ (C : Addr) (s₂ : Shared) (H₂ : Hp) (fp : List Addr), PE (compCx X scope C x M s₂ H₂ fp) elt te)
    (hs : ∀ x, foldedSetIterable iter X.env x = pure x := by intro _; rfl) : PE X (.ListComp elt [⟨.Name x px, iter, [], 0⟩] scope pos) (tComp wi te) := by
  intro pins s σ H Q I h
  rw [eval_ListComp]
  refine wpAny_comprehension_free (use := none) rfl hs (K.closure I.ok) K.kind K.names (thn (hi pins s σ H _ I h) fun v s1 h1 => thn h1 fun itv s2 h2 => ?_)
  obtain ⟨it, fp, tn, J, H2, e, I2, T, st2, f2, n, W, hsz, w0, turn⟩ := h2
  subst e
  refine comp_block (RR := fun acc C => compPost (model X.prog X.w) X.A X.xe none (EP X pins σ Q) acc C) K hc I2 he T st2 f2 hsz (F := fun ys H => ∀ p, H p = none → Q (.ref p) (upd H p (.lst ys))) w0 turn ?_
  intro D C s' H' ys m I' n' fC ns fin
  refine ⟨m, ns, fun h' sb => ?_⟩
  obtain ⟨f0, f1, f2, f3, f4, f5⟩ := fC
  exact ⟨.ref D, _, I'.turned (t' := s'.toks) (it := C) (fun b o hb e => (sb.2 b hb).trans e) f0 f1 f3 f4 f5, rfl, fin D n'⟩
/-- name = [..] -/
theorem ps_comp {i : Nat} {y : Str} {spos py : Pos} (hN : X.N.Nodup) (hy : X.N[i]? = some y) (hl : Loc X.env.scope y) (K : CompOk X scope x M) (hc : X.calm = true) (hi : PI X (.Name x px) iter wi) (he : ∀ (C : Addr) (s₂ : Shared) (H₂ : Hp) (fp : List Addr), PE (compCx X scope C x M s₂ H₂ fp) elt te)
    (hsw : swapsWith (.ListComp elt [⟨.Name x px, iter, [], 0⟩] scope pos) (some (.Name y py)) spos.line X.env = pure true := by rfl)
    (hs : ∀ x, foldedSetIterable iter X.env x = pure x := by intro _; rfl) (hf : X.fn y = true ∨ X.env.scope.names.lookup y = some .local := by first | exact .inl rfl | exact .inr rfl | assumption) :
    PS X (.Assign [.Name y py] (.ListComp elt [⟨.Name x px, iter, [], 0⟩] scope pos) spos) (tAsg (tComp wi te) (gName i)) := by
  intro pins s σ H Dn I h
  rw [exec_Assign_Name_used _ _ _ _ hsw]
  refine wpAny_bind (wpAny_standAt (wpAny_bind ?_))
  show wpAny _ X.A (do let _ ← comprehension (.ListComp elt [⟨.Name x px, iter, [], 0⟩] scope pos) scope X.env _ (newList []) false (eval iter X.env) (some (assign (.Name y py) X.env))) _ _ s
  refine wpAny_bind (thn (wpAny_comprehension_free (use := some (assign (.Name y py) X.env)) (Q := fun _ s' => SP X pins Dn .next s') rfl hs (K.closure I.ok) K.kind K.names (thn (hi pins s σ H _ I h) fun v s1 h1 => thn h1 fun itv s2 h2 => ?_)) fun _ s' hq => wpAny_pure (wpAny_pure hq))
  obtain ⟨it, fp, tn, J, H2, e, I2, T, st2, f2, n, W, hsz, w0, turn⟩ := h2
  subst e
  refine comp_block (RR := fun acc C => compPost (model X.prog X.w) X.A X.xe (some (assign (.Name y py) X.env)) (fun _ s' => SP X pins Dn .next s') acc C) K hc I2 he T st2 f2 hsz (F := fun ys H => ∀ p, H p = none → Dn.nx (σ.set i (some (.ref p))) (upd H p (.lst ys))) w0 turn ?_
  intro D C s' H' ys m I' n' fC ns fin
  refine wpAny_assign_Name (store_ok2 (v := .ref D) I' hN hy hl rfl (fun s'' I'' ch => ?_) hf)
  obtain ⟨f0, f1, f2, f3, f4, f5⟩ := fC
  obtain ⟨a, sb1, ha⟩ := ch
  have hCa : C ≠ a := by
    rcases ha with z | z
    · rw [z]; exact f1
    · exact Ne.symm (f4 y a z)
  refine ⟨m, ns.sameBut sb1 hCa, fun h' sb => ?_⟩
  exact ⟨_, _, I''.turned (t' := s''.toks) (it := C) (fun b o hb e => (sb.2 b hb).trans e) f0 f1 f3 f4 f5, fin D n'⟩
end
end L2
namespace L2
open PySem PySem.Spec PyProof.Rows PySem.Calls

/-! ### texts as lists of codes -/
def S (l : List Nat) : Str := ⟨l.toArray⟩
abbrev cd (x : Str) : List Nat := x.cps.toList
theorem cd_S (l : List Nat) : cd (S l) = l := rfl
theorem S_cd (x : Str) : S (cd x) = x := by cases x; rfl
theorem S_inj {a b : List Nat} (h : S a = S b) : a = b := congrArg cd h
theorem cd_inj {x y : Str} (h : cd x = cd y) : x = y := by rw [← S_cd x, ← S_cd y, h]
theorem len_S (l : List Nat) : (S l).length = l.length := by show l.toArray.size = _; simp
theorem len_cd (x : Str) : x.length = (cd x).length := by show x.cps.size = _; simp
theorem S_app (a b : List Nat) : S a ++ S b = S (a ++ b) := by
  show (⟨a.toArray ++ b.toArray⟩ : Str) = ⟨(a ++ b).toArray⟩
  simp
theorem cd_app (x y : Str) : cd (x ++ y) = cd x ++ cd y := by
  show (x.cps ++ y.cps).toList = _
  simp

/-! ### for c in text, [.. for c in text] -/
def Its (x : Str) : It := ⟨fun i _ => i < x.length, fun i H v H' => H' = H ∧ ∃ c, (cd x)[i]? = some c ∧ v = .str (S [c]), fun i _ => i = x.length⟩
theorem str_walks {prog : Program} {w : World} {A : Around} (hh : A.handled = none) (I : Addr) (x : Str) (t : Tok) : Walks prog w A I [I] [I] x.cps.size (SignAt x) (fun i h => h.IsStrIter I (strIterType x) x t i) := by
  unfold strIterType
  split
  · exact Walks.strAscii hh I x t
  · exact Walks.strWide hh I x t
theorem turn_str {P : Program} {w : World} {K : PySem.W.Frag} {tg : Expr} (it : Addr) (x : Str) (t : Tok) : Turn P w K tg (Its x) [it] it (fun i h => h.IsStrIter it (strIterType x) x t i) where
  mem := by simp
  obj := fun i h st b hb => by
    have e : b = it := by simpa using hb
    subst e
    obtain ⟨o, e, c, d⟩ := st
    exact ⟨o, e, fun v z => by rw [d] at z; cases z⟩
  keep := fun i h h' st k => by
    obtain ⟨o, e, r⟩ := st
    exact ⟨o, k it (by simp) o e, r⟩
  item := by
    intro X hP hw hK hc i pins s σ H E I hf st hg
    subst hP hw hK
    have W := str_walks (prog := X.prog) (w := X.w) (A := X.A) (I.ok.hd hc) it x t
    obtain ⟨f0, f1, f2, f3, f4, f5⟩ := hf it (by simp)
    refine W.item i s _ E hg st fun v h' tk hv st' k => ?_
    have I1 : Inv X pins σ H { s with heap := h', toks := tk } := I.turned (t' := tk) (fun b o hb e => k b o (by simpa using hb) e) f0 f1 f3 f4 f5
    obtain ⟨c, u, hcx, rfl⟩ := hv
    obtain ⟨o, e, c1, d⟩ := id st'
    refine ⟨_, rfl, go_of (s := { s with heap := h', toks := tk }) e c1 d ?_ ⟨.str (S [c]), H, I1, ⟨_, rfl⟩, ⟨rfl, c, by rw [← hcx]; simp [cd], rfl⟩, st', fun b hb => (hf b hb).1⟩⟩
    unfold strIterType; split <;> decide
  done := by
    intro X hP hw hK hc i pins s σ H E I hf st hg
    subst hP hw hK
    have W := str_walks (prog := X.prog) (w := X.w) (A := X.A) (I.ok.hd hc) it x t
    obtain ⟨f0, f1, f2, f3, f4, f5⟩ := hf it (by simp)
    have e : i = x.cps.size := hg
    subst e
    exact W.done s _ E st fun h' tk k => ⟨rfl, I.turned (t' := tk) (fun b o hb e => k b o (by simpa using hb) e) f0 f1 f3 f4 f5⟩
  self := fun A i s Q E st h => by
    obtain ⟨o, e, c, d⟩ := id st
    unfold strIterType at st
    split at st
    · exact wpAny_pyIter_striter_ascii st h
    · exact wpAny_pyIter_striter_wide st h
section
variable {X : Cx} {tg : Expr}
def iStr (tl : TE) : TI := fun σ H R => tl σ H fun v H1 => ∃ x, v = .str x ∧ R (Its x) H1
theorem pi_str {l : Expr} {tl : TE} (hl : PE X l tl) : PI X tg l (iStr tl) := by
  intro pins s σ H R I h
  refine thn (hl pins s σ H _ I h) fun v s1 ⟨x, H1, I1, r1, q1⟩ => ?_
  obtain ⟨x, rfl, q⟩ := q1
  obtain ⟨t, rfl⟩ := r1
  refine wpAny_pyIter_strU ?_
  refine ⟨s1.heap.objs.size, [s1.heap.objs.size], _, _, H1, rfl, I1.kept (t' := s1.toks) fun b o e => Heap.get?_push_of_some _ e, turn_str _ x t, ⟨_, Heap.get?_push_size _ rfl, rfl, rfl⟩, fun b hb => ?_, q⟩
  have e : b = s1.heap.objs.size := by simpa using hb
  subst e
  exact I1.fpOk (Nat.le_refl _) (I1.hok.fresh (Nat.le_refl _))
end
theorem for_str {x : Str} {g : TG} {tb : TS} {D : Ends} {σ : St} {H : Hp} (Pv : Nat → St → Hp → Prop) (h0 : Pv 0 σ H)
    (hs : ∀ i c σ H, (cd x)[i]? = some c → Pv i σ H → g (.str (S [c])) σ H fun σ2 H2 => tb { D with nx := Pv (i + 1), ct := Pv (i + 1), bk := D.nx } σ2 H2) (hd : ∀ σ H, Pv x.length σ H → D.nx σ H) :
    ∃ W : Nat → Nat → St → Hp → Prop, (∃ m, W 0 m σ H) ∧ ∀ i m σ H, W i m σ H →
      ((Its x).stop i H ∧ D.nx σ H) ∨ ((Its x).go i H ∧ ∃ N : St → Hp → Prop, (∀ σ' H', N σ' H' → ∃ m', m' < m ∧ W (i + 1) m' σ' H') ∧ ∀ v H', (Its x).yld i H v H' → g v σ H' fun σ2 H2 => tb { D with nx := N, ct := N, bk := D.nx } σ2 H2) := by
  refine ⟨fun i m σ H => m = x.length - i ∧ i ≤ x.length ∧ Pv i σ H, ⟨x.length, by simp, Nat.zero_le _, h0⟩, ?_⟩
  rintro i m σ H ⟨rfl, hi, p⟩
  by_cases hlt : i < x.length
  · refine .inr ⟨hlt, Pv (i + 1), fun σ' H' p' => ⟨x.length - (i + 1), by omega, rfl, hlt, p'⟩, fun v H' y => ?_⟩
    obtain ⟨e, c, hc, rfl⟩ := y
    subst e
    exact hs i c σ _ hc p
  · have e : i = x.length := by omega
    subst e
    exact .inl ⟨rfl, hd σ H p⟩

/-! ### comprehensions: what is read of them -/
theorem comp_str {x : Str} {te : TE} {σ : St} {H : Hp} {Q : VK} (hz : x.length ≤ sizeLine) (W : Nat → List V → Hp → Prop) (h0 : W 0 [] H)
    (hs : ∀ i c ys H, (cd x)[i]? = some c → ys.length = i → W i ys H → te (some (.str (S [c])) :: σ) H fun v H' => W (i + 1) (ys ++ [v]) H')
    (hd : ∀ ys H, ys.length = x.length → W x.length ys H → ∀ p, H p = none → Q (.ref p) (upd H p (.lst ys))) :
    ∃ (n : Nat) (W : Nat → List V → Hp → Prop), n ≤ sizeLine ∧ W 0 [] H ∧ ∀ i ys H, i ≤ n → ys.length = i → W i ys H →
      ((Its x).stop i H ∧ ∀ p, H p = none → Q (.ref p) (upd H p (.lst ys))) ∨ ((Its x).go i H ∧ i < n ∧ ∀ v H', (Its x).yld i H v H' → te (some v :: σ) H' fun v H'' => W (i + 1) (ys ++ [v]) H'') := by
  refine ⟨x.length, W, hz, h0, fun i ys H hi hl hw => ?_⟩
  by_cases hlt : i < x.length
  · refine .inr ⟨hlt, hlt, fun v H' y => ?_⟩
    obtain ⟨e, c, hc, rfl⟩ := y
    subst e
    exact hs i c ys _ hc hl hw
  · have e : i = x.length := by omega
    subst e
    exact .inl ⟨rfl, hd ys H hl hw⟩
theorem comp_range {lo : Int} {n : Nat} {te : TE} {σ : St} {H : Hp} {Q : VK} (hz : n ≤ sizeLine) (W : Nat → List V → Hp → Prop) (h0 : W 0 [] H)
    (hs : ∀ i ys H, i < n → ys.length = i → W i ys H → te (some (.int (lo + i)) :: σ) H fun v H' => W (i + 1) (ys ++ [v]) H')
    (hd : ∀ ys H, ys.length = n → W n ys H → ∀ p, H p = none → Q (.ref p) (upd H p (.lst ys))) :
    ∃ (m : Nat) (W : Nat → List V → Hp → Prop), m ≤ sizeLine ∧ W 0 [] H ∧ ∀ i ys H, i ≤ m → ys.length = i → W i ys H →
      ((Itr lo n).stop i H ∧ ∀ p, H p = none → Q (.ref p) (upd H p (.lst ys))) ∨ ((Itr lo n).go i H ∧ i < m ∧ ∀ v H', (Itr lo n).yld i H v H' → te (some v :: σ) H' fun v H'' => W (i + 1) (ys ++ [v]) H'') := by
  refine ⟨n, W, hz, h0, fun i ys H hi hl hw => ?_⟩
  by_cases hlt : i < n
  · refine .inr ⟨hlt, hlt, fun v H' y => ?_⟩
    obtain ⟨e, y⟩ := y
    subst e y
    exact hs i ys _ hlt hl hw
  · have e : i = n := by omega
    subst e
    exact .inl ⟨Nat.le_refl _, hd ys H hl hw⟩
theorem comp_list {K : PySem.W.Frag} {a : Addr} {xs : List V} {te : TE} {σ : St} {H : Hp} {Q : VK} (hz : xs.length ≤ sizeLine) (W : Nat → List V → Hp → Prop) (h0 : W 0 [] H) (hq : ∀ i ys H, W i ys H → SqL K H a xs)
    (hs : ∀ i x ys H, xs[i]? = some x → ys.length = i → W i ys H → te (some x :: σ) H fun v H' => W (i + 1) (ys ++ [v]) H')
    (hd : ∀ ys H, ys.length = xs.length → W xs.length ys H → ∀ p, H p = none → Q (.ref p) (upd H p (.lst ys))) :
    ∃ (m : Nat) (W : Nat → List V → Hp → Prop), m ≤ sizeLine ∧ W 0 [] H ∧ ∀ i ys H, i ≤ m → ys.length = i → W i ys H →
      ((Itl K a).stop i H ∧ ∀ p, H p = none → Q (.ref p) (upd H p (.lst ys))) ∨ ((Itl K a).go i H ∧ i < m ∧ ∀ v H', (Itl K a).yld i H v H' → te (some v :: σ) H' fun v H'' => W (i + 1) (ys ++ [v]) H'') := by
  refine ⟨xs.length, W, hz, h0, fun i ys H hi hl hw => ?_⟩
  have q := hq i ys H hw
  by_cases hlt : i < xs.length
  · refine .inr ⟨⟨xs, xs[i], q, by simp [hlt]⟩, hlt, fun v H' y => ?_⟩
    obtain ⟨e, y⟩ := y
    subst e
    exact hs i v ys _ (y xs q) hl hw
  · have e : i = xs.length := by omega
    subst e
    exact .inl ⟨⟨xs, q, Nat.le_refl _⟩, hd ys H hl hw⟩

/-! ### all, join, isinstance, slices, products -/
section
variable {X : Cx}
theorem call_all (hc : X.calm = true) : CallR X (.builtin "all") (fun xs H Q => ∃ (p : Addr) (bs : List Bool), xs = [.ref p] ∧ SqL X.K H p (bs.map V.bl) ∧ Q (.bl (bs.all id)) H) := by
  intro pins s σ H xs us Q I r h
  obtain ⟨p, bs, rfl, hq, q⟩ := h
  obtain ⟨u, rfl, ru⟩ := vals1 r
  cases ru
  obtain ⟨its, rv, pl, hz⟩ := I.list hq
  have hlt : p < s.heap.objs.size := by obtain ⟨o, n, e, _⟩ := pl; exact Heap.lt_size e
  refine call_all_walk (wpAny_pyIter_list pl.isList ?_)
  refine ⟨_, _, _, _, _, _, fun i => bs.getD i false, rfl, Walks.list (show X.A.in1.handled = none from I.ok.hd hc) s.heap.objs.size p (Nat.ne_of_lt hlt) its.toArray, ⟨⟨_, Heap.get?_push_size _ rfl, rfl, rfl⟩, pl.isList.push _⟩, fun i v s1 Q1 E1 hP hQ => ?_, fun h' tk k => ?_⟩
  · have hP' : its[i]? = some v := by simpa using hP
    obtain ⟨hi, _⟩ := List.getElem?_eq_some_iff.mp hP'
    have hl := rv.length
    rw [List.length_map] at hl
    have hb : (bs.map V.bl)[i]? = some (V.bl (bs.getD i false)) := by
      rw [List.getElem?_map, List.getElem?_eq_getElem (by omega)]
      simp [List.getD, List.getElem?_eq_getElem (show i < bs.length by omega)]
    obtain ⟨u, hu, ru⟩ := rv.get hb
    rw [hP'] at hu
    cases hu
    cases (show v = Value.bool _ from ru)
    exact wpAny_truthy_bool hQ
  · have e : (List.range its.toArray.size).all (fun i => bs.getD i false) = bs.all id := by
      have hl := rv.length
      rw [List.length_map] at hl
      rw [List.size_toArray, ← hl]
      have z : bs = (List.range bs.length).map fun i => bs.getD i false := by
        apply List.ext_getElem?
        intro i
        rw [List.getElem?_map]
        by_cases hi : i < bs.length
        · simp [List.getElem?_eq_getElem, hi, List.getD]
        · rw [List.getElem?_eq_none (Nat.not_lt.mp hi), List.getElem?_eq_none (by rw [List.length_range]; exact Nat.not_lt.mp hi)]; rfl
      conv => rhs; rw [z]
      rw [List.all_map]; rfl
    rw [e]
    refine ⟨.bl (bs.all id), H, ?_, rfl, q⟩
    have I0 : Inv X pins σ H { s with heap := s.heap.push { cls := .type "list_iterator", data := .fields #[.ref p, .int 0 0] } } := I.kept (t' := s.toks) fun b o e => Heap.get?_push_of_some _ e
    have fo := I.fpOk (H' := H) (b := s.heap.objs.size) (Nat.le_refl _) I.fresh
    obtain ⟨f0, f1, f2, f3, f4, f5⟩ := fo
    exact I0.turned (t' := tk) (it := s.heap.objs.size) (fun b o hb e => k b o (by simpa using hb) e) f0 f1 f3 f4 f5

theorem strs_of {ys : List Str} : ∀ {its : List Value}, Vals (ys.map V.str) its → StrsAre its ys := by
  induction ys with
  | nil => intro its r; cases r; exact .nil
  | cons y ys ih =>
    intro its r
    cases r with
    | cons a b => obtain ⟨t, rfl⟩ := a; exact .cons _ _ (ih b)
def joinS (sep : Str) (ys : List Str) : Str := Txt.join sep ys
theorem mt_join : MtM X "str.join" (fun x vs H Q => ∃ (sep : Str) (p : Addr) (ys : List Str), x = .str sep ∧ vs = [.ref p] ∧ (SqL X.K H p (ys.map V.str) ∨ SqT X.K H p (ys.map V.str)) ∧ (ys.map (·.length)).sum + ys.length * sep.length ≤ 16777216 ∧ Q (.str (joinS sep ys)) H) := by
  intro pins s σ H x vs v us Q I rx rv h
  obtain ⟨sep, p, ys, rfl, rfl, hq, hz, q⟩ := h
  obtain ⟨t, rfl⟩ := rx
  obtain ⟨u, rfl, ru⟩ := rv.one
  cases ru
  rcases hq with hq | hq
  · obtain ⟨its, r, pl, _⟩ := I.list hq
    exact join_list pl.isList (by simpa using strs_of r) hz fun t' k => ⟨.str _, H, I.tok _, ⟨_, rfl⟩, q⟩
  · obtain ⟨its, r, pl, _⟩ := I.tuple hq
    exact join_tuple pl (by simpa using strs_of r) hz fun t' k => ⟨.str _, H, I.tok _, ⟨_, rfl⟩, q⟩

/-- a product whose factors have few bits -/
theorem op_mulB : OpR X (binaryOp .Mult) (rI (fun i j => Builtin.Int.intBits i ≤ 60000000 ∧ Builtin.Int.intBits j ≤ 60000000) fun i j => .int (i * j)) := opI fun i j _ _ _ _ _ hc q => mul_int q (IntMulOk.of_le hc.1 hc.2 (by decide))

/-! ### a slice of a text -/
def cutN (xs : List Nat) (lo hi : Option Int) : List Nat := (xs.drop (HT.sIx xs.length 0 lo)).take (HT.sIx xs.length xs.length hi - HT.sIx xs.length 0 lo)
theorem pick_nat (xs : List Nat) (i k : Nat) : (List.range k).filterMap (fun m => xs[i + m]?) = (xs.drop i).take k := by
  induction k generalizing i with
  | zero => simp
  | succ k ih =>
    rw [List.range_succ_eq_map, List.filterMap_cons]
    have e : (List.map Nat.succ (List.range k)).filterMap (fun m => xs[i + m]?) = (List.range k).filterMap (fun m => xs[(i + 1) + m]?) := by
      rw [List.filterMap_map]
      congr 1
      funext m
      show xs[i + (m + 1)]? = xs[i + 1 + m]?
      congr 1; omega
    rw [e, ih (i + 1)]
    by_cases hi : i < xs.length
    · rw [Nat.add_zero, List.getElem?_eq_getElem hi, List.drop_eq_getElem_cons hi, List.take_succ_cons]
    · rw [Nat.add_zero, List.getElem?_eq_none (Nat.not_lt.mp hi), List.drop_eq_nil_of_le (Nat.not_lt.mp hi), List.drop_eq_nil_of_le (by omega)]
      simp
theorem slice_idx (lo hi : Option Int) (n : Nat) : Builtin.Str.strSliceIndices lo hi 1 n = (List.range (HT.sIx n n hi - HT.sIx n 0 lo)).map fun m => HT.sIx n 0 lo + m := by
  unfold Builtin.Str.strSliceIndices sliceRange
  have h1 : (1 : Int) > 0 := by omega
  simp only [h1, if_true, Int.ediv_one]
  have cl : ∀ (v : Int) (d : Nat), max 0 (min (if v < 0 then v + (n : Int) else v) (n : Int)) = ((HT.sIx n d (some v) : Nat) : Int) := fun v d => by
    show _ = (((if v < 0 then (v + (n : Int)).toNat else min v.toNat n) : Nat) : Int)
    by_cases hv : v < 0
    · simp only [if_pos hv]; omega
    · simp only [if_neg hv]; omega
  have fin : ∀ a b : Nat, (List.range (if (a : Int) < (b : Int) then (b : Int) - (a : Int) + 1 - 1 else 0).toNat).map (fun k : Nat => ((a : Int) + 1 * (k : Int)).toNat) = (List.range (b - a)).map fun m => a + m := fun a b => by
    have e1 : (if (a : Int) < (b : Int) then (b : Int) - (a : Int) + 1 - 1 else 0).toNat = b - a := by split <;> omega
    rw [e1]
    apply List.map_congr_left
    intro k _
    omega
  cases lo with
  | none =>
    cases hi with
    | none => exact fin 0 n
    | some v => simp only [cl v n]; exact fin 0 _
  | some u =>
    cases hi with
    | none => simp only [cl u 0]; exact fin _ n
    | some v => simp only [cl u 0, cl v n]; exact fin _ _
theorem slice_is (x : Str) (lo hi : Option Int) : Txt.slice x lo hi = S (cutN (cd x) lo hi) := by
  unfold Txt.slice
  rw [slice_idx]
  have hx : x.length = (cd x).length := len_cd x
  split
  · rename_i h
    simp only [Bool.and_eq_true, beq_iff_eq, List.length_map, List.length_range] at h
    rw [hx] at h
    have h2 := h.2
    have l1 := HT.sIx_le (cd x).length (cd x).length (Nat.le_refl _) hi
    unfold cutN
    rw [h2]
    have l0 : HT.sIx (cd x).length 0 lo = 0 ∨ (cd x).length = 0 := by omega
    rcases l0 with l0 | l0
    · rw [l0, List.drop_zero, List.take_length, S_cd]
    · have e : cd x = [] := List.eq_nil_of_length_eq_zero l0
      apply cd_inj
      rw [e]; simp [cd_S]
  · rw [List.filterMap_map]
    unfold S cutN
    congr 2
    rw [← pick_nat, hx]
    congr 1
    funext m
    show x.cps[_]? = (cd x)[_]?
    simp [cd]
theorem sl_str : SlR X (fun x lo hi H Q => ∃ z, x = .str z ∧ z.length ≤ sizeLine ∧ Q (.str (S (cutN (cd z) lo hi))) H) := by
  intro pins s σ H x v vl vu lo hi sl Q I rx hs pl pu h
  obtain ⟨z, rfl, hz, q⟩ := h
  obtain ⟨t, rfl⟩ := rx
  refine ⟨"str", _, slot_str_getitem.lookup, typeIs_str s z t, ?_⟩
  rw [← slice_is] at q
  have fin : ∀ (l u : Option (Int × Tok)), l.map (·.1) = lo → u.map (·.1) = hi → vl = partValue l → vu = partValue u → wpAny (model X.prog X.w) X.A (getItem (.str z t) (.ref sl)) (EP X pins σ Q) X.xe s := fun l u e1 e2 e3 e4 => by
    subst e3 e4
    obtain ⟨o, ho, hc, hd⟩ := hs
    subst e1 e2
    exact wpAny_getItem_str_slice (l := l) (u := u) (st := none) ⟨o, ho, hc, hd⟩ rfl (post_val_or_str ⟨Nat.le_trans (Txt.slice_le z _ _) hz, fun t' k => ⟨.str _, H, I.tok _, ⟨_, rfl⟩, q⟩⟩)
  cases pl with
  | none =>
    cases pu with
    | none => exact fin none none rfl rfl rfl rfl
    | int i t => exact fin none (some (i, t)) rfl rfl rfl rfl
  | int j t' =>
    cases pu with
    | none => exact fin (some (j, t')) none rfl rfl rfl rfl
    | int i t => exact fin (some (j, t')) (some (i, t)) rfl rfl rfl rfl
end
end L2
/-! the law's head, with the bits of the script's ints -/
namespace Att
open PySem PySem.W PySem.Calls PyProof.Rows
theorem bits_of_lay {ns : List Int} (h : WData.layableAll [WData.list (ns.map WData.int)] = true) : ∀ n ∈ ns, Builtin.Int.intBits n ≤ 1048576 := by
  have h1 : (WData.list (ns.map WData.int)).layable = true := by simpa [WData.layableAll] using h
  intro n hn
  have h2 := layableW_item h1 (.int n) (List.mem_map.mpr ⟨n, hn, rfl⟩)
  have h3 := (layableW_iff.mp h2).2.2
  simpa [WData.weight, Builtin.Int.intBits] using h3
theorem attach_callB {l : OpenLaw} {n : Nat} {q : Program} {loose : List Str} {XP : (Str → Option Value) → Heap → Prop} {YP : World → Heap → Prop} {d : DefRec}
    (hn : l.most = some n) (hdf : d.params.defaults = [])
    (call : ∀ (w : World) (s₀ s₁ : Shared) (mg mb : Str → Option Value) (fa : Addr) (o : Obj) (pm cd doc : Value) (a : Addr) (vs : List Value) (ns : List Int),
      Ground q loose [] XP w s₀ mg mb s₁.heap → YP w s₁.heap →
      s₁.heap.get? fa = some o → o.data = .func (docDef d.name d.params d.body d.scope pm cd doc) → s₁.heap.CodeRec cd d.name → mg d.name = some (.ref fa) →
      s₁.heap.get? a = some { cls := .type "list", data := .seq vs.toArray } → IntsAre vs ns → ns.length ≤ n → (∀ n ∈ ns, Builtin.Int.intBits n ≤ 1048576) → s₁.gens = #[] →
      codeAny (model l.prog w) callerA (.call (.ref fa) ⟨[.ref a], []⟩) (fun r s' => r = .ok (.ret (.bool true)) ∧ OldK s₁.heap s'.heap ∧ s'.os = s₁.os ∧ AllBare s'.gens) s₁) :
    WalkO q loose XP YP l.row.toRowW d [] (fun f vs => PySem.call f vs) := by
  intro w s₀ s₁ mg mb G Y fa o pm cd doc dV kV ho hd hcd hD hmg hg args vals as hpre hlay hrd hwl hlo
  obtain rfl : dV = .none := Dflts.none hD hdf
  obtain rfl : kV = .none := Dflts.noKw hD
  obtain ⟨a, vs, ns, rfl, rfl, hobj, hints, hlen⟩ := script_of hn hpre hwl
  refine enter_call (codeAny_mono (call w s₀ s₁ mg mb fa o pm cd doc a vs ns G Y ho (fd_plain hd) hcd hmg hobj hints hlen (bits_of_lay hlay) hg) fun r s' hq => ?_)
  obtain ⟨rfl, h2, h3, h4⟩ := hq
  exact ⟨.inl ⟨.bool true, .bool true, [], rfl, fun _ => rfl, .bool true, post_true l _, fun _ => ⟨List.Pairwise.nil, fun _ hm => (nomatch hm)⟩⟩, h2, h3, h4⟩
end Att
namespace L2
open PySem PySem.Spec PyProof.Rows
/-- walk_of, with the bits -/
theorem walk_ofB {l : PySem.W.OpenLaw} {n k : Nat} {q : Program} {loose : List Str} {XP : (Str → Option Value) → Heap → Prop} {YP : World → Heap → Prop} {d : DefRec} {K : Params → PySem.W.Frag} {CX : World → CXT} {sp : World → Sp} {x : Str}
    (hn : l.most = some n) (hn2 : n ≤ sizeLine) (hdf : d.params.defaults = []) (hr : Room k callerA)
    (hY : ∀ (w : World) (h : Heap), YP w h → (K w.params).In h)
    (F : ∀ (w : World) (mg : Str → Option Value) (fa : Addr) (h : Heap), (K w.params).In h → h.Ns mainGlobals mg → mg d.name = some (.ref fa) →
      ∃ fd : FuncData, (∀ (s : Shared) (u : Value), BindsTo s fd ⟨[u], []⟩ [(x, u)]) ∧
        ∀ base : Heap, (K w.params).In base → base.Ns mainGlobals mg → FnOk l.prog w (K w.params) mg base (CX w) k fa fd [x] (sp w))
    (hsp : ∀ (w : World) (H : Hp) (a : Addr) (ns : List Int), ns.length ≤ n → (∀ n ∈ ns, Builtin.Int.intBits n ≤ 1048576) → Only H → SqL (K w.params) H a (ns.map V.int) → sp w [.ref a] H (fun v _ => v = .bl true) fun _ _ _ => False)
    (hCX : ∀ (w : World) (H : Hp) (s : Shared) (e : Value) (s' : Shared), CX w [] H s (fun _ _ _ => False) e s' → False) :
    PySem.W.WalkO q loose XP YP l.row.toRowW d [] (fun f vs => PySem.call f vs) := by
  refine Att.attach_callB hn hdf fun w s₀ s₁ mg mb fa o pm cd doc a vs ns G Y ho hd hcd hmg hobj hints hlen hbits hg => ?_
  have KX := hY w _ Y
  obtain ⟨fd, hb, hF⟩ := F w mg fa _ KX G.T.g hmg
  exact law_call KX G.T.g G.T.b G.T.builtins G.T.nolimit hg hobj hints (Nat.le_trans hlen hn2) hr hF hb (fun H hO hS => hsp w H a ns hlen hbits hO hS) fun H e s' => hCX w H s₁ e s'

/-! ### the module's values -/
def GlobV (mg : Str → Option Value) (x : Str) (v : V) : Prop := ∃ u, mg x = some u ∧ RelV v u
theorem pe_gv {X : Cx} {x : Str} {v : V} {pos : Pos} (hg : Gl X x) (h : GlobV X.mg x v) (hd : (x == ("__debug__" : Str)) = false := by decide) : PE X (.Name x pos) (tC v) := by
  obtain ⟨u, hm, r⟩ := h
  exact pe_glob hg hm r hd
theorem SqT.mod {K : PySem.W.Frag} {a : Addr} {oc : Value} {od : Option Addr} {its : Array Value} {n : Nat} {sl : Array (Option Value)} {xs : List V} (h : K.lookup a = some ⟨oc, od, .seq its n, sl⟩) (hc : oc = .type "tuple") (hz : its.size ≤ sizeLine) (hv : Vals xs its.toList) (H : Hp) : SqT K H a xs :=
  .inr ⟨_, its, n, h, hc, rfl, hz, hv⟩
theorem Same.tup {K : PySem.W.Frag} {H H' : Hp} {a : Addr} {xs : List V} (e : Same H H') (h : SqT K H a xs) : SqT K H' a xs := by
  rcases h with (h | ⟨o, h⟩) | h
  · exact .inl (.inl (e _ _ h))
  · exact .inl (.inr ⟨o, e _ _ h⟩)
  · exact .inr h
theorem same_new {H : Hp} {p : Addr} (h : H p = none) (o : HO) : Same H (upd H p o) := fun b u q => by rw [upd_ne (ne_of_none q h)]; exact q
namespace Bt
theorem int : bootBuiltins "int" = some (.type "int") := PyProof.Rows.boot_int
theorem bool : bootBuiltins "bool" = some (.type "bool") := PyProof.Rows.boot_bool
theorem str : bootBuiltins "str" = some (.type "str") := PyProof.Rows.boot_str
theorem list : bootBuiltins "list" = some (.type "list") := PyProof.Rows.boot_list
theorem tuple : bootBuiltins "tuple" = some (.type "tuple") := PyProof.Rows.boot_tuple
theorem dict : bootBuiltins "dict" = some (.type "dict") := PyProof.Rows.boot_dict
theorem set : bootBuiltins "set" = some (.type "set") := PyProof.Rows.boot_set
theorem isinstance : bootBuiltins "isinstance" = some (.builtin "isinstance") := PyProof.Rows.boot_isinstance
theorem all : bootBuiltins "all" = some (.builtin "all") := PyProof.Rows.boot_all
theorem abs : bootBuiltins "abs" = some (.builtin "abs") := PyProof.Rows.Boot.«abs»
end Bt
end L2
namespace L2
open PySem PySem.Spec PyProof.Rows

abbrev ib (x : Int) : Nat := Builtin.Int.intBits x
theorem ib_div {x : Int} {y : Int} {m : Nat} (hy : 0 < y) (h : ib x ≤ m) : ib (x / y) ≤ m := by
  rw [← Int.fdiv_eq_ediv_of_nonneg x (Int.le_of_lt hy)]
  exact intBits_fdiv_le h
theorem ib_small {x : Int} (h1 : -(2 ^ 64) < x) (h2 : x < 2 ^ 64) : ib x ≤ 64 := intBits_le_64 h1 h2
theorem ib_big {m : Nat} {x : Int} (h : x.natAbs < 2 ^ m) : ib x ≤ m := intBits_le_iff.mpr h
theorem at_some {α : Type} {l : List α} {i : Int} (h0 : 0 ≤ i) (h1 : i < l.length) : ∃ c, atI l i = some c ∧ l[i.toNat]? = some c := by
  have hk : i.toNat < l.length := by omega
  refine ⟨l[i.toNat], ?_, List.getElem?_eq_getElem hk⟩
  have e : i = ((i.toNat : Nat) : Int) := by omega
  have q : atI l ((i.toNat : Nat) : Int) = some l[i.toNat] := atI_nat (List.getElem?_eq_getElem hk)
  rw [← e] at q
  exact q
theorem Same.ty {K : PySem.W.Frag} {H H' : Hp} {x : V} {t : Value} (e : Same H H') (h : TyOf K H x t) : TyOf K H' x t := by
  cases h with
  | non => exact .non
  | bl x => exact .bl x
  | int i => exact .int i
  | str x => exact .str x
  | flt x => exact .flt x
  | lst q => exact .lst (e _ _ q)
  | frz q => exact .frz (e _ _ q)
  | tup q => exact .tup (e _ _ q)
  | dK q => exact .dK (e _ _ q)
  | dT q => exact .dT (e _ _ q)
  | ins q a b c d f => exact .ins (e _ _ q) a b c d f
theorem small_of {n m : Nat} (h : n ≤ m) (hm : m ≤ 16777216 := by decide) : n ≤ sizeLine := by rw [sizeLine_eq]; omega
/-! ### join, as lists of codes -/
def joinL (sep : List Nat) : List (List Nat) → List Nat
  | [] => []
  | [x] => x
  | x :: y :: r => x ++ sep ++ joinL sep (y :: r)
theorem joinS_is (sep : Str) (ys : List Str) : joinS sep ys = S (joinL (cd sep) (ys.map cd)) := by
  have e : joinS sep ys = Str.join sep ys := StrLaws.glued_eq_join sep ys
  rw [e]
  clear e
  induction ys with
  | nil => rfl
  | cons y r ih =>
    cases r with
    | nil => exact (S_cd y).symm
    | cons z r =>
      show y ++ sep ++ Str.join sep (z :: r) = S (cd y ++ cd sep ++ joinL (cd sep) ((z :: r).map cd))
      rw [ih, ← S_app, ← S_app, S_cd, S_cd]
/-! ### loops and comprehensions, their readings shut (opened by their own forms) -/
structure CompR (J : It) (te : TE) (σ : St) (H1 : Hp) (Q : VK) : Prop where
  ex : ∃ (n : Nat) (W : Nat → List V → Hp → Prop), n ≤ sizeLine ∧ W 0 [] H1 ∧ ∀ i ys H, i ≤ n → ys.length = i → W i ys H →
    (J.stop i H ∧ ∀ p, H p = none → Q (.ref p) (upd H p (.lst ys))) ∨ (J.go i H ∧ i < n ∧ ∀ x H', J.yld i H x H' → te (some x :: σ) H' fun v H'' => W (i + 1) (ys ++ [v]) H'')
def tCompR (wi : TI) (te : TE) : TE := fun σ H Q => wi σ H fun J H1 => CompR J te σ H1 Q
structure ForR (J : It) (g : TG) (tb : TS) (D : Ends) (σ : St) (H1 : Hp) : Prop where
  ex : ∃ W : Nat → Nat → St → Hp → Prop, (∃ m, W 0 m σ H1) ∧ ∀ i m σ H, W i m σ H →
    (J.stop i H ∧ D.nx σ H) ∨ (J.go i H ∧ ∃ N : St → Hp → Prop, (∀ σ' H', N σ' H' → ∃ m', m' < m ∧ W (i + 1) m' σ' H') ∧ ∀ x H', J.yld i H x H' → g x σ H' fun σ2 H2 => tb { D with nx := N, ct := N, bk := D.nx } σ2 H2)
def tForR (wi : TI) (g : TG) (tb : TS) : TS := fun D σ H => wi σ H fun J H1 => ForR J g tb D σ H1
structure WhileR (c : TT) (tb : TS) (D : Ends) (σ : St) (H : Hp) : Prop where
  ex : tWhile c tb D σ H
theorem PI.weak {X : Cx} {tg iter : Expr} {wi : TI} (h : PI X tg iter wi) {pins : List (Addr × Obj)} {s : Shared} {σ : St} {H : Hp} {R R' : It → Hp → Prop} (I : Inv X pins σ H s) (hw : wi σ H R) (hR : ∀ J H1, R J H1 → R' J H1) :
    wpAny (model X.prog X.w) X.A (eval iter X.env) (fun v s1 => wpAny (model X.prog X.w) X.A (pyIter v) (PIE X pins σ tg R') X.xe s1) X.xe s := by
  refine thn (h pins s σ H R I hw) fun v s1 h1 => thn h1 fun itv s2 ⟨it, fp, tn, J, H', e, I', T, st, f, r⟩ => ?_
  exact ⟨it, fp, tn, J, H', e, I', T, st, f, hR J H' r⟩
section
variable {X : Cx} {scope : Scope} {x : Str} {M : List Str} {elt iter : Expr} {px pos : Pos} {te : TE} {wi : TI}
/-- the source of a comprehension or a loop, whose reading is of any form -/
theorem pi_conv {tg : Expr} {wi wi' : TI} (h : PI X tg iter wi) (hw : ∀ σ H R, wi' σ H R → ∃ R0, wi σ H R0 ∧ ∀ J H1, R0 J H1 → R J H1) : PI X tg iter wi' := by
  intro pins s σ H R I q
  obtain ⟨R0, q0, hR⟩ := hw σ H R q
  exact h.weak I q0 hR
theorem pe_compR (K : CompOk X scope x M) (hc : X.calm = true) (hi : PI X (.Name x px) iter wi) (he : ∀ (C : Addr) (s₂ : Shared) (H₂ : Hp) (fp : List Addr), PE (compCx X scope C x M s₂ H₂ fp) elt te)
    (hs : ∀ x, foldedSetIterable iter X.env x = pure x := by intro _; rfl) : PE X (.ListComp elt [⟨.Name x px, iter, [], 0⟩] scope pos) (tCompR wi te) := by
  intro pins s σ H Q I h
  have q := pe_comp (pos := pos) K hc (wi := fun σ0 H0 R0 => ∃ R, wi σ0 H0 R ∧ ∀ J H1, R J H1 → R0 J H1) (pi_conv hi fun σ H R ⟨R1, a, b⟩ => ⟨R1, a, b⟩) he hs pins s σ H Q I
  exact q ⟨_, h, fun J H1 r => r.ex⟩
theorem ps_compR {i : Nat} {y : Str} {spos py : Pos} (hN : X.N.Nodup) (hy : X.N[i]? = some y) (hl : Loc X.env.scope y) (K : CompOk X scope x M) (hc : X.calm = true) (hi : PI X (.Name x px) iter wi) (he : ∀ (C : Addr) (s₂ : Shared) (H₂ : Hp) (fp : List Addr), PE (compCx X scope C x M s₂ H₂ fp) elt te)
    (hsw : swapsWith (.ListComp elt [⟨.Name x px, iter, [], 0⟩] scope pos) (some (.Name y py)) spos.line X.env = pure true := by rfl)
    (hs : ∀ x, foldedSetIterable iter X.env x = pure x := by intro _; rfl) (hf : X.fn y = true ∨ X.env.scope.names.lookup y = some .local := by first | exact .inl rfl | exact .inr rfl | assumption) :
    PS X (.Assign [.Name y py] (.ListComp elt [⟨.Name x px, iter, [], 0⟩] scope pos) spos) (tAsg (tCompR wi te) (gName i)) := by
  intro pins s σ H D I h
  have q := ps_comp (pos := pos) (spos := spos) hN hy hl K hc (wi := fun σ0 H0 R0 => ∃ R, wi σ0 H0 R ∧ ∀ J H1, R J H1 → R0 J H1) (pi_conv hi fun σ H R ⟨R1, a, b⟩ => ⟨R1, a, b⟩) he hsw hs hf pins s σ H D I
  exact q ⟨_, h, fun J H1 r => r.ex⟩
theorem ps_forR {tg : Expr} {body : List Stmt} {g : TG} {tb : TS} (hp : PassesOwn (model X.prog X.w) X.A X.env X.xe) (hc : X.calm = true) (hi : PI X tg iter wi) (hg : PG X tg g) (hb : PSs X body tb)
    (hs : ∀ x, foldedSetIterable iter X.env x = pure x := by intro _; rfl) : PS X (.For tg iter body [] pos) (tForR wi g tb) := by
  intro pins s σ H D I h
  have q := ps_for (pos := pos) hp hc (wi := fun σ0 H0 R0 => ∃ R, wi σ0 H0 R ∧ ∀ J H1, R J H1 → R0 J H1) (pi_conv hi fun σ H R ⟨R1, a, b⟩ => ⟨R1, a, b⟩) hg hb hs pins s σ H D I
  exact q ⟨_, h, fun J H1 r => r.ex⟩
end

theorem comp_strR {x : Str} {te : TE} {σ : St} {H : Hp} {Q : VK} (hz : x.length ≤ sizeLine) (W : Nat → List V → Hp → Prop) (h0 : W 0 [] H)
    (hs : ∀ i c ys H, (cd x)[i]? = some c → ys.length = i → W i ys H → te (some (.str (S [c])) :: σ) H fun v H' => W (i + 1) (ys ++ [v]) H')
    (hd : ∀ ys H, ys.length = x.length → W x.length ys H → ∀ p, H p = none → Q (.ref p) (upd H p (.lst ys))) : CompR (Its x) te σ H Q := ⟨comp_str hz W h0 hs hd⟩
theorem comp_rangeR {lo : Int} {n : Nat} {te : TE} {σ : St} {H : Hp} {Q : VK} (hz : n ≤ sizeLine) (W : Nat → List V → Hp → Prop) (h0 : W 0 [] H)
    (hs : ∀ i ys H, i < n → ys.length = i → W i ys H → te (some (.int (lo + i)) :: σ) H fun v H' => W (i + 1) (ys ++ [v]) H')
    (hd : ∀ ys H, ys.length = n → W n ys H → ∀ p, H p = none → Q (.ref p) (upd H p (.lst ys))) : CompR (Itr lo n) te σ H Q := ⟨comp_range hz W h0 hs hd⟩
theorem comp_listR {K : PySem.W.Frag} {a : Addr} {xs : List V} {te : TE} {σ : St} {H : Hp} {Q : VK} (hz : xs.length ≤ sizeLine) (W : Nat → List V → Hp → Prop) (h0 : W 0 [] H) (hq : ∀ i ys H, W i ys H → SqL K H a xs)
    (hs : ∀ i x ys H, xs[i]? = some x → ys.length = i → W i ys H → te (some x :: σ) H fun v H' => W (i + 1) (ys ++ [v]) H')
    (hd : ∀ ys H, ys.length = xs.length → W xs.length ys H → ∀ p, H p = none → Q (.ref p) (upd H p (.lst ys))) : CompR (Itl K a) te σ H Q := ⟨comp_list hz W h0 hq hs hd⟩
theorem for_listR {K : PySem.W.Frag} {a : Addr} {xs : List V} {g : TG} {tb : TS} {D : Ends} {σ : St} {H : Hp} (Pv : Nat → St → Hp → Prop) (h0 : Pv 0 σ H) (hl : ∀ i σ H, i ≤ xs.length → Pv i σ H → SqL K H a xs)
    (hs : ∀ i x σ H, xs[i]? = some x → Pv i σ H → g x σ H fun σ2 H2 => tb { D with nx := Pv (i + 1), ct := Pv (i + 1), bk := D.nx } σ2 H2) (hd : ∀ σ H, Pv xs.length σ H → D.nx σ H) : ForR (Itl K a) g tb D σ H := ⟨for_list Pv h0 hl hs hd⟩
theorem for_rangeR {lo : Int} {n : Nat} {g : TG} {tb : TS} {D : Ends} {σ : St} {H : Hp} (Pv : Nat → St → Hp → Prop) (h0 : Pv 0 σ H)
    (hs : ∀ i σ H, i < n → Pv i σ H → g (.int (lo + i)) σ H fun σ2 H2 => tb { D with nx := Pv (i + 1), ct := Pv (i + 1), bk := D.nx } σ2 H2) (hd : ∀ σ H, Pv n σ H → D.nx σ H) : ForR (Itr lo n) g tb D σ H := ⟨for_range Pv h0 hs hd⟩
theorem for_strR {x : Str} {g : TG} {tb : TS} {D : Ends} {σ : St} {H : Hp} (Pv : Nat → St → Hp → Prop) (h0 : Pv 0 σ H)
    (hs : ∀ i c σ H, (cd x)[i]? = some c → Pv i σ H → g (.str (S [c])) σ H fun σ2 H2 => tb { D with nx := Pv (i + 1), ct := Pv (i + 1), bk := D.nx } σ2 H2) (hd : ∀ σ H, Pv x.length σ H → D.nx σ H) : ForR (Its x) g tb D σ H := ⟨for_str Pv h0 hs hd⟩

theorem cutV_map {α : Type} (f : α → V) (l : List α) (lo hi : Option Int) : ∃ ms : List α, cutV (l.map f) lo hi = ms.map f ∧ (∀ m ∈ ms, m ∈ l) ∧ ms.length ≤ l.length := by
  refine ⟨(l.drop (HT.sIx (l.map f).length 0 lo)).take (HT.sIx (l.map f).length (l.map f).length hi - HT.sIx (l.map f).length 0 lo), ?_, fun m hm => ?_, ?_⟩
  · unfold cutV
    rw [List.map_take, List.map_drop]
  · exact List.mem_of_mem_drop (List.mem_of_mem_take hm)
  · rw [List.length_take, List.length_drop]; omega
theorem map_get {α : Type} {f : α → V} {l : List α} {i : Nat} {x : V} (h : (l.map f)[i]? = some x) : ∃ a, l[i]? = some a ∧ x = f a := by
  rw [List.getElem?_map] at h
  cases e : l[i]? with
  | none => rw [e] at h; cases h
  | some a => rw [e] at h; exact ⟨a, rfl, (Option.some.inj h).symm⟩

theorem kit_ty {K : PySem.W.Frag} {a b : String} {r : Bool} (h : (if (Value.type a == Value.type b) = true then some true else if PySem.W.kitMeta b = true then (fastBuiltinMro a).map (·.contains (Value.type b)) else none) = some r) : PySem.W.kitOne K (.type a) (.type b) = some r := h
end L2
/-! exceptions over the layer: an own class is raised, passes frames, is caught -/
namespace L2
open PySem PySem.Spec PyProof.Rows PySem.Calls

/-- how the heap behind an exception lies to that ahead of the call; B: all that stays as it is -/
structure XUn (outer : List Env) (H H' : Hp) (h B h1 : Heap) : Prop where
  keepB : ∀ b o, h.get? b = some o → H b = none → b ∉ frs outer → B.get? b = some o
  thereB : ∀ b o, h.get? b = some o → b ∉ frs outer → ∃ o', B.get? b = some o'
  slot : ∀ b o, h.get? b = some o → H b = none → b ∈ frs outer → ∃ sl, h1.get? b = some { o with slots := sl }
  free : ∀ b o, h.get? b = some o → H b = none → H' b = none
  tups : ∀ b xs, H b = some (.tup xs) → H' b = some (.tup xs)
  frzs : ∀ b o u, H b = some (.frz o u) → H' b = some (.frz o u)
  tbls : ∀ b ps, H b = some (.tbl ps) → ∃ more, H' b = some (.tbl (ps ++ more))
theorem XUn.step {outer : List Env} {H H' : Hp} {h B h1 h2 base : Heap} (x : XUn outer H H' h B h1) (fr : h1.FunFrames base outer) (up : h1.UpToSlots h2) : XUn outer H H' h B h2 :=
  ⟨x.keepB, x.thereB, fun b o e n hb => by
    obtain ⟨sl, q⟩ := x.slot b o e n hb
    obtain ⟨_, o', ho', hd'⟩ := fr.mem hb
    rw [q] at ho'; cases ho'
    obtain ⟨sl', q'⟩ := up b _ q hd'
    exact ⟨sl', q'⟩, x.free, x.tups, x.frzs, x.tbls⟩
theorem XUn.un {outer : List Env} {H H' : Hp} {h B h1 : Heap} (x : XUn outer H H' h B h1) (st : B.StaysIn h1) (fr : h1.FunFrames B outer) : Un (frs outer) [] H H' h h1 :=
  ⟨fun b o e n hb _ => st b o (x.keepB b o e n hb), fun b o e n hb _ => x.slot b o e n hb, fun b o e n _ => x.free b o e n, fun b o e _ => by
    by_cases hb : b ∈ frs outer
    · obtain ⟨_, o', ho', _⟩ := fr.mem hb
      exact ⟨o', ho'⟩
    · obtain ⟨o', q⟩ := x.thereB b o e hb
      exact ⟨o', st b o' q⟩, x.tups, x.frzs, x.tbls⟩

/-- an exception behind a call: its class; it flies -/
def CXW (P : Program) (w : World) : CXT := fun outer H s E e s' =>
  ∃ (ea t : Addr) (cls : Value) (H' : Hp) (B : Heap), e = .ref ea ∧ Heap.FlyingW B outer ea cls (.ref t) s'.heap ∧ s'.os = s.os ∧ AllBare s'.gens ∧ HOk P w H' B ∧ XUn outer H H' s.heap B s'.heap ∧ E cls none H'

section
variable {P : Program} {w : World} {K : PySem.W.Frag} {mg : Str → Option Value} {base : Heap} {N : List Str} {qual : Str} {scope : Scope} {f : Addr} {cdv : Value} {A : Around} {outer : List Env} {s : Shared} {H : Hp} {E : XK}
/-- an exception that was just made leaves the frame -/
theorem xe_made {pins : List (Addr × Obj)} {σ : St} {H1 : Hp} {s1 : Shared} {h' : Heap} {e : Addr} {cls : Value} {vs : List Value} (I : Inv (cxOf (CXW P w) P w K mg base N qual scope f cdv A outer s H E) pins σ H1 s1)
    (hx : Heap.MadeExcOf s1.heap h' e cls vs) (hE : E cls none H1) : (cxOf (CXW P w) P w K mg base N qual scope f cdv A outer s H E).xe (.ref e) { s1 with heap := h' } := by
  have hst := I.stack
  have hin : ∀ env ∈ (cxOf (CXW P w) P w K mg base N qual scope f cdv A outer s H E).stack, ∀ b, env.frame = some b → b ∈ frs (cxOf (CXW P w) P w K mg base N qual scope f cdv A outer s H E).stack := fun env he b hb => List.mem_filterMap.mpr ⟨env, he, hb⟩
  generalize hB : PySem.W.hideAll s1.heap (frs (cxOf (CXW P w) P w K mg base N qual scope f cdv A outer s H E).stack) = B
  have stB : B.StaysIn s1.heap := fun b o q => by rw [← hB] at q; exact PySem.W.of_hideAll _ q
  have getB : ∀ b o, s1.heap.get? b = some o → b ∉ frs (cxOf (CXW P w) P w K mg base N qual scope f cdv A outer s H E).stack → B.get? b = some o := fun b o q n => by rw [← hB]; exact PySem.W.hideAll_get _ q n
  have frB : s1.heap.FunFrames B (cxOf (CXW P w) P w K mg base N qual scope f cdv A outer s H E).stack := by rw [← hB]; exact PySem.W.funFrames_hide hst hin
  have noL : ∀ b o, s.heap.get? b = some o → b ∉ frs outer → b ∉ frs (cxOf (CXW P w) P w K mg base N qual scope f cdv A outer s H E).stack := fun b o q n z => by
    rcases List.mem_cons.mp (I.stkSub b z) with z | z
    · have : b < s.heap.objs.size := Heap.lt_size q
      have a := I.ok.above
      rw [← z] at a
      exact absurd (Nat.lt_of_lt_of_le this a) (Nat.lt_irrefl _)
    · exact n z
  show wpAny (model P w) _ (leaving (envOfC qual scope s.heap.objs.size f cdv) (.ref e)) _ _ _
  refine wpAny_leaves_madeW (base := B) (h := s1.heap) (outer := outer) I.ok.frames rfl stB frB hx fun h2 t fl tup tn up => ?_
  refine ⟨e, t, cls, H1, B, rfl, fl, I.os, I.bare, fun a o q => (I.hok a o q).stay (fun b u hb z => getB b u z fun m => ?_) (fun _ z => z) (fun _ _ z => z), ⟨fun b o q n hb => ?_, fun b o q hb => ?_, fun b o q n hb => ?_, fun b o q n => I.base.free b o q n (fun z => nomatch z), I.base.tups, I.base.frzs, I.base.tbls⟩, hE⟩
  · have z := I.stkFree b m
    rcases hb with r | r
    · rw [r, q] at z; cases z
    · rw [r] at z; cases z
  · exact getB b o (I.base.keep b o q n hb (fun z => nomatch z)) (noL b o q hb)
  · obtain ⟨o', q'⟩ := I.base.there b o q (fun z => nomatch z)
    exact ⟨o', getB b o' q' (noL b o q hb)⟩
  · obtain ⟨sl, q'⟩ := I.base.slot b o q n hb (fun z => nomatch z)
    have q2 := hx.keeps b _ q'
    obtain ⟨_, o2, ho2, hd2⟩ := I.funs.mem hb
    rw [q'] at ho2; cases ho2
    obtain ⟨sl', z⟩ := up b _ q2 hd2
    exact ⟨sl', z⟩
end

/-! ### a def that may raise -/
section
variable {P : Program} {w : World} {K : PySem.W.Frag} {mg : Str → Option Value} {base : Heap}
theorem Fun.okX {x qual : Str} {st : Stmt} {f : Addr} {fd : FuncData} {N ps : List Str} {k : Nat} {sp : Sp} (F : Fun K x qual st f fd) (S : FnScope N ps (defScope st)) (len : ∀ vs H Q E, sp vs H Q E → vs.length = ps.length)
    (hbody : ∀ (cdv : Value) (A : Around) (outer : List Env) (s : Shared) (H : Hp) (vs : List V) (Q : VK) (E : XK), Room k (A.deeper (envOfC qual (defScope st) s.heap.objs.size f cdv)) → sp vs H Q E →
      ∃ t, PSs (cxOf (CXW P w) P w K mg base N qual (defScope st) f cdv A outer s H E) (defBody st) t ∧ t { nx := fun _ H' => Q .non H', rt := Q } (start N vs) H) : FnOk P w K mg base (CXW P w) (k + 1) f fd ps sp := by
  obtain ⟨oc, od, kV, doc, pm, an, cdv, ct, osl, rfl, lk, hcd⟩ := F.ex
  exact fn_of lk hcd S len fun A outer s H vs Q E hr hsp => hbody cdv A outer s H vs Q E hr hsp
end
end L2
namespace L2
open PySem PySem.Spec PyProof.Rows PySem.Calls PySem.W PySem.Builtin PySem.Builtin.ObjectAttr PySem.Builtin.Getset_descriptor

/-! ### the class of an object whose dict is not known -/
section
variable {prog : Program} {w : World} {A : Around} {E : Value → Shared → Prop} {s : Shared} {K : PySem.W.Frag} {x D : Addr}
def ClsAt (h : Heap) (x D : Addr) : Prop := ∃ o, h.get? x = some o ∧ o.cls = .ref D
theorem ClsAt.type {M : Model} {h : Heap} (p : ClsAt h x D) : Looks M h (typeOf (.ref x)) (.ref D) := by
  obtain ⟨o, e, c⟩ := p
  exact c ▸ (Looks.ld e).andThen .now
theorem looks_data {M : Model} {h : Heap} {name : Str} {a g : Value} (X : K.In h) (hf : findIn K (.ref D) name = some (some a)) (hg : specialIn K a "__get__" = some (some g)) (ht : takesIn K a = some true) : Looks M h (find (.ref x) (.ref D) name) (.bind g a) := by
  have l1 := looks_findIn (M := M) X hf
  have l2 : Looks M h (getOf (some a)) (some g) := looks_specialIn X hg
  have l3 := looks_takesIn (M := M) X ht
  refine l1.andThen (l2.andThen ?_)
  have l4 : Looks M h (dataDescriptor? (some a) (some g)) (some (g, a)) := l3.andThen .now
  exact l4.andThen (Looks.tag .now)
structure ExcCls (K : PySem.W.Frag) (D : Addr) : Prop where
  ga : findIn K (.ref D) "__getattribute__" = some (some (.builtin "BaseException.__getattribute__"))
  gk : findIn K (.ref D) "__getattr__" = some none
  cl : (clsIn K D).isSome = true
  ha : findIn K (.ref D) "__class__" = some (some (.builtin "object.__class__"))
  hn : specialIn K (.builtin "object.__class__") "__get__" = some (some (.builtin "getset_descriptor.__get__"))
  tk : takesIn K (.builtin "object.__class__") = some true
  mo : mroIn K D (.type "object") = some true
  mb : mroIn K D (.type "BaseException") = some true
theorem class_get {R : Result → Shared → Prop} (c : ExcCls K D) (X : K.In s.heap) (p : ClsAt s.heap x D) (q : R (.ok (.ret (.ref D))) s) :
    codeAny (model prog w) A (.call (.builtin "getset_descriptor.__get__") ⟨[.builtin "object.__class__", .ref x, .ref D], []⟩) R s := by
  obtain ⟨hh, g, d, t, os⟩ := s
  obtain ⟨o, eo, ec⟩ := id p
  have t0 := p.type (M := model prog w)
  have l1 := looks_mroIn (M := model prog w) X c.mo
  have arg0 := KF.args_gs (Value.builtin "object.__class__") (Value.ref x) (Value.ref D)
  refine codeAny_call_builtin KF.slot_gs.plain KF.entry_gs
    (KF.slot_gs.check _ _ _ _ _ _ _ _ KF.type_class arg0 ?_)
  unfold Builtin.«getset_descriptor.__get__»
    descrGet
  rw [dga_obj]; refine wpAny_bind (wpAny_pure ?_)
  unfold descrGetter descrCheckInstance
    descrNameAndClass isInstance
  simp only [KF.owner_class]; (repeat lk)
  refine ⟨Code.quiet_builtin _
    (by decide +kernel), codeAny_builtin KF.entry_class ?_⟩
  unfold Builtin.«object.__class__»
    shownTypeOf
  (repeat lk); exact q
theorem class_call {tk : Tok} {R : Result → Shared → Prop} (c : ExcCls K D) (X : K.In s.heap) (p : ClsAt s.heap x D) (q : R (.ok (.ret (.ref D))) s) :
    codeAny (model prog w) A (.call (.builtin "BaseException.__getattribute__") ⟨[.ref x, .str "__class__" tk], []⟩) R s := by
  obtain ⟨hh, g, d, t, os⟩ := s
  obtain ⟨o, eo, ec⟩ := id p
  have t0 := p.type (M := model prog w)
  have lb := looks_mroIn (M := model prog w) X c.mb
  have f0 := looks_data (x := x) (M := model prog w) X c.ha c.hn c.tk
  have hk : builtinKind "BaseException.__getattribute__" = some .slot := by decide +kernel
  have hsplit : splitId "BaseException.__getattribute__" = some ("BaseException", "__getattribute__") := by decide +kernel
  have ha := F.args_bexc_ga (.ref x) (.str "__class__" tk)
  refine codeAny_call_builtin F.excAttr_ValueError.ga.plain F.entry_bexc_ga ?_
  simp only [checkBuiltinCall, hk, hsplit]
  unfold isInstance
  refine wpAny_bind ?_
  (repeat (first | (with_reducible refine wpAny_call (class_get c X p ?_)) | lk))
  exact q
theorem class_of {Q : Option Value → Shared → Prop} (c : ExcCls K D) (X : K.In s.heap) (p : ClsAt s.heap x D) (q : Q (some (.ref D)) { s with toks := s.toks + 1 }) : wpAny (model prog w) A (getAttr? (.ref x) "__class__") Q E s := by
  obtain ⟨hh, g, d, t, os⟩ := s
  obtain ⟨o, eo, ec⟩ := id p
  have t0 := p.type (M := model prog w)
  have t1 := looks_findIn (M := model prog w) X c.ga
  have f1 := looks_findIn (M := model prog w) X c.gk
  have f3 := F.excAttr_ValueError.ga.bind (.ref x)
  unfold getAttr? getAttrBy? getAttrBy
  refine wpAny_bind (wpAny_mkText (wpAny_bind (wpAny_attempt (wpAny_holding (wpAny_bind (t0.at (wpAny_bind (t1.at ?_))))))))
  show wpAny _ _ (getAttrByItsOwn _ _ _ _ _ _) _ _ _
  unfold getAttrByItsOwn hookBefore
  refine wpAny_bind (f1.at (wpAny_bind (wpAny_attempt (wpAny_holding ?_))))
  show wpAny _ _ (boundAndCalled _ _ _) _ _ _
  unfold boundAndCalled
  rw [f3]
  refine wpAny_bind (wpAny_pure (wpAny_call ?_))
  refine class_call c (s := ⟨hh, g, d, t + 1, os⟩) X p ?_
  exact wpAny_pure (wpAny_pure q)
theorem kit_exc (c : ExcCls K D) : KitX K (.ref x) (.ref D) (fun h => ClsAt h x D) where
  ty := fun _ _ _ p => p.type
  it := fun _ _ X _ => by
    obtain ⟨cd, e⟩ := Option.isSome_iff_exists.mp c.cl
    unfold clsIn at e
    split at e
    · rename_i c' d' cd' sl' ho
      intro A' Q' E' s' k q
      unfold isType loadHead
      exact wpAny_bind (wpAny_loadPart (k _ _ (X _ _ ho)) (wpAny_pure q))
    · cases e
  ne := fun h tp dd its n sl X htp => by
    obtain ⟨cd, e⟩ := Option.isSome_iff_exists.mp c.cl
    refine Bool.eq_false_iff.mpr fun q => ?_
    have z : D = tp := Value.ref.inj (beq_iff_eq.mp q)
    subst z
    unfold clsIn at e
    split at e
    · rename_i c' d' cd' sl' ho
      have z := (X _ _ ho).symm.trans htp
      cases z
    · cases e
  ca := fun X p k => class_of c X p k
end

/-! ### isinstance, of exceptions too, against several classes too -/
/-- an exception object: its class -/
def excO (a D : Addr) : HO := .ext fun h => ClsAt h a D
inductive TyE (K : PySem.W.Frag) (H : Hp) : V → Value → Prop where
  | old {x : V} {t : Value} (h : TyOf K H x t) : TyE K H x t
  | exc {a D : Addr} (h : H a = some (excO a D)) (c : ExcCls K D) : TyE K H (.ref a) (.ref D)
  | tpl {a : Addr} {xs : List V} (h : SqT K H a xs) : TyE K H (.ref a) (.type "tuple")
def vVal : V → Value
  | .ref a => .ref a
  | .ty n => .type n
  | _ => .none
def isCls : V → Bool
  | .ref _ => true
  | .ty _ => true
  | _ => false
section
variable {X : Cx} {pins : List (Addr × Obj)} {σ : St} {H : Hp} {s : Shared} {A : Around} {E : Value → Shared → Prop} {Q : Value → Shared → Prop} {c : Value} {b : Bool}
theorem kit_of {x : V} {u t : Value} (I : Inv X pins σ H s) (rx : RelV x u) (ty : TyE X.K H x t) : (∃ P : Heap → Prop, KitX X.K u t P ∧ P s.heap) ∧ u ≠ .builtin "__main__.__loader__#opaque" := by
  cases ty with
  | @tpl a xs h =>
    cases (show u = Value.ref a from rx)
    obtain ⟨its, r, pl, hz⟩ := I.tuple h
    obtain ⟨o, h1, h2, _⟩ := pl
    exact ⟨⟨_, kitx_tuple, ⟨o, h1, h2⟩⟩, fun z => nomatch z⟩
  | old ty =>
    cases ty with
    | non => cases (show u = Value.none from rx); exact ⟨⟨_, kitx_none, True.intro⟩, fun z => nomatch z⟩
    | bl y => cases (show u = Value.bool y from rx); exact ⟨⟨_, kitx_bool, True.intro⟩, fun z => nomatch z⟩
    | int i => obtain ⟨t, q⟩ := (show ∃ t, u = Value.int i t from rx); cases q; exact ⟨⟨_, kitx_int, True.intro⟩, fun z => nomatch z⟩
    | str y => obtain ⟨t, q⟩ := (show ∃ t, u = Value.str y t from rx); cases q; exact ⟨⟨_, kitx_str, True.intro⟩, fun z => nomatch z⟩
    | flt y => obtain ⟨t, q⟩ := (show ∃ t, u = Value.float y t from rx); cases q; exact ⟨⟨_, kitx_float, True.intro⟩, fun z => nomatch z⟩
    | @lst a xs ea =>
      cases (show u = Value.ref a from rx)
      obtain ⟨_, _, n, _, h1⟩ := (show ObjOk X.prog X.w H s.heap a (.lst xs) from I.hok a _ ea)
      exact ⟨⟨_, kitx_list, ⟨_, h1, rfl⟩⟩, fun z => nomatch z⟩
    | @frz a ob xs ea =>
      cases (show u = Value.ref a from rx)
      obtain ⟨_, _, _, n, _, h1⟩ := (show ObjOk X.prog X.w H s.heap a (.frz ob (.lst xs)) from I.hok a _ ea)
      exact ⟨⟨_, kitx_list, ⟨_, h1, rfl⟩⟩, fun z => nomatch z⟩
    | @tup a xs ea =>
      cases (show u = Value.ref a from rx)
      obtain ⟨_, _, _, p⟩ := (show ObjOk X.prog X.w H s.heap a (.tup xs) from I.hok a _ ea)
      obtain ⟨o, h1, h2, _⟩ := p
      exact ⟨⟨_, kitx_tuple, ⟨o, h1, h2⟩⟩, fun z => nomatch z⟩
    | @dK a kvs ea =>
      cases (show u = Value.ref a from rx)
      obtain ⟨_, _, vs, _, p⟩ := (show ObjOk X.prog X.w H s.heap a (.dK kvs) from I.hok a _ ea)
      obtain ⟨o, es, ep, h1, h2, _⟩ := p
      exact ⟨⟨_, kitx_dict, ⟨o, h1, h2.1⟩⟩, fun z => nomatch z⟩
    | @dT a kvs ea =>
      cases (show u = Value.ref a from rx)
      obtain ⟨_, _, xs, _, o, es, ep, h1, h2, _⟩ := (show ObjOk X.prog X.w H s.heap a (.dT kvs) from I.hok a _ ea)
      exact ⟨⟨_, kitx_dict, ⟨o, h1, h2.1⟩⟩, fun z => nomatch z⟩
    | @ins a C dx fs ea cl ha hn htk hm =>
      cases (show u = Value.ref a from rx)
      obtain ⟨mA, O, _⟩ := ins_get I.hok ea
      obtain ⟨od, J, _⟩ := O.look
      exact ⟨⟨_, kitx_own (cl.get _) cl.hd ha hn htk hm, J⟩, fun z => nomatch z⟩
  | @exc a D h c =>
    cases (show u = Value.ref a from rx)
    obtain ⟨p, _⟩ := (show ObjOk X.prog X.w H s.heap a (excO a D) from I.hok a _ h)
    exact ⟨⟨_, kit_exc c, p⟩, fun z => nomatch z⟩
theorem vVal_rel {x : V} {u : Value} (h : isCls x = true) (r : RelV x u) : u = vVal x := by
  cases x with
  | ref a => exact r
  | ty n => exact r
  | _ => cases h
theorem vVals_rel : ∀ {xs : List V} {us : List Value}, xs.all isCls = true → Vals xs us → us = xs.map vVal
  | [], _, _, .nil => rfl
  | x :: xs, _, h, .cons r rs => by
    rw [List.all_cons, Bool.and_eq_true] at h
    rw [vVal_rel h.1 r, vVals_rel h.2 rs]; rfl
theorem call_isi : CallR X (.builtin "isinstance") (fun xs H Q => ∃ x y t b, xs = [x, y] ∧ isCls y = true ∧ TyE X.K H x t ∧ PySem.W.kitOne X.K t (vVal y) = some b ∧ Q (.bl b) H) := by
  intro pins s σ H xs us Q I r h
  obtain ⟨x, y, t, b, rfl, hc, ty, e, q⟩ := h
  obtain ⟨u, w', rfl, rx, ry⟩ := vals2 r
  obtain rfl := vVal_rel hc ry
  obtain ⟨⟨P, Z, p⟩, nb⟩ := kit_of I rx ty
  exact kia_one Z I.kIn p e nb fun tk => ⟨.bl b, H, I.tok _, rfl, q⟩
theorem call_isiT : CallR X (.builtin "isinstance") (fun xs H Q => ∃ x tp cs t b, xs = [x, .ref tp] ∧ H tp = some (.tup cs) ∧ cs.all isCls = true ∧ TyE X.K H x t ∧ PySem.W.kitAny X.K t (cs.map vVal) = some b ∧ Q (.bl b) H) := by
  intro pins s σ H xs us Q I r h
  obtain ⟨x, tp, cs, t, b, rfl, ht, hc, ty, e, q⟩ := h
  obtain ⟨u, w', rfl, rx, ry⟩ := vals2 r
  cases ry
  obtain ⟨⟨P, Z, p⟩, nb⟩ := kit_of I rx ty
  obtain ⟨_, its, rv, o, ho, hcl, n, hd⟩ := (show ObjOk X.prog X.w H s.heap tp (.tup cs) from I.hok tp _ ht)
  obtain rfl := vVals_rel hc rv
  obtain ⟨oc, od, oda, osl⟩ := o
  dsimp only at hcl hd
  subst hcl hd
  exact kia_tup Z I.kIn p ho e nb fun tk => ⟨.bl b, H, I.tok _, rfl, q⟩
end
end L2
namespace L2
open PySem PySem.Spec PyProof.Rows PySem.Calls PySem.W

/-! ### raise C(..), C an own class of errors without an __init__ -/
theorem own_obj {K : PySem.W.Frag} {h : Heap} {C : Addr} {bmB : List Value} {newId : String} (X : K.In h) (q : excIn K C bmB newId = true) :
    ∃ bm N nm q bs hdct sn sub ab col dd k0 k1 k2 k3 k5 mN, h.get? C = some (excClassObj nm q C N bs bm hdct sn sub ab col dd k0 k1 k2 k3 k5 newId) ∧ h.Ns N mN ∧ mN "__init__" = none ∧ OwnTail h bmB bm := by
  unfold excIn at q
  split at q
  · rename_i dd cl sl ho
    split at q
    · rename_i C' bm k0 k1 k2 k3 n k5 hm hs
      simp only [Bool.and_eq_true, Bool.not_eq_true', beq_iff_eq] at q
      obtain ⟨⟨⟨⟨⟨e1, e2⟩, e3⟩, e4⟩, e5⟩, e6⟩ := q
      subst e1 e2
      obtain ⟨c1, c2, c3, c4, c5, c6, c7, c8, c9, c10, c11⟩ := cl
      dsimp only at hm e3 e5 e6; subst hm e3
      have es : sl = #[k0, k1, k2, k3, some (.builtin n), k5] := by
        cases sl with | mk l => (simp only at hs; rw [hs])
      subst es
      refine ⟨bm, c4, c1, c5, c2, c6, c7, c8, c9, c10, dd, k0, k1, k2, k3, k5, h.nsMap c4, X _ _ ho, ?_, ?_, tail_of_in X e4⟩
      · exact .of_isNs (isNs_of_in X e5)
      · exact nsMap_none_of_in X e5 e6
    · cases q
  · cases q
abbrev mroVE : List Value := [.type "ValueError", .type "Exception", .type "BaseException", .type "object"]
section
variable {P : Program} {w : World} {K : PySem.W.Frag} {mg : Str → Option Value} {base : Heap} {N : List Str} {qual : Str} {scope : Scope} {f : Addr} {cdv : Value} {A : Around} {outer : List Env} {s : Shared} {H : Hp} {E : XK}
def tRaise (E : XK) (C : Addr) (t : TA) : TS := fun _ σ H => t σ H fun vs H1 => vs.length ≤ sizeLine ∧ E (.ref C) none H1
theorem ps_raise {x : Str} {C : Addr} {np cpos pos : Pos} {e₀ : Expr} {rest : List Expr} {t : TA} (hm : mg x = some (.ref C)) (hq : excIn K C mroVE "ValueError.__new__" = true)
    (ha : PA (cxOf (CXW P w) P w K mg base N qual scope f cdv A outer s H E) (e₀ :: rest) t) (hg : Gl (cxOf (CXW P w) P w K mg base N qual scope f cdv A outer s H E) x)
    (he : starEach (e₀ :: rest) (envOfC qual scope s.heap.objs.size f cdv) = (false, eval e₀ (envOfC qual scope s.heap.objs.size f cdv)) :: starEach rest (envOfC qual scope s.heap.objs.size f cdv) := by rfl)
    (hpl : (backTo cpos (starEach rest (envOfC qual scope s.heap.objs.size f cdv))).any (·.1) = false := by rfl) (hd : (x == ("__debug__" : Str)) = false := by decide) :
    PS (cxOf (CXW P w) P w K mg base N qual scope f cdv A outer s H E) (.Raise (some (.Call (.Name x np) (e₀ :: rest) [] cpos)) none pos) (tRaise E C t) := by
  intro pins s1 σ H1 D I h
  obtain ⟨bm, Nn, nm, qn, bs, hdct, sn, sub, ab, col, dd, k0, k1, k2, k3, k5, mN, hC, hN, hni, TL⟩ := own_obj I.ok.mod.kin hq
  have hand : (cxOf (CXW P w) P w K mg base N qual scope f cdv A outer s H E).A.handled = none := I.ok.hd rfl
  refine wpAny_Raise_call_subT (C := C) (nm := nm) (q := qn) (N := Nn) (bs := bs) (bm := bm) (hdct := hdct) (sn := sn) (sub := sub) (ab := ab) (col := col) (dd := dd) (k0 := k0) (k1 := k1) (k2 := k2) (k3 := k3) (k5 := k5)
    F.excBase_ValueError (mN := mN) (TL.hasType F.excBase_ValueError.hasBase) hand ?_ hni (ld_glob I hg hm ⟨rfl, ?_⟩ hd)
  · show (backTo cpos (starEach (e₀ :: rest) (envOfC qual scope s.heap.objs.size f cdv))).any (·.1) = false
    rw [he]; show (false || (backTo cpos (starEach rest (envOfC qual scope s.heap.objs.size f cdv))).any (·.1)) = false
    rw [hpl]; rfl
  · have hA := ha cpos pins s1 σ H1 _ I h
    show wpAny _ _ (evalArgs (.ref C) true (backTo cpos (starEach (e₀ :: rest) (envOfC qual scope s.heap.objs.size f cdv))) []) _ _ _
    have hA' : wpAny (model P w) (cxOf (CXW P w) P w K mg base N qual scope f cdv A outer s H E).A (spliced (backTo cpos (starEach (e₀ :: rest) (envOfC qual scope s.heap.objs.size f cdv)))) _ _ s1 := hA
    rw [he] at hA' ⊢
    refine Calls.evalArgs_plain (thn hA' fun us s2 ⟨vs, H2, I2, r, hl, q⟩ => ⟨rfl, ?_, ?_, ?_, ?_, fun h' e mk => xe_made I2 mk q⟩)
    · show us.length ≤ sizeLine
      rw [← r.length]; exact hl
    · exact I2.bk _ _ hC
    · exact hN.keeps I2.bk
    · exact TL.keeps I2.bk
end

/-! ### what may raise, at one state of the names -/
def CXAt (X : Cx) (pins : List (Addr × Obj)) (σ : St) (E : XK) (e : Value) (s' : Shared) : Prop := ∃ H1 s1, Inv X pins σ H1 s1 ∧ CXW X.prog X.w X.stack H1 s1 E e s'
abbrev TEx := St → Hp → VK → XK → Prop
abbrev TSx := Ends → (St → XK) → St → Hp → Prop
def PEx (X : Cx) (e : Expr) (t : TEx) : Prop :=
  ∀ (pins : List (Addr × Obj)) (s : Shared) (σ : St) (H : Hp) (Q : VK) (E : XK), Inv X pins σ H s → t σ H Q E → wpAny (model X.prog X.w) X.A (eval e X.env) (EP X pins σ Q) (CXAt X pins σ E) s
def PSx (X : Cx) (st : Stmt) (t : TSx) : Prop :=
  ∀ (pins : List (Addr × Obj)) (s : Shared) (σ : St) (H : Hp) (D : Ends) (E : St → XK), Inv X pins σ H s → t D E σ H → wpAny (model X.prog X.w) X.A (exec st X.env) (SP X pins D) (fun e s' => ∃ σ', CXAt X pins σ' (E σ') e s') s
def PSsx (X : Cx) (st : List Stmt) (t : TSx) : Prop :=
  ∀ (pins : List (Addr × Obj)) (s : Shared) (σ : St) (H : Hp) (D : Ends) (E : St → XK), Inv X pins σ H s → t D E σ H → wpAny (model X.prog X.w) X.A (execs st X.env) (SP X pins D) (fun e s' => ∃ σ', CXAt X pins σ' (E σ') e s') s
section
variable {X : Cx} {k : Nat} {f C : Addr} {fd : FuncData} {ps : List Str} {sp : Sp} {dvs : List V} {ds : List Value} {x m : Str} {p pos apos : Pos} {e o : Expr} {es : List Expr} {ta : TE} {t : TA}
theorem PA.nox {es : List Expr} {t : TA} (h : PA X.nox es t) (E : Value → Shared → Prop) {pos : Pos} {pins : List (Addr × Obj)} {s : Shared} {σ : St} {H : Hp} {Q : List V → Hp → Prop} (I : Inv X pins σ H s) (q : t σ H Q) :
    wpAny (model X.prog X.w) X.A (spliced (backTo pos (starEach es X.env))) (AP X pins σ Q) E s :=
  wpAny_mono (h pos pins s σ H Q (I.wish _) q) (fun _ _ ⟨vs, H', I', r, q⟩ => ⟨vs, H', I'.unwish, r, q⟩) fun _ _ z => False.elim z
theorem run_fnx {pins : List (Addr × Obj)} {σ : St} {H : Hp} {s : Shared} {Q : VK} {E : XK} {us : List Value} {vs : List V} (F : FnOk X.prog X.w X.K X.mg X.base (CXW X.prog X.w) k f fd ps sp) (hr : Room k X.A) (hb : Binds X.K fd ps ds) (hd : Vals dvs ds)
    (I : Inv X pins σ H s) (r : Vals vs us) (h : sp (vs ++ dvs) H Q E) : wpAny (model X.prog X.w) X.A (call (.ref f) us) (EP X pins σ Q) (CXAt X pins σ E) s := by
  have r2 : Vals (vs ++ dvs) (us ++ ds) := r.append hd
  have hl : (us ++ ds).length = ps.length := by rw [← r2.length]; exact F.len _ _ _ _ h
  refine wpAny_call (codeAny_mono (F.run X.A X.stack s H ⟨us, []⟩ (us ++ ds) (vs ++ dvs) Q E hr I.env0 (hb s us I.kIn hl) r2 h) fun r s' hq => ?_)
  cases r with
  | error e => exact ⟨H, s, I, hq⟩
  | ok fl =>
    cases fl with
    | ret u => exact I.after hq
    | next => exact False.elim hq
    | brk => exact False.elim hq
    | cont => exact False.elim hq
def tCallX (sp : Sp) (dvs : List V) (t : TA) : TEx := fun σ H Q E => t σ H fun vs H1 => sp (vs ++ dvs) H1 Q E
theorem pex_call (F : FnOk X.prog X.w X.K X.mg X.base (CXW X.prog X.w) k f fd ps sp) (hr : Room k X.A) (hg : Gl X x) (hm : X.mg x = some (.ref f)) (hk : PySem.W.keepIn X.K (.ref f) = true) (hb : Binds X.K fd ps ds) (hd : Vals dvs ds)
    (ha : PA X.nox (e :: es) t) (hdb : (x == ("__debug__" : Str)) = false := by decide) (he : starEach (e :: es) X.env = (false, eval e X.env) :: starEach es X.env := by rfl) (hpl : (backTo pos (starEach es X.env)).any (·.1) = false := by rfl) :
    PEx X (.Call (.Name x p) (e :: es) [] pos) (tCallX sp dvs t) := by
  intro pins s σ H Q E I h
  refine wpAny_Call_Name_kw (ld_glob I hg hm ?_ hdb)
  refine PySem.W.callWith_K (h₀ := X.base) I.ok.mod.kin hk (wpAny_mono (ha.nox (CXAt X pins σ E) I h) (fun us s1 ⟨vs, H1, I1, r, q⟩ => ⟨I1.kIn, ?_⟩) fun _ _ z => z) he hpl
  exact run_fnx F hr hb hd I1 r q
def tRetX (te : TEx) : TSx := fun D E σ H => te σ H D.rt (E σ)
theorem psx_ret {te : TEx} (he : PEx X e te) : PSx X (.Return (some e) pos) (tRetX te) := by
  intro pins s σ H D E I h
  exact wpAny_Return_some (wpAny_mono (he pins s σ H _ _ I h) (fun v s1 ⟨x, H1, I1, r1, q1⟩ => ⟨x, σ, H1, I1, r1, q1⟩) fun e s' z => ⟨σ, z⟩)
theorem psx_one {st : Stmt} {t : TSx} (h1 : PSx X st t) : PSsx X [st] t := by
  intro pins s σ H D E I h
  refine wpAny_execs_cons (wpAny_mono (h1 pins s σ H D E I h) (fun f s1 q => ?_) fun _ _ z => z)
  cases f with
  | next => exact wpAny_execs_nil q
  | ret v => exact q
  | brk => exact q
  | cont => exact q
end

/-! ### try: .. except C: .. -/
/-- the context of a handler's suite -/
def hcx (X : Cx) (e : Addr) : Cx := { X with A := X.A.mark (some (.ref e)), calm := false, xe := fun _ _ => False }
theorem hcx_in {X : Cx} {e : Addr} {pins : List (Addr × Obj)} {σ : St} {H : Hp} {s : Shared} (I : Inv X pins σ H s) : Inv (hcx X e) pins σ H s := by
  obtain ⟨ok, os, bare, bs, loc, cell, free, freeC, pin, hok, len⟩ := I
  exact ⟨⟨ok.mod, ok.kind, ok.glob, ok.blt, ok.above, ok.inj, ok.has, ok.cab, fun z => Bool.noConfusion (show false = true from z), ok.frames, ok.stk, ok.exf, ok.bs, ok.bsz, ok.noex, ok.exfs, ok.funs, ok.frf⟩, os, bare, bs, loc, cell, free, freeC, pin, hok, len⟩
theorem hcx_out {X : Cx} {e : Addr} (ok : X.Ok) {pins : List (Addr × Obj)} {σ : St} {H : Hp} {s : Shared} (I : Inv (hcx X e) pins σ H s) : Inv X pins σ H s := by
  obtain ⟨_, os, bare, bs, loc, cell, free, freeC, pin, hok, len⟩ := I
  exact ⟨ok, os, bare, bs, loc, cell, free, freeC, pin, hok, len⟩
theorem hcx_sp {X : Cx} {e : Addr} (ok : X.Ok) {pins : List (Addr × Obj)} {D : Ends} {f : Flow} {s : Shared} (h : SP (hcx X e) pins D f s) : SP X pins D f s := by
  cases f with
  | next => obtain ⟨σ', H', I, q⟩ := h; exact ⟨σ', H', hcx_out ok I, q⟩
  | brk => obtain ⟨σ', H', I, q⟩ := h; exact ⟨σ', H', hcx_out ok I, q⟩
  | cont => obtain ⟨σ', H', I, q⟩ := h; exact ⟨σ', H', hcx_out ok I, q⟩
  | ret u => obtain ⟨v, σ', H', I, r, q⟩ := h; exact ⟨v, σ', H', hcx_out ok I, r, q⟩
section
variable {X : Cx} {body suite : List Stmt} {b₀ : Stmt} {x : Str} {C : Addr} {np hpos pos : Pos} {tb : TSx} {th : TS}
def tTry (K : PySem.W.Frag) (C : Addr) (tb : TSx) (th : TS) : TS := fun D σ H => tb D (fun σ' cls _ H' => PySem.W.exmOne K cls (.ref C) = some true ∧ th D σ' H') σ H
theorem ps_try (hst : X.stack = X.env :: X.outer) (hfr : X.env.frame = some X.env.locals) (hb : PSsx X body tb) (hg : Gl X x) (hm : X.mg x = some (.ref C)) (hh : ∀ ea, PSs (hcx X ea) (b₀ :: suite) th) (hd : (x == ("__debug__" : Str)) = false := by decide) :
    PS X (.Try body [.ExceptHandler (some (.Name x np)) none (b₀ :: suite) hpos] [] [] pos) (tTry X.K C tb th) := by
  intro pins s σ H D I h
  refine wpAny_Try_except (wpAny_mono (hb pins s σ H D _ I h) (fun f s1 q => ?_) fun e s1 q => ?_)
  · cases f with
    | next => exact wpAny_execs_nil q
    | ret v => exact q
    | brk => exact q
    | cont => exact q
  · obtain ⟨σ', H1, s2, I1, ea, t, cls, H', B, rfl, fl, os, bare, hok, xu, hx, q⟩ := q
    rw [hst] at fl
    have back : ∀ (h' : Heap) (tk : Nat), B.StaysIn h' → h'.FunFrames B X.stack → XUn X.stack H1 H' s2.heap B h' → Inv X pins σ' H' { s1 with heap := h', toks := tk } := fun h' tk st fr xu' =>
      I1.call' (ch := []) os (xu'.un st fr) (hok.kept st) bare fun b z => nomatch z
    have fr0 : s1.heap.FunFrames B X.stack := by rw [hst]; exact fl.2.2.1
    refine wpAny_looks_onW (by rw [I.ok.frames, hst]) hfr fl fun h4 held4 up4 => ?_
    have x4 := xu.step fr0 up4
    refine wpAny_landsW held4 fun h5 fl5 up5 => ?_
    have fr4 : h4.FunFrames B X.stack := by rw [hst]; exact held4.2.2.1
    have x5 := x4.step fr4 up5
    have fr5 : h5.FunFrames B X.stack := by rw [hst]; exact fl5.2.2.1
    have I5 : Inv X pins σ' H' { s1 with heap := h5 } := back h5 s1.toks fl5.1 fr5 x5
    obtain ⟨ob, hob, hobc⟩ := fl5.there
    have LT : Looks (model X.prog X.w) h5 (typeOf (.ref ea)) cls := hobc ▸ (Looks.ld hob).andThen .now
    refine wpAny_handleBy_cons (codeAny_handlers_test ?_) (by intro z; cases z)
    have ld := fun Q E q => ld_glob (X := hcx X ea) (pos := np) (Q := Q) (E := E) (hcx_in I5) hg hm q hd
    refine ld _ _ ?_
    refine (exm_one (M := model X.prog X.w) I5.kIn LT hx).here ?_
    refine codeAny_handlers_suite ?_
    refine lands_againW fl5 fun h6 fl6 up6 => ?_
    have x6 := x5.step fr5 up6
    have fr6 : h6.FunFrames B X.stack := by rw [hst]; exact fl6.2.2.1
    have I6 : Inv X pins σ' H' { s1 with heap := h6 } := back h6 s1.toks fl6.1 fr6 x6
    exact wpAny_mono (hh ea pins _ σ' H' D (hcx_in I6) q) (fun f s7 q7 => hcx_sp I.ok q7) fun _ _ z => (show False from z).elim
end
end L2
namespace L2
open PySem PySem.Spec PyProof.Rows PySem.Calls PySem.W
section
variable {X : Cx} {pins : List (Addr × Obj)} {σ : St} {H : Hp} {s : Shared}
/-- as Inv.track, for a record that is none of ours -/
theorem Inv.trackN {a : Addr} {o : HO} (I : Inv X pins σ H s) (f0 : H a = none) (old : ∀ b ob, X.s₀.heap.get? b = some ob → b ≠ a) (f1 : X.env.locals ≠ a) (f4 : ∀ x c, X.env.cells.lookup x = some c → c ≠ a) (f5 : ∀ p ∈ X.pn ++ pins, p.1 ≠ a)
    (new : ObjOk X.prog X.w (upd H a o) s.heap a o) : Inv X pins σ (upd H a o) s := by
  refine ⟨I.ok, I.os, I.bare, ⟨I.base.keep, I.base.slot, fun b ob e n hx => ?_, I.base.there, fun b xs e => ?_, fun b ob u e => ?_, fun b ps e => ?_⟩, I.loc, I.cell, ?_, fun x c e => ?_, fun p hp => ?_, fun b u e => ?_, I.len⟩
  · rw [upd_ne (old b ob e)]; exact I.base.free b ob e n hx
  · have q := I.base.tups b xs e; rw [upd_ne (ne_of_none q f0)]; exact q
  · have q := I.base.frzs b ob u e; rw [upd_ne (ne_of_none q f0)]; exact q
  · obtain ⟨more, q⟩ := I.base.tbls b ps e; exact ⟨more, by rw [upd_ne (ne_of_none q f0)]; exact q⟩
  · rw [upd_ne f1]; exact I.free
  · rw [upd_ne (f4 x c e)]; exact I.freeC x c e
  · obtain ⟨e, n, ne, nf, d⟩ := I.pin p hp
    exact ⟨e, by rw [upd_ne (f5 p hp)]; exact n, ne, nf, d⟩
  · by_cases hb : b = a
    · subst hb; rw [upd_same] at e; cases e; exact new
    · rw [upd_ne hb] at e
      exact (I.hok b u e).stay (fun c v _ q => q) (fun c q => by rw [upd_ne (ne_of_none q f0)]; exact q) fun c xs q => by rw [upd_ne (ne_of_none q f0)]; exact q
/-- a local name goes -/
theorem name_gone {M : Model} {A : Around} {E : Value → Shared → Prop} {j : Nat} {n : Str} {pos : Pos} {Q : Unit → Shared → Prop} (I : Inv X pins σ H s) (hN : X.N.Nodup) (hj : X.N[j]? = some n) (hl : X.env.scope.names.lookup n = some .local)
    (h : ∀ s', Inv X pins (σ.set j none) H s' → Q () s') : wpAny M A (do bindName X.env n .none; unbindBehindTheSuite X.env n pos) Q E s := by
  obtain ⟨m, hn, lo⟩ := id I.loc
  have hjσ : j < σ.length := by rw [I.len]; exact (List.getElem?_eq_some_iff.mp hj).1
  refine wpAny_nameGoes_keeps hl hn (by rw [I.ok.kind]; rfl) fun h' v hn' sb => h _ ?_
  have cne := I.cne
  have ltL : ∀ b o, X.s₀.heap.get? b = some o → b ≠ X.env.locals := fun b o e => Nat.ne_of_lt (Nat.lt_of_lt_of_le (Heap.lt_size e) I.ok.above)
  refine ⟨I.ok, I.os, I.bare, ⟨fun b o e n hb hx => ?_, fun b o e n hb hx => ?_, I.base.free, fun b o e hx => ?_, I.base.tups, I.base.frzs, I.base.tbls⟩, ⟨_, hn', fun i y v' e1 e2 e3 => ?_⟩, fun y c e => ?_, I.free, I.freeC, fun p hp => ?_, fun b ob e => ?_, ?_⟩
  · exact (sb.2 b (ltL b o e)).trans (I.base.keep b o e n hb hx)
  · obtain ⟨sl, q⟩ := I.base.slot b o e n hb hx
    exact ⟨sl, (sb.2 b (ltL b o e)).trans q⟩
  · obtain ⟨o', q⟩ := I.base.there b o e hx
    exact ⟨o', (sb.2 b (ltL b o e)).trans q⟩
  · by_cases hij : i = j
    · subst hij
      rw [List.getElem?_set_self hjσ] at e2
      cases e2
    · rw [List.getElem?_set_ne (Ne.symm hij)] at e2
      obtain ⟨u', r', q⟩ := lo i y v' e1 e2 e3
      refine ⟨u', r', ?_⟩
      rcases q with ⟨k, e⟩ | ⟨k, c, e, z⟩
      · refine .inl ⟨k, ?_⟩
        have hy : y ≠ n := fun e => hij (nodup_ix hN e1 (e ▸ hj))
        simp [hy, e]
      · exact .inr ⟨k, c, e, z.sameBut sb (cne y c e)⟩
  · obtain ⟨w', z⟩ := I.cell y c e
    exact ⟨w', z.sameBut sb (cne y c e)⟩
  · obtain ⟨e, n, ne, nf, d⟩ := I.pin p hp
    exact ⟨(sb.2 p.1 ne).trans e, n, ne, nf, d⟩
  · refine (I.hok b ob e).stay (fun c w' hc q => (sb.2 c ?_).trans q) (fun _ q => q) fun _ _ q => q
    rintro rfl
    rcases hc with z | z
    · rw [← z, I.free] at e; cases e
    · rw [I.free] at z; cases z
  · rw [List.length_set]; exact I.len
end
section
variable {X : Cx} {body suite : List Stmt} {b₀ : Stmt} {x n : Str} {C : Addr} {np hpos pos : Pos} {tb : TSx} {th : TS} {j : Nat}
def endsAs (D : Ends) (j : Nat) : Ends := { nx := fun σ H => D.nx (σ.set j none) H, rt := D.rt, bk := fun σ H => D.bk (σ.set j none) H, ct := fun σ H => D.ct (σ.set j none) H }
def tTryAs (K : PySem.W.Frag) (C : Addr) (j : Nat) (tb : TSx) (th : TS) : TS := fun D σ H => tb D (fun σ' cls _ H' => ∃ G : Addr, cls = .ref G ∧ PySem.W.exmOne K cls (.ref C) = some true ∧ ∀ ea, H' ea = none → th (endsAs D j) (σ'.set j (some (.ref ea))) (upd H' ea (excO ea G))) σ H
theorem ps_tryAs (hN : X.N.Nodup) (hj : X.N[j]? = some n) (hl : X.env.scope.names.lookup n = some .local) (hex : X.ex = []) (hst : X.stack = X.env :: X.outer) (hfr : X.env.frame = some X.env.locals) (hb : PSsx X body tb) (hg : Gl X x) (hm : X.mg x = some (.ref C))
    (hh : ∀ ea, PSs (hcx X ea) (b₀ :: suite) th) (hd : (x == ("__debug__" : Str)) = false := by decide) :
    PS X (.Try body [.ExceptHandler (some (.Name x np)) (some n) (b₀ :: suite) hpos] [] [] pos) (tTryAs X.K C j tb th) := by
  intro pins s σ H D I h
  refine wpAny_Try_except (wpAny_mono (hb pins s σ H D _ I h) (fun f s1 q => ?_) fun e s1 q => ?_)
  · cases f with
    | next => exact wpAny_execs_nil q
    | ret v => exact q
    | brk => exact q
    | cont => exact q
  · obtain ⟨σ', H1, s2, I1, ea, t, cls, H', B, rfl, fl, os, bare, hok, xu, G, rfl, hx, q⟩ := q
    rw [hst] at fl
    have back : ∀ (h' : Heap) (tk : Nat), B.StaysIn h' → h'.FunFrames B X.stack → XUn X.stack H1 H' s2.heap B h' → Inv X pins σ' H' { s1 with heap := h', toks := tk } := fun h' tk st fr xu' =>
      I1.call' (ch := []) os (xu'.un st fr) (hok.kept st) bare fun b z => nomatch z
    have fr0 : s1.heap.FunFrames B X.stack := by rw [hst]; exact fl.2.2.1
    refine wpAny_looks_onW (by rw [I.ok.frames, hst]) hfr fl fun h4 held4 up4 => ?_
    have x4 := xu.step fr0 up4
    refine wpAny_landsW held4 fun h5 fl5 up5 => ?_
    have fr4 : h4.FunFrames B X.stack := by rw [hst]; exact held4.2.2.1
    have x5 := x4.step fr4 up5
    have fr5 : h5.FunFrames B X.stack := by rw [hst]; exact fl5.2.2.1
    have I5 : Inv X pins σ' H' { s1 with heap := h5 } := back h5 s1.toks fl5.1 fr5 x5
    obtain ⟨ob, hob, hobc⟩ := fl5.there
    have LT : Looks (model X.prog X.w) h5 (typeOf (.ref ea)) (.ref G) := hobc ▸ (Looks.ld hob).andThen .now
    refine wpAny_handleBy_cons (codeAny_handlers_test ?_) (by intro z; cases z)
    have ld := fun Q E q => ld_glob (X := hcx X ea) (pos := np) (Q := Q) (E := E) (hcx_in I5) hg hm q hd
    refine ld _ _ ?_
    refine (exm_one (M := model X.prog X.w) I5.kIn LT hx).here ?_
    refine codeAny_handlers_suite_as ?_
    refine lands_againW fl5 fun h6 fl6 up6 => ?_
    have x6 := x5.step fr5 up6
    have fr6 : h6.FunFrames B X.stack := by rw [hst]; exact fl6.2.2.1
    have I6 : Inv X pins σ' H' { s1 with heap := h6 } := back h6 s1.toks fl6.1 fr6 x6
    obtain ⟨oe, vs, eoe, coe, doe, _⟩ := fl6.first
    have nee : ∀ b o, s2.heap.get? b = some o → b ≠ ea := fun b o e z => by
      subst z
      by_cases hbf : b ∈ frs X.stack
      · obtain ⟨_, o', ho', hd'⟩ := fr6.mem hbf
        rw [eoe] at ho'; cases ho'
        exact hd' vs doe
      · obtain ⟨o', q'⟩ := xu.thereB b o e hbf
        rw [fl6.2.1] at q'; cases q'
    have fe : H' ea = none := by
      cases z : H' ea with
      | none => rfl
      | some u =>
        have lt := hok ea u z
        exact absurd lt fun lt => by
          have q' : ∃ o, B.get? ea = some o := by
            cases u with
            | lst xs => obtain ⟨_, _, _, _, e⟩ := lt; exact ⟨_, e⟩
            | tup xs => obtain ⟨_, _, _, o, e, _⟩ := lt; exact ⟨_, e⟩
            | dK kvs => obtain ⟨_, _, _, _, o, _, _, e, _⟩ := lt; exact ⟨_, e⟩
            | dT kvs => obtain ⟨_, _, _, _, o, _, _, e, _⟩ := lt; exact ⟨_, e⟩
            | set S n => obtain ⟨o, _, _, _, e, _⟩ := lt; exact ⟨_, e⟩
            | ins C dx fs => obtain ⟨_, _, _, e, _⟩ := lt; exact ⟨_, e⟩
            | own y => exact lt
            | xd fs => obtain ⟨_, ⟨o, _, _, e, _⟩, _⟩ := lt; exact ⟨_, e⟩
            | rng lo hi => obtain ⟨_, _, _, e⟩ := lt; exact ⟨_, e⟩
            | frz o u => exact ⟨_, lt.1⟩
            | tbl ps => exact ⟨_, lt⟩
            | met f y => exact ⟨_, lt⟩
            | ext φ => exact lt.2.1
          obtain ⟨o, q'⟩ := q'
          rw [fl6.2.1] at q'; cases q'
    have I7 : Inv X pins σ' (upd H' ea (excO ea G)) { s1 with heap := h6 } := by
      refine I6.trackN fe (fun b ob' e z => ?_) (fun z => ?_) (fun y c e z => ?_) (fun p hp z => ?_) ⟨⟨oe, eoe, coe⟩, ⟨oe, eoe⟩, fun h1 h2 ⟨o, e, c⟩ k => ⟨o, k o e, c⟩⟩
      · obtain ⟨o', e'⟩ := I1.base.there b ob' e (by rw [hex]; exact fun z => nomatch z)
        exact nee b o' e' z
      · obtain ⟨m, ⟨o, _, _, e, _⟩, _⟩ := I1.loc
        exact nee _ o e z
      · obtain ⟨v, o, e', _⟩ := I1.cell y c e
        exact nee c o e' z
      · exact nee p.1 p.2 (I1.pin p hp).1 z
    refine store_ok (X := hcx X ea) (v := .ref ea) (hcx_in I7) hN hj (.inl hl) rfl (fun s8 I8 => ?_) (.inr hl)
    refine wpAny_mono (hh ea pins s8 _ _ (endsAs D j) I8 (q ea fe)) (fun f s9 q9 => ?_) fun _ _ z => (show False from z).elim
    have q9 := hcx_sp I.ok q9
    cases f with
    | next => obtain ⟨σ9, H9, I9, q9⟩ := q9; exact name_gone I9 hN hj hl fun s' I' => ⟨_, H9, I', q9⟩
    | brk => obtain ⟨σ9, H9, I9, q9⟩ := q9; exact name_gone I9 hN hj hl fun s' I' => ⟨_, H9, I', q9⟩
    | cont => obtain ⟨σ9, H9, I9, q9⟩ := q9; exact name_gone I9 hN hj hl fun s' I' => ⟨_, H9, I', q9⟩
    | ret u => obtain ⟨v, σ9, H9, I9, r9, q9⟩ := q9; exact name_gone I9 hN hj hl fun s' I' => ⟨v, _, H9, I', r9, q9⟩
end
end L2
namespace L2
open PySem PySem.Spec PyProof.Rows PySem.Calls
/-! ### methods of texts -/
section
variable {X : Cx}
theorem mt_startswith : MtM X "str.startswith" (fun x vs H Q => ∃ z y, x = .str z ∧ vs = [.str y] ∧ Q (.bl (Txt.startswith z y)) H) := by
  intro pins s σ H x vs v us Q I rx rv h
  obtain ⟨z, y, rfl, rfl, q⟩ := h
  obtain ⟨t, rfl⟩ := rx
  obtain ⟨u, rfl, t', rfl⟩ := rv.one
  exact SC.startswith ⟨.bl _, H, I, rfl, q⟩
theorem mt_find : MtM X "str.find" (fun x vs H Q => ∃ z y, x = .str z ∧ vs = [.str y] ∧ Q (.int (Txt.find z y)) H) := by
  intro pins s σ H x vs v us Q I rx rv h
  obtain ⟨z, y, rfl, rfl, q⟩ := h
  obtain ⟨t, rfl⟩ := rx
  obtain ⟨u, rfl, t', rfl⟩ := rv.one
  exact SC.find ⟨.int _, H, I.tok _, ⟨_, rfl⟩, q⟩
/-- text * n -/
def repN (l : List Nat) : Nat → List Nat
  | 0 => []
  | k + 1 => repN l k ++ l
theorem repN_len (l : List Nat) : ∀ k, (repN l k).length = k * l.length
  | 0 => by simp [repN]
  | k + 1 => by rw [repN, List.length_append, repN_len l k, Nat.succ_mul]
theorem rep_is (x : Str) (k : Nat) : (⟨(List.replicate k x.cps).foldl (· ++ ·) #[]⟩ : Str) = S (repN (cd x) k) := by
  have g : ∀ k, (List.replicate k x.cps).foldl (· ++ ·) #[] = (repN (cd x) k).toArray := fun k => by
    induction k with
    | zero => rfl
    | succ k ih => rw [List.replicate_succ', List.foldl_append, ih]; show _ ++ x.cps = _; rw [repN]; apply Array.ext'; simp [cd]
  rw [g]; rfl
theorem op_mul_str : OpR X (binaryOp .Mult) (fun x y H Q => ∃ z n, x = .str z ∧ y = .int n ∧ 0 ≤ n ∧ n ≤ 1000000 ∧ z.length * n.toNat ≤ 1000000 ∧ z.length ≤ 1000000 ∧ Q (.str (S (repN (cd z) n.toNat))) H) := by
  intro pins s σ H x y v u Q I rx ry h
  obtain ⟨z, n, rfl, rfl, h0, h1, h2, h3, q⟩ := h
  obtain ⟨t, rfl⟩ := rx
  obtain ⟨t', rfl⟩ := ry
  have tl : Builtin.Str.tooLong (z.length * n.toNat) = false := by
    unfold Builtin.Str.tooLong
    exact decide_eq_false (by rw [sizeLine_eq]; omega)
  refine P.mul_str ?_ ?_ (fun _ _ => tl) ?_
  · rw [decide_eq_false (by omega), decide_eq_false (by omega)]; rfl
  · intro hn _ hgt
    have : (2 ^ 63 - 1 : Int) / n ≥ 1000000 := by
      have : (1000000 : Int) * n ≤ 2 ^ 63 - 1 := by omega
      exact Int.le_ediv_of_mul_le (by omega) this
    omega
  · have fin : ∀ y : Str, y = S (repN (cd z) n.toNat) → ∀ t tk, EP X pins σ Q (.str y t) { s with toks := tk } := fun y e t tk => by
      subst e; exact ⟨.str _, H, I.tok _, ⟨_, rfl⟩, q⟩
    by_cases hn : n < 1
    · rw [if_pos hn]
      have e0 : n = 0 := by omega
      subst e0
      exact ⟨by rw [sizeLine_eq]; exact Nat.zero_le _, fin _ rfl _ _⟩
    · rw [if_neg hn]
      by_cases h1 : (n == 1 || z.length == 0) = true
      · rw [if_pos h1]
        refine fin z ?_ t s.toks
        rcases Bool.or_eq_true_iff.mp h1 with e | e
        · have e' : n = 1 := by simpa using e
          subst e'
          show z = S (repN (cd z) 1)
          rw [show repN (cd z) 1 = cd z from by simp [repN], S_cd]
        · have e' : (cd z) = [] := List.eq_nil_of_length_eq_zero (by rw [← len_cd]; simpa using e)
          have : ∀ k, repN [] k = [] := fun k => by induction k with | zero => rfl | succ k ih => simp [repN, ih]
          rw [e', this, ← e', S_cd]
      · rw [if_neg h1]
        refine ⟨?_, fin _ (rep_is z n.toNat) _ _⟩
        rw [rep_is, len_S, repN_len, ← len_cd, sizeLine_eq, Nat.mul_comm]
        omega
/-- f'..{text!r}' -/
theorem pe_fstrR {c : Str} {j : Nat} {e : Expr} {te : TE} {p1 p2 pos : Pos} (he : PE X e te) (hc : c.length ≤ 1000 := by decide +kernel) :
    PE X (.JoinedStr [.Constant (.str c) j p1, .FormattedValue e 114 none p2] pos) (fun σ H Q => te σ H fun x H1 => ∃ z, x = .str z ∧ z.length ≤ 100000 ∧ (∀ k ∈ cd z, k < 1000) ∧ ∀ y, Q (.str y) H1) := by
  intro pins s σ H Q I h
  have l0 : (Str.empty ++ c).length = c.length := by rw [strLen_append]; exact Nat.zero_add _
  refine JoinedStr_many (joinParts_cons (Calls.Constant_str ⟨?_, ?_⟩))
  · rw [l0, sizeLine_eq]; omega
  · refine joinParts_cons (wpAny_FormattedValue_repr (thn (he pins _ σ H _ (I.tok _) h) fun v s1 ⟨x, H1, I1, r, z, ex, hz, hk, q⟩ => ?_))
    subst ex
    obtain ⟨t, rfl⟩ := r
    have hl : (reprText z).length ≤ 1000002 := Nat.le_trans (StrLaws.reprText_len z fun c hc => Nat.lt_of_lt_of_le (hk c hc) (by decide)) (by omega)
    refine wpAny_pyReprObj_str (formatField_str (fun t' tk => ⟨?_, joinParts_nil ⟨.str _, H1, I1.tok _, ⟨_, rfl⟩, q _⟩ ?_⟩) ?_) ?_
    · rw [strLen_append, l0, sizeLine_eq]; omega
    · rw [strLen_append, l0, sizeLine_eq]; omega
    · rw [sizeLine_eq]; omega
    · rw [sizeLine_eq]; omega
end
end L2
namespace L2
open PySem PySem.Spec PyProof.Rows PySem.Calls
/-! ### a def with defaults: T their tuple, ds its items -/
structure FunD (K : PySem.W.Frag) (x qual : Str) (st : Stmt) (ds : List Value) (f : Addr) (fd : FuncData) : Prop where
  ex : ∃ (T : Addr) (oc : Value) (od : Option Addr) (kV doc pm : Value) (an : Option Addr) (cdv ct : Value) (osl : Array (Option Value)) (to : Obj) (n : Nat),
    fd = PySem.W.fnOf x qual (defArgs st) (defBody st) (defScope st) (.ref T) kV doc pm an cdv ct ∧ K.lookup f = some ⟨oc, od, .func fd, osl⟩ ∧ PySem.W.codeIn K cdv qual = true ∧ K.lookup T = some to ∧ to.cls = .type "tuple" ∧ to.data = .seq ds.toArray n
  kp : PySem.W.keepIn K (.ref f) = true
section
variable {P : Program} {w : World} {K : PySem.W.Frag} {mg : Str → Option Value} {base : Heap} {x qual : Str} {st : Stmt} {f : Addr} {fd : FuncData} {N ps : List Str} {k : Nat} {sp : Sp} {ds : List Value}
theorem FunD.okX (F : FunD K x qual st ds f fd) (S : FnScope N ps (defScope st)) (len : ∀ vs H Q E, sp vs H Q E → vs.length = ps.length)
    (hbody : ∀ (cdv : Value) (A : Around) (outer : List Env) (s : Shared) (H : Hp) (vs : List V) (Q : VK) (E : XK), Room k (A.deeper (envOfC qual (defScope st) s.heap.objs.size f cdv)) → sp vs H Q E →
      ∃ t, PSs (cxOf (CXW P w) P w K mg base N qual (defScope st) f cdv A outer s H E) (defBody st) t ∧ t { nx := fun _ H' => Q .non H', rt := Q } (start N vs) H) : FnOk P w K mg base (CXW P w) (k + 1) f fd ps sp := by
  obtain ⟨T, oc, od, kV, doc, pm, an, cdv, ct, osl, to, n, rfl, lk, hcd, _⟩ := F.ex
  exact fn_of lk hcd S len fun A outer s H vs Q E hr hsp => hbody cdv A outer s H vs Q E hr hsp
theorem FunD.ok (F : FunD K x qual st ds f fd) (S : FnScope N ps (defScope st)) (len : ∀ vs H Q E, sp vs H Q E → vs.length = ps.length)
    (hbody : ∀ (cdv : Value) (A : Around) (outer : List Env) (s : Shared) (H : Hp) (vs : List V) (Q : VK) (E : XK), Room k (A.deeper (envOfC qual (defScope st) s.heap.objs.size f cdv)) → sp vs H Q E →
      ∃ t, PSs (cxOf CX0 P w K mg base N qual (defScope st) f cdv A outer s H E).nox (defBody st) t ∧ t { nx := fun _ H' => Q .non H', rt := Q } (start N vs) H) : FnOk P w K mg base CX0 (k + 1) f fd ps sp := by
  obtain ⟨T, oc, od, kV, doc, pm, an, cdv, ct, osl, to, n, rfl, lk, hcd, _⟩ := F.ex
  refine fn_of lk hcd S len fun A outer s H vs Q E hr hsp => ?_
  obtain ⟨t, h, q⟩ := hbody cdv A outer s H vs Q E hr hsp
  exact ⟨t, h.nox, q⟩
/-- its arguments bind: es the defaults that fill up -/
theorem FunD.binds {es : List Value} (F : FunD K x qual st ds f fd)
    (h : ∀ (T : Addr) (kV doc pm : Value) (an : Option Addr) (cdv ct : Value) (us : List Value) (M : Model) (A : Around) (E : Value → Shared → Prop) (Q : List (Str × Value) → Shared → Prop) (s : Shared) (to : Obj) (n : Nat), s.heap.get? T = some to → to.cls = .type "tuple" → to.data = .seq ds.toArray n →
      (us ++ es).length = ps.length → Q (ps.zip (us ++ es)) s → wpAny M A (bindArgs (PySem.W.fnOf x qual (defArgs st) (defBody st) (defScope st) (.ref T) kV doc pm an cdv ct) ⟨us, []⟩) Q E s) : Binds K fd ps es := by
  obtain ⟨T, oc, od, kV, doc, pm, an, cdv, ct, osl, to, n, rfl, lk, hcd, lt, tc, td⟩ := F.ex
  intro s us X hl M A E Q q
  exact h T kV doc pm an cdv ct us M A E Q s to n (X _ _ lt) tc td hl q
end

/-! ### classes of the text: who stands under whom -/
section
variable {K : PySem.W.Frag} {C D : Addr} {cd : ClassData} {r b : Bool} {T : String}
theorem kit_self : PySem.W.kitOne K (.ref D) (.ref D) = some true := by unfold PySem.W.kitOne; rw [if_pos (beq_self_eq_true _)]
theorem kitCls_ref (h1 : PySem.W.clsIn K C = some cd) (h2 : PySem.W.typeIn K (.ref C) = some (.type "type")) (h3 : PySem.W.mroIn K D (.ref C) = some r) : PySem.W.kitCls K (.ref D) (.ref C) = some r := by
  show (if ((PySem.W.clsIn K C).isSome && PySem.W.typeIn K (.ref C) == some (.type "type")) = true then PySem.W.mroIn K D (.ref C) else none) = some r
  rw [h1, h2, h3]; rfl
theorem kit_ref (h1 : PySem.W.clsIn K C = some cd) (h2 : PySem.W.typeIn K (.ref C) = some (.type "type")) (h3 : PySem.W.mroIn K D (.ref C) = some r) (hne : (Value.ref D == Value.ref C) = false) : PySem.W.kitOne K (.ref D) (.ref C) = some r := by
  unfold PySem.W.kitOne
  rw [if_neg (by rw [hne]; decide)]
  exact kitCls_ref h1 h2 h3
theorem kit_rty (hm : PySem.W.kitMeta T = true) (h3 : PySem.W.mroIn K D (.type T) = some r) : PySem.W.kitOne K (.ref D) (.type T) = some r := by
  unfold PySem.W.kitOne
  rw [if_neg (by intro z; cases beq_iff_eq.mp z)]
  show (if PySem.W.kitMeta T = true then PySem.W.mroIn K D (.type T) else none) = some r
  rw [if_pos hm]; exact h3
theorem exm_ref (h0 : PySem.W.subIn K (.ref C) (.type "BaseException") = some true) (h1 : PySem.W.clsIn K C = some cd) (h2 : PySem.W.typeIn K (.ref C) = some (.type "type")) (h3 : PySem.W.mroIn K D (.ref C) = some r) : PySem.W.exmOne K (.ref D) (.ref C) = some r := by
  unfold PySem.W.exmOne
  rw [h0, if_pos (by rfl)]
  exact kitCls_ref h1 h2 h3
theorem kitAny_no {t c : Value} {l : List Value} (h : PySem.W.kitOne K t c = some false) (hr : PySem.W.kitAny K t l = some b) : PySem.W.kitAny K t (c :: l) = some b := by
  unfold PySem.W.kitAny
  rw [h]; exact hr
theorem kitAny_nil {t : Value} : PySem.W.kitAny K t [] = some false := rfl
theorem excCls_mk (ga : PySem.W.findIn K (.ref D) "__getattribute__" = some (some (.builtin "BaseException.__getattribute__"))) (gk : PySem.W.findIn K (.ref D) "__getattr__" = some none) (cl : PySem.W.clsIn K D = some cd) (ha : PySem.W.findIn K (.ref D) "__class__" = some (some (.builtin "object.__class__")))
    (hn : PySem.W.specialIn K (.builtin "object.__class__") "__get__" = some (some (.builtin "getset_descriptor.__get__"))) (tk : PySem.W.takesIn K (.builtin "object.__class__") = some true) (mo : PySem.W.mroIn K D (.type "object") = some true) (mb : PySem.W.mroIn K D (.type "BaseException") = some true) : ExcCls K D :=
  ⟨ga, gk, by rw [cl]; rfl, ha, hn, tk, mo, mb⟩
theorem app_len {α : Type} {us ds : List α} {n m : Nat} (h : (us ++ ds).length = n) (hm : ds.length + m = n) : us.length = m := by rw [List.length_append] at h; omega
theorem funD_mk {x qual : Str} {st : Stmt} {f T : Addr} {oc : Value} {od an dd : Option Addr} {osl dsl : Array (Option Value)} {kV doc pm cdv ct : Value} {ds : List Value} {n : Nat} (l : K.lookup f = some ⟨oc, od, .func (PySem.W.fnOf x qual (defArgs st) (defBody st) (defScope st) (.ref T) kV doc pm an cdv ct), osl⟩)
    (c : PySem.W.codeIn K cdv qual = true) (k : PySem.W.keepIn K (.ref f) = true) (lt : K.lookup T = some ⟨.type "tuple", dd, .seq ds.toArray n, dsl⟩) : FunD K x qual st ds f (PySem.W.fnOf x qual (defArgs st) (defBody st) (defScope st) (.ref T) kV doc pm an cdv ct) :=
  ⟨⟨T, oc, od, kV, doc, pm, an, cdv, ct, osl, _, n, rfl, l, c, lt, rfl, rfl⟩, k⟩
end
end L2
/-! written numbers, as lists of codes -/
namespace L2
theorem Bt.ValueError : PySem.bootBuiltins "ValueError" = some (.type "ValueError") := PyProof.Rows.Boot.«ValueError»
open PySem PySem.Spec PyProof.Rows
def FIG : Str := "0123456789"
def inF (c : Nat) : Bool := !(Builtin.Str.occurrences FIG (S [c]) 0 FIG.length 1).isEmpty
theorem inF_iff (c : Nat) : inF c = true ↔ 48 ≤ c ∧ c ≤ 57 := by
  have h : inF c = decide (c ∈ FIG.cps.toList) := StrLaws.found_one FIG c
  have e : FIG.cps.toList = [48, 49, 50, 51, 52, 53, 54, 55, 56, 57] := by decide +kernel
  rw [h, e, decide_eq_true_iff]
  simp only [List.mem_cons, List.not_mem_nil, or_false]
  omega
theorem occF {c : Nat} (h : inF c = true) : Builtin.Str.occurrences FIG (S [c]) 0 FIG.length 1 = [c - 48] := by
  obtain ⟨h1, h2⟩ := (inF_iff c).mp h
  have : c = 48 ∨ c = 49 ∨ c = 50 ∨ c = 51 ∨ c = 52 ∨ c = 53 ∨ c = 54 ∨ c = 55 ∨ c = 56 ∨ c = 57 := by omega
  rcases this with e | e | e | e | e | e | e | e | e | e <;> (subst e; decide +kernel)
theorem findF {c : Nat} (h : inF c = true) : Txt.find FIG (S [c]) = ((c - 48 : Nat) : Int) := by
  unfold Txt.find
  rw [occF h]
/-- what figures are worth -/
def val (l : List Nat) : Int := l.foldl (fun a c => a * 10 + ((c - 48 : Nat) : Int)) 0
theorem val_snoc (l : List Nat) (c : Nat) : val (l ++ [c]) = val l * 10 + ((c - 48 : Nat) : Int) := by unfold val; rw [List.foldl_append]; rfl
theorem val_take {l : List Nat} {i c : Nat} (h : l[i]? = some c) : val (l.take (i + 1)) = val (l.take i) * 10 + ((c - 48 : Nat) : Int) := by
  rw [List.take_succ, h]; exact val_snoc _ _
theorem val_bound : ∀ (n : Nat) (l : List Nat), l.length = n → l.all inF = true → 0 ≤ val l ∧ val l < 10 ^ n
  | 0, l, e, _ => by rw [List.eq_nil_of_length_eq_zero e]; exact ⟨by decide, by decide⟩
  | n + 1, l, e, h => by
    have hne : l ≠ [] := fun z => by rw [z] at e; cases e
    have el : l = l.dropLast ++ [l.getLast hne] := (List.dropLast_concat_getLast hne).symm
    rw [el, List.all_append, Bool.and_eq_true] at h
    obtain ⟨i1, i2⟩ := val_bound n l.dropLast (by rw [List.length_dropLast]; omega) h.1
    have hc := (inF_iff (l.getLast hne)).mp (by simpa using h.2)
    rw [el, val_snoc, Int.pow_succ]
    exact ⟨by omega, by omega⟩
theorem pow10_ib {x : Int} {n : Nat} (h0 : 0 ≤ x) (h : x < 10 ^ n) : ib x ≤ 4 * n := by
  refine ib_big ?_
  have h1 : (10 : Int) ^ n ≤ 16 ^ n := by
    have : (10 : Nat) ^ n ≤ 16 ^ n := Nat.pow_le_pow_left (by decide) n
    exact_mod_cast this
  have h2 : ((2 : Nat) ^ (4 * n)) = 16 ^ n := by rw [Nat.pow_mul]
  rw [h2]
  have h3 : x < ((16 ^ n : Nat) : Int) := by
    have e : ((16 ^ n : Nat) : Int) = (16 : Int) ^ n := by push_cast; rfl
    rw [e]; omega
  omega
/-! ### the first sign -/
theorem cutFrom (l : List Nat) (k : Nat) : cutN l (some (k : Int)) none = l.drop k := by
  unfold cutN
  have e1 : HT.sIx l.length 0 (some (k : Int)) = min k l.length := HT.sIx_nat l.length 0 k
  have e2 : HT.sIx l.length l.length none = l.length := rfl
  rw [e1, e2]
  by_cases h : k ≤ l.length
  · rw [Nat.min_eq_left h, List.take_of_length_le (by rw [List.length_drop]; exact Nat.le_refl _)]
  · rw [Nat.min_eq_right (by omega), List.drop_length, List.drop_eq_nil_of_le (by omega), List.take_nil]
theorem starts1 (z : Str) (k : Nat) : Txt.startswith z (S [k]) = decide ((cd z).take 1 = [k]) := by
  unfold Txt.startswith Builtin.Str.subAt
  have hl : (S [k]).length = 1 := rfl
  rw [hl]
  have hz : z.length = (cd z).length := len_cd z
  have e : z = S (cd z) := (S_cd z).symm
  cases h : cd z with
  | nil =>
    rw [hz, h]
    simp
  | cons c r =>
    rw [hz, h]
    have ex : z.cps.extract 0 (0 + 1) = #[c] := by
      apply Array.ext'
      rw [Array.toList_extract]
      have : z.cps.toList = c :: r := h
      rw [this]; rfl
    rw [ex]
    have e1 : decide (0 + 1 ≤ (c :: r).length) = true := decide_eq_true (by rw [List.length_cons]; omega)
    have e2 : (c :: r).take 1 = [c] := rfl
    rw [e1, e2, Bool.true_and]
    by_cases hk : c = k
    · subst hk
      rw [decide_eq_true rfl]
      show (#[c] == #[c]) = true
      exact beq_self_eq_true _
    · have e3 : ([c] = [k]) = False := by
        rw [eq_iff_iff]; exact ⟨fun h => hk (List.cons.inj h).1, False.elim⟩
      rw [decide_eq_false (by rw [e3]; exact not_false)]
      show (#[c] == #[k]) = false
      rw [beq_eq_false_iff_ne]
      intro h
      exact hk (List.cons.inj (congrArg Array.toList h)).1
theorem dec_cd (x y : Str) : decide (V.str x = V.str y) = decide (cd x = cd y) := by
  rw [Bool.eq_iff_iff, decide_eq_true_iff, decide_eq_true_iff]
  exact ⟨fun h => congrArg cd (V.str.inj h), fun h => congrArg V.str (cd_inj h)⟩
/-- the figures of a text: without a - ahead -/
def fig (l : List Nat) : List Nat := if l.take 1 = [45] then l.drop 1 else l
/-- what a written number of at most so many figures is worth -/
def numB (l : List Nat) (most : Int) : Option Int :=
  if (fig l).length < 1 ∨ most < (fig l).length ∨ ((fig l).take 1 = [48] ∧ l ≠ [48]) ∨ (fig l).all inF = false then none
  else some (if l.take 1 = [45] then - val (fig l) else val (fig l))
def figB (l : List Nat) : Bool := decide (0 < l.length) && l.all inF
theorem figB_iff (l : List Nat) : figB l = true ↔ 0 < l.length ∧ l.all inF = true := by unfold figB; rw [Bool.and_eq_true, decide_eq_true_iff]
theorem numB_no1 {l : List Nat} {m : Int} (h : figB (fig l) = false) : numB l m = none := by
  unfold numB
  rw [if_pos]
  by_cases h1 : (fig l).length < 1
  · exact .inl h1
  · refine .inr (.inr (.inr ?_))
    cases e : (fig l).all inF with
    | false => rfl
    | true => exact absurd ((figB_iff _).mpr ⟨by omega, e⟩) (by rw [h]; decide)
theorem numB_no2 {l : List Nat} {m : Int} (h : (fig l).take 1 = [48]) (h2 : l ≠ [48]) : numB l m = none := if_pos (.inr (.inr (.inl ⟨h, h2⟩)))
theorem numB_no3 {l : List Nat} {m : Int} (h : m < (fig l).length) : numB l m = none := if_pos (.inr (.inl h))
theorem numB_yes {l : List Nat} {m : Int} (h1 : figB (fig l) = true) (h2 : ¬ (fig l).take 1 = [48]) (h3 : ¬ m < (fig l).length) : numB l m = some (if l.take 1 = [45] then - val (fig l) else val (fig l)) := by
  unfold numB
  rw [if_neg]
  obtain ⟨a, b⟩ := (figB_iff _).mp h1
  intro h
  rcases h with h | h | h | h
  · omega
  · exact h3 h
  · exact h2 h.1
  · rw [b] at h; cases h
theorem numB_zero {most : Int} (h : 1 ≤ most) : numB [48] most = some 0 := by
  unfold numB
  have e1 : fig [48] = [48] := by decide
  rw [e1, if_neg]
  · decide
  · intro h
    rcases h with h | h | h | h
    · exact absurd h (by decide)
    · simp only [List.length_cons, List.length_nil] at h; omega
    · exact absurd rfl h.2
    · exact absurd h (by decide +kernel)
theorem take1_at {l : List Nat} (h : 1 ≤ l.length) : ∃ c, atI l 0 = some c ∧ l.take 1 = [c] := by
  cases l with
  | nil => cases h
  | cons c r => exact ⟨c, atI_nat (j := 0) rfl, rfl⟩
/-- texts that are not long, of signs that are common -/
structure Fine (n : Nat) (z : Str) : Prop where
  len : z.length ≤ n
  cod : ∀ c ∈ cd z, c < 1000
theorem Fine.mono {n m : Nat} {z : Str} (h : Fine n z) (l : n ≤ m) : Fine m z := ⟨Nat.le_trans h.len l, h.cod⟩
theorem Fine.app {n m : Nat} {x y : Str} (h : Fine n x) (k : Fine m y) : Fine (n + m) (x ++ y) := by
  refine ⟨?_, fun c hc => ?_⟩
  · rw [len_cd, cd_app, List.length_append, ← len_cd, ← len_cd]; have := h.len; have := k.len; omega
  · rw [cd_app] at hc
    rcases List.mem_append.mp hc with e | e
    · exact h.cod c e
    · exact k.cod c e
theorem Fine.cut {n : Nat} {z : Str} (h : Fine n z) (lo hi : Option Int) : Fine n (S (cutN (cd z) lo hi)) := by
  refine ⟨?_, fun c hc => ?_⟩
  · rw [len_S]; unfold cutN; rw [List.length_take, List.length_drop, ← len_cd]; have := h.len; omega
  · rw [cd_S] at hc; exact h.cod c (List.mem_of_mem_drop (List.mem_of_mem_take hc))
theorem Fine.size {n : Nat} {z : Str} (h : Fine n z) (hn : n ≤ 100000 := by decide) : z.length ≤ sizeLine := by rw [sizeLine_eq]; have := h.len; omega
theorem Fine.int {i : Int} {k : Nat} (hk : 0 < k) (h : i.natAbs < 10 ^ k) : Fine (k + 1) (toString i) := by
  refine ⟨?_, fun c hc => ?_⟩
  · rw [show ((toString i : String) : Str).length = (toString i).length from PySem.ofString_length _]
    exact int_text_length_le10 hk h
  · rcases Nat.lt_or_ge c 1000 with z | z
    · exact z
    · exact absurd hc (int_text_free' c ⟨by omega, by omega⟩ i)
end L2
/-! equality of values, lists and tuples too -/
namespace L2
open PySem PySem.Spec PyProof.Rows PySem.Calls
/-- x == y is b, x != y is not b; by items (the same, or equal) it is b -/
structure EqJ (X : Cx) (H : Hp) (n : Nat) (x y : V) (b : Bool) : Prop where
  rc : ∀ (pins : List (Addr × Obj)) (s : Shared) (σ : St) (u v : Value) (A : Around), Inv X pins σ H s → RelV x u → RelV y v → A.units + n < cLine → SeqAt.RcAt A s u v b
  ne : ∀ (pins : List (Addr × Obj)) (s : Shared) (σ : St) (u v : Value) (A : Around), Inv X pins σ H s → RelV x u → RelV y v → A.units + n < cLine → SeqAt.RcNeAt A s u v (!b)
def EqJi (X : Cx) (H : Hp) (n : Nat) (x y : V) (b : Bool) : Prop :=
  ∀ (pins : List (Addr × Obj)) (s : Shared) (σ : St) (u v : Value) (A : Around), Inv X pins σ H s → RelV x u → RelV y v → A.units + n < cLine → SeqAt.EqAt A s u v b
section
variable {X : Cx} {H : Hp} {n : Nat} {x y : V} {b : Bool} {p q : Addr} {xs ys : List V}
theorem eqi_flat (fx : flatV x = true) (fy : flatV y = true) : EqJi X H n x y (eqV x y) := fun _ _ _ _ _ _ _ rx ry _ => eqAt_V rx ry fx fy
theorem eqi_same : EqJi X H n (.ref p) (.ref p) true := fun _ _ _ _ _ _ _ rx ry _ => by cases rx; cases ry; exact SeqAt.EqAt.same _
theorem eqi_refs (hn : p ≠ q) (h : EqJ X H n (.ref p) (.ref q) b) : EqJi X H n (.ref p) (.ref q) b := fun pins s σ u v A I rx ry hu => by
  have r := h.rc pins s σ u v A I rx ry hu
  cases rx; cases ry
  exact SeqAt.EqAt.of_refs hn r
theorem vals_at {xs : List V} {us : List Value} (r : Vals xs us) {j : Nat} (h : j < us.toArray.size) : ∃ x, xs[j]? = some x ∧ RelV x us.toArray[j] := by
  have hj : j < us.length := by simpa using h
  have hx : j < xs.length := by rw [r.length]; exact hj
  obtain ⟨u, hu, ru⟩ := r.get (List.getElem?_eq_getElem hx)
  refine ⟨xs[j], List.getElem?_eq_getElem hx, ?_⟩
  rw [List.getElem?_eq_getElem hj] at hu
  cases hu
  simpa using ru
theorem eqj_lists {e : Nat → Bool} (h : SqL X.K H p xs) (k : SqL X.K H q ys) (hl : xs.length = ys.length) (he : ∀ (j : Nat) x y, xs[j]? = some x → ys[j]? = some y → EqJi X H n x y (e j)) :
    EqJ X H (n + 1) (.ref p) (.ref q) ((List.range xs.length).all e) := by
  have g : ∀ (pins : List (Addr × Obj)) (s : Shared) (σ : St) (A : Around), Inv X pins σ H s → A.units + (n + 1) < cLine → ∃ its its' : List Value, s.heap.IsList p its.toArray ∧ s.heap.IsList q its'.toArray ∧ its.toArray.size = its'.toArray.size ∧ its.toArray.size = xs.length ∧
      ∀ j (h1 : j < its.toArray.size) (h2 : j < its'.toArray.size), SeqAt.EqAt A.in1 s its.toArray[j] its'.toArray[j] (e j) := fun pins s σ A I hu => by
    obtain ⟨its, r, pl, _⟩ := I.list h
    obtain ⟨its', r', pl', _⟩ := I.list k
    have l1 := r.length
    have l2 := r'.length
    refine ⟨its, its', pl.isList, pl'.isList, by simp only [List.size_toArray]; omega, by simp only [List.size_toArray]; omega, fun j h1 h2 => ?_⟩
    obtain ⟨x, hx, rx⟩ := vals_at r h1
    obtain ⟨y, hy, ry⟩ := vals_at r' h2
    exact he j x y hx hy pins s σ _ _ A.in1 I rx ry (by show A.units + 1 + n < _; omega)
  refine ⟨fun pins s σ u v A I rx ry hu => ?_, fun pins s σ u v A I rx ry hu => ?_⟩ <;> (cases rx; cases ry; have hu' : A.units < cLine := by omega)
  · obtain ⟨its, its', a, b, c, d, z⟩ := g pins s σ A I hu
    rw [← d]; exact SeqAt.RcAt.lists a b c hu' z
  · obtain ⟨its, its', a, b, c, d, z⟩ := g pins s σ A I hu
    rw [← d]; exact SeqAt.RcNeAt.lists a b c hu' z
theorem eqj_lists_len (h : SqL X.K H p xs) (k : SqL X.K H q ys) (hl : xs.length ≠ ys.length) : EqJ X H (n + 1) (.ref p) (.ref q) false := by
  refine ⟨fun pins s σ u v A I rx ry hu => ?_, fun pins s σ u v A I rx ry hu => ?_⟩ <;> (cases rx; cases ry; have hu' : A.units < cLine := by omega)
  · obtain ⟨its, r, pl, _⟩ := I.list h
    obtain ⟨its', r', pl', _⟩ := I.list k
    exact SeqAt.RcAt.lists_lengths pl.isList pl'.isList (by rw [List.size_toArray, List.size_toArray, ← r.length, ← r'.length]; simpa using hl) hu'
  · obtain ⟨its, r, pl, _⟩ := I.list h
    obtain ⟨its', r', pl', _⟩ := I.list k
    exact SeqAt.RcNeAt.lists_lengths pl.isList pl'.isList (by rw [List.size_toArray, List.size_toArray, ← r.length, ← r'.length]; simpa using hl) hu'
theorem eqj_tups {e : Nat → Bool} (h : SqT X.K H p xs) (k : SqT X.K H q ys) (he : ∀ (j : Nat) x y, xs[j]? = some x → ys[j]? = some y → EqJi X H n x y (e j)) :
    EqJ X H (n + 1) (.ref p) (.ref q) ((List.range (min xs.length ys.length)).all e && xs.length == ys.length) := by
  have g : ∀ (pins : List (Addr × Obj)) (s : Shared) (σ : St) (A : Around), Inv X pins σ H s → A.units + (n + 1) < cLine → ∃ its its' : List Value, s.heap.IsTuple p its.toArray ∧ s.heap.IsTuple q its'.toArray ∧ its.toArray.size = xs.length ∧ its'.toArray.size = ys.length ∧
      ∀ j (h1 : j < its.toArray.size) (h2 : j < its'.toArray.size), SeqAt.EqAt A.in1 s its.toArray[j] its'.toArray[j] (e j) := fun pins s σ A I hu => by
    obtain ⟨its, r, pl, _⟩ := I.tuple h
    obtain ⟨its', r', pl', _⟩ := I.tuple k
    have l1 := r.length
    have l2 := r'.length
    refine ⟨its, its', pl, pl', by simp only [List.size_toArray]; omega, by simp only [List.size_toArray]; omega, fun j h1 h2 => ?_⟩
    obtain ⟨x, hx, rx⟩ := vals_at r h1
    obtain ⟨y, hy, ry⟩ := vals_at r' h2
    exact he j x y hx hy pins s σ _ _ A.in1 I rx ry (by show A.units + 1 + n < _; omega)
  refine ⟨fun pins s σ u v A I rx ry hu => ?_, fun pins s σ u v A I rx ry hu => ?_⟩ <;> (cases rx; cases ry; have hu' : A.units < cLine := by omega)
  · obtain ⟨its, its', a, b, c, d, z⟩ := g pins s σ A I hu
    rw [← c, ← d]; exact SeqAt.RcAt.tuples a b hu' z
  · obtain ⟨its, its', a, b, c, d, z⟩ := g pins s σ A I hu
    rw [← c, ← d]
    exact SeqAt.RcNeAt.tuples a b hu' z
theorem eqV_self {x : V} (h : flatV x = true) : eqV x x = true := by
  cases x <;> first | rfl | exact beq_self_eq_true _ | cases h
/-- flat items -/
def eqL : List V → List V → Bool
  | [], [] => true
  | x :: xs, y :: ys => eqV x y && eqL xs ys
  | _, _ => false
theorem eqL_range : ∀ {xs ys : List V}, xs.length = ys.length → (List.range xs.length).all (fun j => eqV (xs.getD j .non) (ys.getD j .non)) = eqL xs ys
  | [], [], _ => rfl
  | x :: xs, y :: ys, h => by
    have h' : xs.length = ys.length := Nat.succ.inj h
    rw [List.length_cons, List.range_succ_eq_map, List.all_cons, List.all_map, eqL, ← eqL_range h']
    rfl
  | [], _ :: _, h => by cases h
  | _ :: _, [], h => by cases h
theorem eqL_len : ∀ {xs ys : List V}, eqL xs ys = true → xs.length = ys.length
  | [], [], _ => rfl
  | x :: xs, y :: ys, h => by rw [eqL, Bool.and_eq_true] at h; rw [List.length_cons, List.length_cons, eqL_len h.2]
  | [], _ :: _, h => by cases h
  | _ :: _, [], h => by cases h
theorem eqL_self : ∀ {xs : List V}, xs.all flatV = true → eqL xs xs = true
  | [], _ => rfl
  | x :: xs, h => by rw [List.all_cons, Bool.and_eq_true] at h; rw [eqL, eqV_self h.1, eqL_self h.2]; rfl
theorem all_get {xs : List V} (h : xs.all flatV = true) {j : Nat} {x : V} (e : xs[j]? = some x) : flatV x = true ∧ xs.getD j .non = x :=
  ⟨List.all_eq_true.mp h x (List.mem_of_getElem? e), by rw [List.getD, e]; rfl⟩
theorem eqj_ftups (h : SqT X.K H p xs) (k : SqT X.K H q ys) (fx : xs.all flatV = true) (fy : ys.all flatV = true) : EqJ X H (n + 1) (.ref p) (.ref q) (eqL xs ys) := by
  have e : ((List.range (min xs.length ys.length)).all (fun j => eqV (xs.getD j .non) (ys.getD j .non)) && xs.length == ys.length) = eqL xs ys := by
    by_cases hl : xs.length = ys.length
    · rw [← hl, Nat.min_self, beq_self_eq_true, Bool.and_true]; exact eqL_range hl
    · have : eqL xs ys = false := by
        cases e : eqL xs ys with
        | false => rfl
        | true => exact absurd (eqL_len e) hl
      rw [this, beq_eq_false_iff_ne.mpr hl, Bool.and_false]
  rw [← e]
  refine eqj_tups h k fun j x y hx hy => ?_
  obtain ⟨a, a'⟩ := all_get fx hx
  obtain ⟨b, b'⟩ := all_get fy hy
  rw [a', b']
  exact eqi_flat a b
/-- == and != of anything -/
theorem op_eqJ (hu : X.A.units + 20 < cLine) : OpR X (compareOp .Eq) (fun x y H Q => ∃ b, EqJ X H 20 x y b ∧ Q (.bl b) H) := by
  intro pins s σ H x y v u Q I rx ry h
  obtain ⟨b, e, q⟩ := h
  exact e.rc pins s σ v u X.A I rx ry hu X.prog X.w X.xe _ ⟨.bl b, H, I, rfl, q⟩
theorem hu20 {A : Around} {k : Nat} (hr : Room k A) : A.units + 20 < cLine := by have := hr.units; omega
end
end L2
/-! classes: methods by the class of what is at hand, a base's __init__, is True, in, index -/
namespace L2
open PySem PySem.Spec PyProof.Rows PySem.Calls
section
variable {P : Program} {w : World} {K : PySem.W.Frag} {mg : Str → Option Value} {base : Heap}
/-- a method m of the class at C -/
structure MethJ (P : Program) (w : World) (K : PySem.W.Frag) (mg : Str → Option Value) (base : Heap) (CX : CXT) (k : Nat) (C : Addr) (m : Str) where
  f : Addr
  fd : FuncData
  ps : List Str
  sp : Sp
  ds : List Value
  dvs : List V
  c : Cls K C
  hm : Meth K C m f
  F : FnOk P w K mg base CX k f fd ps sp
  hb : Binds K fd ps ds
  hd : Vals dvs ds
end
theorem passW0 {X : Cx} : Passes (CXW X.prog X.w) X E0 := fun _ _ _ _ _ _ _ h => by
  obtain ⟨_, _, _, _, _, _, _, _, _, _, _, z⟩ := h
  exact z.elim
section
variable {X : Cx} {CX : CXT} {k : Nat} {E : XK} {m : Str} {pos apos : Pos} {e o : Expr} {es : List Expr} {ta : TE} {t : TA}
/-- C.m(self, ..): a def of the class by its name -/
structure ClsFn (K : PySem.W.Frag) (C : Addr) (m : Str) (f : Addr) : Prop where
  rd : PySem.W.readsIn K C (.type "type") = true
  at_ : PySem.W.findCls K (.ref C) (.type "type") m = some (.val (.ref f))
  sp : PySem.W.specialIn K (.ref C) "__getattribute__" = some (some (.builtin "type.__getattribute__"))
  kp : PySem.W.keepIn K (.ref f) = true
end
end L2
/-! numbers as texts; blanks left out -/
namespace L2
open PySem PySem.Spec PyProof.Rows
/-! ### strip -/
/-! ### figures of a number -/
def dig (n : Nat) : List Nat := (Nat.toDigits 10 n).map Char.toNat
theorem digChar : ∀ d : Nat, d < 10 → (Nat.digitChar d).toNat = 48 + d := by decide
theorem dig_lt {n : Nat} (h : n < 10) : dig n = [48 + n] := by
  unfold dig; rw [Nat.toDigits_of_lt_base h]; show [(Nat.digitChar n).toNat] = _; rw [digChar n h]
theorem dig_ge {n : Nat} (h : 10 ≤ n) : dig n = dig (n / 10) ++ [48 + n % 10] := by
  unfold dig; rw [Nat.toDigits_of_base_le (by decide) h, List.map_append]; show _ ++ [(Nat.digitChar (n % 10)).toNat] = _; rw [digChar _ (Nat.mod_lt _ (by decide))]
theorem dig_pos (n : Nat) : 0 < (dig n).length := by unfold dig; rw [List.length_map]; exact Nat.length_toDigits_pos
theorem dig_len {k n : Nat} (hk : 1 ≤ k) (hn : n < 10 ^ k) : (dig n).length ≤ k := by unfold dig; rw [List.length_map]; exact toDigits_len_pow (by decide) hk hn
theorem dig_all (n : Nat) : (dig n).all inF = true := by
  induction n using Nat.strongRecOn with
  | _ n ih =>
    by_cases h : n < 10
    · rw [dig_lt h, List.all_cons, (inF_iff _).mpr ⟨by omega, by omega⟩]; rfl
    · rw [dig_ge (by omega), List.all_append, ih (n / 10) (by omega), List.all_cons, (inF_iff _).mpr ⟨by omega, by have := Nat.mod_lt n (show 0 < 10 by decide); omega⟩]; rfl
theorem val_dig (n : Nat) : val (dig n) = n := by
  induction n using Nat.strongRecOn with
  | _ n ih =>
    by_cases h : n < 10
    · rw [dig_lt h]; show (0 : Int) * 10 + ((48 + n - 48 : Nat) : Int) = n; omega
    · rw [dig_ge (by omega), val_snoc, ih (n / 10) (by omega)]; omega
theorem dig_head {n : Nat} (h : n ≠ 0) : ∃ c r, dig n = c :: r ∧ 49 ≤ c ∧ c ≤ 57 := by
  induction n using Nat.strongRecOn with
  | _ n ih =>
    by_cases h10 : n < 10
    · exact ⟨_, _, dig_lt h10, by omega, by omega⟩
    · obtain ⟨c, r, e, h1, h2⟩ := ih (n / 10) (by omega) (by omega)
      exact ⟨c, r ++ [48 + n % 10], by rw [dig_ge (by omega), e]; rfl, h1, h2⟩
theorem dig_fig {n c : Nat} (h : c ∈ dig n) : 48 ≤ c ∧ c ≤ 57 := (inF_iff c).mp (List.all_eq_true.mp (dig_all n) c h)
theorem dig_zero : dig 0 = [48] := dig_lt (by decide)
/-- the text of a number -/
def numL (i : Int) : List Nat := if i < 0 then 45 :: dig i.natAbs else dig i.natAbs
theorem cd_str (i : Int) : cd ((toString i : String) : Str) = numL i := by
  show (Str.ofString (toString i)).cps.toList = _
  rw [signs_ofString]
  unfold numL
  cases i with
  | ofNat m =>
    rw [if_neg (show ¬ Int.ofNat m < 0 from by have : Int.ofNat m = (m : Int) := rfl; omega)]
    show (Nat.repr m).toList.map Char.toNat = _
    rw [Nat.toList_repr]; rfl
  | negSucc m =>
    rw [if_pos (Int.negSucc_lt_zero m)]
    have : (toString (Int.negSucc m)) = "-" ++ Nat.repr (m + 1) := rfl
    rw [this, String.toList_append, Nat.toList_repr]; rfl
theorem numL_fig (i : Int) : fig (numL i) = dig i.natAbs := by
  unfold numL
  split
  · rfl
  · unfold fig
    rw [if_neg]
    obtain ⟨c, r, e⟩ : ∃ c r, dig i.natAbs = c :: r := by
      cases h : dig i.natAbs with
      | nil => have := dig_pos i.natAbs; rw [h] at this; cases this
      | cons c r => exact ⟨c, r, rfl⟩
    intro z
    have hc := dig_fig (n := i.natAbs) (c := c) (by rw [e]; simp)
    rw [e] at z
    have : c = 45 := by simpa using z
    omega
theorem numB_numL {i : Int} {most : Int} (h1 : 1 ≤ most) (h : ((dig i.natAbs).length : Int) ≤ most) : numB (numL i) most = some i := by
  have e := numL_fig i
  unfold numB
  rw [e, if_neg]
  · congr 1
    rw [val_dig]
    unfold numL
    by_cases hi : i < 0
    · rw [if_pos hi]
      rw [if_pos (show (45 :: dig i.natAbs).take 1 = [45] from rfl)]; omega
    · rw [if_neg hi, if_neg]
      · omega
      · intro z
        obtain ⟨c, r, ec⟩ : ∃ c r, dig i.natAbs = c :: r := by
          cases h : dig i.natAbs with
          | nil => have := dig_pos i.natAbs; rw [h] at this; cases this
          | cons c r => exact ⟨c, r, rfl⟩
        have hc := dig_fig (n := i.natAbs) (c := c) (by rw [ec]; simp)
        rw [ec] at z
        have : c = 45 := by simpa using z
        omega
  · intro z
    rcases z with z | z | z | z
    · have := dig_pos i.natAbs; omega
    · omega
    · by_cases h0 : i.natAbs = 0
      · have : i = 0 := by omega
        subst this
        exact z.2 (by show (if (0:Int) < 0 then _ else _) = _; rw [if_neg (by decide)]; exact dig_zero)
      · obtain ⟨c, r, ec, hc, _⟩ := dig_head h0
        rw [ec] at z
        have : c = 48 := by simpa using z.1
        omega
    · rw [dig_all] at z; cases z
theorem numB_str {i : Int} (h : i.natAbs < 10 ^ 60) : numB (numL i) 60 = some i := numB_numL (by decide) (by have := dig_len (k := 60) (by decide) h; omega)
/-- what is no figure and no leading - -/
theorem numB_bad {l : List Nat} {m : Int} {c : Nat} (h : c ∈ fig l) (hc : inF c = false) : numB l m = none :=
  if_pos (.inr (.inr (.inr (by rw [List.all_eq_false]; exact ⟨c, h, by rw [hc]; decide⟩))))
theorem notF {c : Nat} (h : c < 48 ∨ 57 < c) : inF c = false := by
  cases e : inF c with
  | false => rfl
  | true => have := (inF_iff c).mp e; omega
end L2
namespace L2
open PySem PySem.Spec PyProof.Rows PySem.Calls
section
variable {X : Cx}
end
/-! ### fields -/
theorem iteN {c : Bool} {A B : Prop} (h : c = false) (q : B) : if c = true then A else B := by subst h; exact iteF q
theorem iteY {c : Bool} {A B : Prop} (h : c = true) (q : A) : if c = true then A else B := by subst h; exact iteT q
/-- what a thing is, to isinstance -/
structure Thing (K : PySem.W.Frag) (H : Hp) (x : V) where
  t : Value
  bi : Bool
  bb : Bool
  bs : Bool
  ty : TyE K H x t
  ki : PySem.W.kitOne K t (.type "int") = some bi
  kb : PySem.W.kitOne K t (.type "bool") = some bb
  ks : PySem.W.kitOne K t (.type "str") = some bs
  hi : (bi && !bb) = true → ∃ n, x = .int n
  hs : bs = true → ∃ z, x = .str z
  ni : ∀ n, x = .int n → (bi && !bb) = true
  ns : ∀ z, x = .str z → bs = true
  hbl : bb = true → ∃ b, x = .bl b
  nbl : ∀ b, x = .bl b → bb = true
theorem Same.seqT {K : PySem.W.Frag} {H H' : Hp} {a : Addr} {xs : List V} (e : Same H H') (h : SqT K H a xs) : SqT K H' a xs := by
  rcases h with h | h
  · exact .inl (h.imp (fun k => e _ _ k) (fun ⟨o, k⟩ => ⟨o, e _ _ k⟩))
  · exact .inr h
theorem Same.tyE' {K : PySem.W.Frag} {H H' : Hp} {x : V} {t : Value} (e : Same H H') (h : TyE K H x t) : TyE K H' x t := by
  cases h with
  | old h => exact .old (e.ty h)
  | exc h c => exact .exc (e _ _ h) c
  | tpl h => exact .tpl (e.seqT h)
def Thing.same {K : PySem.W.Frag} {H H' : Hp} {x : V} (h : Thing K H x) (e : Same H H') : Thing K H' x := ⟨h.t, h.bi, h.bb, h.bs, e.tyE' h.ty, h.ki, h.kb, h.ks, h.hi, h.hs, h.ni, h.ns, h.hbl, h.nbl⟩
theorem Same.upd {H H' : Hp} {p : Addr} {o : HO} (e : Same H H') (h : H p = none ∨ H p = some o) : Same H (L2.upd H' p o) := fun b u q => by
  by_cases z : b = p
  · subst z
    rcases h with h | h
    · rw [h] at q; cases q
    · rw [h] at q; rw [upd_same]; exact q
  · rw [upd_ne z]; exact e b u q
/-- what is shown of a number that a text writes -/
def numV : Option Int → V
  | some n => .int n
  | none => .non
end L2
/-! written whole numbers: what the laws ask of them -/
namespace L2
open PySem PySem.Spec PyProof.Rows
theorem str_is (n : Int) : ((toString n : String) : Str) = S (numL n) := cd_inj (cd_str n)
theorem logOk {m : Int} (h : m.natAbs < 10 ^ 61) : m.natAbs.log2 < 1920 := by
  by_cases h0 : m.natAbs = 0
  · rw [h0]; decide
  · exact (Nat.log2_lt h0).mpr (Nat.lt_trans h (by decide +kernel))
theorem bad_of {l : List Nat} {m : Int} {c : Nat} (hh : ∀ d, l.head? = some d → d ≠ 45) (h : c ∈ l) (hc : c < 48 ∨ 57 < c) : numB l m = none := by
  refine numB_bad (c := c) ?_ (notF hc)
  have : fig l = l := if_neg (by
    cases l with
    | nil => cases h
    | cons a r => intro z; exact hh a rfl (by simpa using z))
  rw [this]; exact h
end L2
/-! a table of the module, asked by get; in, where it is asked of lists and tuples too; index; split -/
namespace L2
open PySem PySem.Spec PyProof.Rows PySem.Calls
theorem pe_eqv {X : Cx} {e : Expr} {te te' : TE} (h : PE X e te') (h2 : te' = te) : PE X e te := h2 ▸ h
section
variable {X : Cx}
end
end L2
/-! sets of texts, made of a tuple; a text cut at blanks -/
namespace L2
open PySem PySem.Spec PyProof.Rows PySem.Calls
theorem snocInd {p : List Str → Prop} (l : List Str) (h0 : p []) (hs : ∀ l v, p l → p (l ++ [v])) : p l := by
  have key : ∀ l : List Str, p l.reverse := fun l => by
    induction l with
    | nil => exact h0
    | cons a r ih => rw [List.reverse_cons]; exact hs _ _ ih
  have := key l.reverse
  rwa [List.reverse_reverse] at this
def stepT (σ : List Str) (v : Str) : List Str := if v ∈ σ then σ else σ ++ [v]
def metT (ws : List Str) : List Str := ws.foldl stepT []
theorem metT_snoc (ws : List Str) (v : Str) : metT (ws ++ [v]) = stepT (metT ws) v := by unfold metT; rw [List.foldl_append]; rfl
theorem stepT_mem (σ : List Str) (v k : Str) : k ∈ stepT σ v ↔ k ∈ σ ∨ k = v := by
  unfold stepT
  split
  · constructor
    · exact .inl
    · rintro (h | h)
      · exact h
      · subst h; assumption
  · simp
theorem metT_mem (ws : List Str) : ∀ k, k ∈ metT ws ↔ k ∈ ws := by
  refine snocInd (p := fun ws => ∀ k, k ∈ metT ws ↔ k ∈ ws) ws (fun k => Iff.rfl) fun l v ih k => ?_
  rw [metT_snoc, stepT_mem, ih k, List.mem_append, List.mem_singleton]
theorem metT_len (ws : List Str) : (metT ws).length ≤ ws.length := by
  refine snocInd (p := fun ws => (metT ws).length ≤ ws.length) ws (Nat.le_refl _) fun l v ih => ?_
  rw [metT_snoc]; unfold stepT
  split <;> simp <;> omega
theorem metT_nodup (ws : List Str) : (metT ws).length = ws.length ↔ ws.Nodup := by
  refine snocInd (p := fun ws => (metT ws).length = ws.length ↔ ws.Nodup) ws (by simp [metT]) fun l v ih => ?_
  rw [metT_snoc, List.nodup_append]
  have hl := metT_len l
  unfold stepT
  by_cases h : v ∈ metT l
  · rw [if_pos h]
    have h' := (metT_mem l v).mp h
    constructor
    · intro e; simp at e; omega
    · intro ⟨_, _, d⟩; exact absurd rfl (d v h' v (by simp))
  · rw [if_neg h]
    have h' : v ∉ l := fun z => h ((metT_mem l v).mpr z)
    simp only [List.length_append, List.length_singleton, Nat.add_right_cancel_iff, ih]
    constructor
    · intro e; exact ⟨e, by simp, fun a ha b hb z => by rw [List.mem_singleton.mp hb] at z; exact h' (z ▸ ha)⟩
    · exact fun ⟨e, _⟩ => e
theorem isStr_self (P : Program) (w : World) (z : Str) (t : Tok) : (strKind P w).is z (.str z t) = true := by
  show Value.isStrOf z (.str z t) = true
  simp [Value.isStrOf]
section
variable {prog : Program} {w : World} {A : Around} {R : Result → Shared → Prop} {I : Addr} {fp wr : List Addr} {G : Array GenState → Array GenState → Prop} {n : Nat} {P : Nat → Value → Prop} {St : Nat → Shared → Prop}
theorem set_loopT (W : WalksS prog w A.in1 I fp wr G n P St) (S : Addr) (hSf : S ∉ fp) (ws : List Str) (hn : ws.length = n) (hval : ∀ i v, P i v → ∃ z t, v = .str z t ∧ ws[i]? = some z) (hb : n + 1 < scanBound) :
    ∀ (k i : Nat) (s : Shared), n - i = k → i ≤ n → St i s →
      s.heap.SetOf (strKind prog w) S (fun k' => decide (k' ∈ metT (ws.take i))) (metT (ws.take i)).length →
      (∀ s', Moved (S :: wr) G s s' → s'.heap.SetOf (strKind prog w) S (fun k' => decide (k' ∈ metT ws)) (metT ws).length → R (.ok (.ret .none)) s') →
      codeAny (model prog w) A (.builtin "set.update.loop" ⟨[.ref S, .ref I], []⟩) R s := by
  have hSw : S ∉ wr := fun h => hSf (W.sub _ h)
  have hsub : ∀ b ∈ wr, b ∈ S :: wr := fun b hb => List.mem_cons_of_mem _ hb
  intro k
  induction k with
  | zero =>
    intro i s hk hi hst hS hR
    have hin : i = n := by omega
    subst hin
    rw [← hn, List.take_length] at hS
    refine codeAny_builtin F.entry_set_update_loop ?_
    rw [Around.under_plainId F.plain_set_update_loop _]
    show wpAny _ A.in1 (pyNext (.ref I) >>= _) _ _ s
    refine wpAny_bind (W.done s _ _ hst fun s' hm => ?_)
    exact wpAny_pure (hR s' (hm.mono hsub) (by
      obtain ⟨o, es, ep, t, ho, rest⟩ := hS
      exact ⟨o, es, ep, t, hm.heap S _ hSw ho, rest⟩))
  | succ k ih =>
    intro i s hk hi hst hS hR
    have hlt : i < n := by omega
    refine codeAny_builtin F.entry_set_update_loop ?_
    rw [Around.under_plainId F.plain_set_update_loop _]
    show wpAny _ A.in1 (pyNext (.ref I) >>= _) _ _ s
    refine wpAny_bind (W.item i s _ _ hlt hst fun v s' hP hst' hm => ?_)
    obtain ⟨z, t, rfl, hz⟩ := hval i v hP
    obtain ⟨o, es, ep, tb, ho, rest⟩ := hS
    have hS' : s'.heap.SetOf (strKind prog w) S (fun k' => decide (k' ∈ metT (ws.take i))) (metT (ws.take i)).length := ⟨o, es, ep, tb, hm.heap S _ hSw ho, rest⟩
    show wpAny _ A.in1 (holding [Value.str z t] (setAdd S (.str z t)) >>= _) _ _ s'
    refine wpAny_bind (wpAny_holding ?_)
    unfold setAdd
    refine wpAny_holding ?_
    refine wpAny_bind ((strKind prog w).pyHash (k := z) (isStr_self _ _ _ _) ?_)
    have hroom : (metT (ws.take i)).length + 1 < scanBound := by have := metT_len (ws.take i); rw [List.length_take] at this; omega
    refine wpAny_setAddHashed_of (knd := strKind prog w) (s := { s' with toks := s'.toks + 1 }) (isStr_self _ _ _ _) rfl hS' hroom fun h' hsb hS2 => ?_
    have et : ws.take (i + 1) = ws.take i ++ [z] := by rw [List.take_succ, hz]; rfl
    have hSi : h'.SetOf (strKind prog w) S (fun k' => decide (k' ∈ metT (ws.take (i + 1)))) (metT (ws.take (i + 1))).length := by
      refine SetOf_congr hS2 (fun k' => ?_) ?_
      · rw [et, metT_snoc, Bool.eq_iff_iff, decide_eq_true_iff, stepT_mem]
        simp only [Bool.or_eq_true, decide_eq_true_iff]
      · rw [et, metT_snoc]
        unfold stepT
        by_cases h : z ∈ metT (ws.take i)
        · rw [if_pos h, if_pos (decide_eq_true h)]
        · rw [if_neg h, if_neg (by simpa using h), List.length_append]; rfl
    refine wpAny_pure ⟨plainId_quiet F.plain_set_update_loop _, ih (i + 1) _ (by omega) hlt (W.frame _ s' _ _ hst' (Nat.le_succ _) fun b hb o e => ?_) hSi fun s'' hm'' hS'' => ?_⟩
    · rw [hsb.2 b (fun h : b = S => hSf (by rw [← h]; exact hb))]; exact e
    · refine hR s'' (Moved.trans W.gtrans ((hm.mono hsub).then_heap (Nat.le_succ _) fun b o hb e => ?_) hm'') hS''
      rw [hsb.2 b (fun h : b = S => hb (by rw [h]; exact List.mem_cons_self))]; exact e
end

section
variable {prog : Program} {w : World} {A : Around} {E : Value → Shared → Prop} {s : Shared}
end
/-- a set of n unlike texts -/
def SetT (P : Program) (w : World) (a : Addr) (S : Str → Bool) (n : Nat) : HO := .ext fun h => h.SetOf (strKind P w) a S n
section
variable {X : Cx}
theorem call_len_setT : CallR X (.builtin "len") (fun xs H Q => ∃ p S n, xs = [.ref p] ∧ H p = some (SetT X.prog X.w p S n) ∧ Q (.int (n : Nat)) H) := by
  intro pins s σ H xs us Q I r h
  obtain ⟨p, S, n, rfl, hp, q⟩ := h
  obtain ⟨u, rfl, ru⟩ := vals1 r
  cases ru
  obtain ⟨⟨o, es, ep, t, ho, hex, hd, _, _, hb, hf, e⟩, _⟩ := (show ObjOk X.prog X.w H s.heap p (SetT X.prog X.w p S n) from I.hok p _ hp)
  subst e
  exact call_len_set ho hex hd hf (by unfold scanBound at hb; omega) ⟨.int es.size, H, I.tok _, ⟨_, rfl⟩, q⟩
end
end L2
namespace L2
open PySem PySem.Spec PyProof.Rows PySem.Calls
theorem vals_strs : ∀ (ws : List Str) (tk : Nat), Vals (ws.map V.str) (strsFrom tk ws)
  | [], _ => .nil
  | x :: r, tk => .cons ⟨tk, rfl⟩ (vals_strs r (tk + 1))
section
variable {X : Cx}
theorem mt_split : MtM X "str.split" (fun x vs H Q => ∃ z y, x = .str z ∧ vs = [.str y] ∧ 0 < y.length ∧ z.length ≤ 100000 ∧ ∀ l, H l = none → Q (.ref l) (upd H l (.lst ((Txt.split z y).map V.str)))) := by
  intro pins s σ H x vs v us Q I rx rv h
  obtain ⟨z, y, rfl, rfl, hy, hz, q⟩ := h
  obtain ⟨t, rfl⟩ := rx
  obtain ⟨u, rfl, ⟨t', rfl⟩⟩ := rv.one
  have hy' : (y.length == 0) = false := by rw [beq_eq_false_iff_ne]; omega
  have hle := split_le z y
  have hsz : (Txt.split z y).length ≤ sizeLine := by rw [sizeLine_eq]; omega
  have hzs : z.length ≤ sizeLine := by rw [sizeLine_eq]; omega
  have q := q _ (I.hok.fresh (Nat.le_refl _))
  have fin : ∀ (its : List Value) (tk : Nat), Vals ((Txt.split z y).map V.str) its → EP X pins σ Q (.ref s.heap.objs.size) { s with toks := tk, heap := s.heap.push { cls := .type "list", data := .seq its.toArray } } := fun its tk r =>
    ⟨.ref s.heap.objs.size, _, I.laid (t' := tk) (a := s.heap.objs.size) (fun b o e => Heap.get?_push_of_some _ e) (Nat.le_refl _) (show ObjOk X.prog X.w _ _ _ (.lst ((Txt.split z y).map V.str)) from ⟨by rw [List.length_map]; exact hsz, its, _, r, Heap.get?_push_size _ rfl⟩), rfl, q⟩
  cases h1 : (decide (z.length < y.length) || decide (Builtin.Str.strKind z < Builtin.Str.strKind y)) with
  | true =>
    have e : Txt.split z y = [z] := if_pos h1
    exact call_meets PySem.F.slot_str_split (typeIs_str _ _ _) PySem.F.entry_str_split (PySem.F.args_str_split_2 _ _) (meets_str_split_cannot_occur z y t t' h1) (fin [.str z t] _ (by rw [e]; exact .cons ⟨t, rfl⟩ .nil))
  | false =>
    cases hf : (Builtin.Str.occurrences z y 0 z.length (z.length + 1)).isEmpty with
    | true =>
      have e : Txt.split z y = [z] := (if_neg (ne_true_of_eq_false h1)).trans (if_pos hf)
      exact call_meets PySem.F.slot_str_split (typeIs_str _ _ _) PySem.F.entry_str_split (PySem.F.args_str_split_2 _ _) (meets_str_split_not_found z y t t' h1 hy' hf) (fin [.str z t] _ (by rw [e]; exact .cons ⟨t, rfl⟩ .nil))
    | false =>
      have e : Txt.split z y = Builtin.Str.partsBetween z (Builtin.Str.occurrences z y 0 z.length (z.length + 1)) y.length := (if_neg (ne_true_of_eq_false h1)).trans (if_neg (ne_true_of_eq_false hf))
      refine call_meets PySem.F.slot_str_split (typeIs_str _ _ _) PySem.F.entry_str_split (PySem.F.args_str_split_2 _ _) (meets_str_split_sep z y t t' h1 hy' hf hzs (by rw [← e]; exact hsz)) (fin _ _ ?_)
      rw [e]; exact vals_strs _ _
end
/-! parts between blanks -/
/-- the parts of a text are those blank-free texts that it joins -/
theorem joinL_inj : ∀ {a b : List (List Nat)}, a ≠ [] → b ≠ [] → (∀ p ∈ a, 32 ∉ p) → (∀ p ∈ b, 32 ∉ p) → joinL [32] a = joinL [32] b → a = b := by
  have cut : ∀ {x y u v : List Nat}, 32 ∉ x → 32 ∉ y → x ++ 32 :: u = y ++ 32 :: v → x = y ∧ u = v := by
    intro x
    induction x with
    | nil =>
      intro y u v hx hy e
      cases y with
      | nil => exact ⟨rfl, (List.cons.inj e).2⟩
      | cons b r => exact absurd (by rw [show b = 32 from (List.cons.inj e).1.symm]; simp) hy
    | cons a x ih =>
      intro y u v hx hy e
      cases y with
      | nil => exact absurd (by rw [show a = 32 from (List.cons.inj e).1]; simp) hx
      | cons b r =>
        have h := List.cons.inj e
        obtain ⟨h1, h2⟩ := ih (fun z => hx (List.mem_cons_of_mem _ z)) (fun z => hy (List.mem_cons_of_mem _ z)) h.2
        exact ⟨by rw [h.1, h1], h2⟩
  intro a
  induction a with
  | nil => intro b h; exact absurd rfl h
  | cons x r ih =>
    intro b _ hb ha hbb e
    cases b with
    | nil => exact absurd rfl hb
    | cons y s =>
      have fx := ha x (by simp)
      have fy := hbb y (by simp)
      cases r with
      | nil =>
        cases s with
        | nil => exact congrArg (· :: []) e
        | cons y2 s =>
          have e' : x = y ++ [32] ++ joinL [32] (y2 :: s) := e
          exact absurd (by rw [e']; simp) fx
      | cons x2 r =>
        cases s with
        | nil =>
          have e' : x ++ [32] ++ joinL [32] (x2 :: r) = y := e
          exact absurd (by rw [← e']; simp) fy
        | cons y2 s =>
          have e' : x ++ [32] ++ joinL [32] (x2 :: r) = y ++ [32] ++ joinL [32] (y2 :: s) := e
          rw [List.append_assoc, List.append_assoc] at e'
          obtain ⟨h1, h2⟩ := cut fx fy e'
          have := ih (b := y2 :: s) (by simp) (by simp) (fun p hp => ha p (List.mem_cons_of_mem _ hp)) (fun p hp => hbb p (List.mem_cons_of_mem _ hp)) h2
          rw [h1, this]
def splitL (l : List Nat) : List (List Nat) := (Txt.split (S l) (S [32])).map cd
theorem splitL_free {l p : List Nat} (h : p ∈ splitL l) : 32 ∉ p := by
  obtain ⟨z, hz, rfl⟩ := List.mem_map.mp h
  exact StrLaws.split_free (S l) 32 z hz
theorem splitL_ne (l : List Nat) : splitL l ≠ [] := by
  intro e
  have := split_pos (S l) (S [32])
  have e2 := congrArg List.length e
  unfold splitL at e2
  rw [List.length_map] at e2
  rw [e2] at this; cases this
theorem splitL_join (l : List Nat) : joinL [32] (splitL l) = l := by
  have e := StrLaws.join_split (S l) (S [32])
  rw [← StrLaws.glued_eq_join] at e
  have e2 := joinS_is (S [32]) (Txt.split (S l) (S [32]))
  rw [show joinS (S [32]) (Txt.split (S l) (S [32])) = S l from e] at e2
  exact (S_inj e2).symm
theorem splitL_of {ws : List (List Nat)} (h : ws ≠ []) (hf : ∀ p ∈ ws, 32 ∉ p) : splitL (joinL [32] ws) = ws :=
  joinL_inj (splitL_ne _) h (fun _ hp => splitL_free hp) hf (splitL_join _)
theorem split_is (z : Str) : Txt.split z (S [32]) = (splitL (cd z)).map S := by
  unfold splitL
  rw [List.map_map, S_cd]
  have : (S ∘ cd) = id := funext fun x => S_cd x
  rw [this, List.map_id]
end L2
namespace HT
open PySem PySem.Spec PyProof.Rows PySem.Calls
section
variable {prog : Program} {w : World} {A : Around} {E : Value → Shared → Prop} {s : Shared}
end
end HT
namespace L2
open PySem PySem.Spec PyProof.Rows PySem.Calls
section
variable {X : Cx}
end
end L2
/-! comprehensions with a target of two names, and with a test -/
namespace L2
open PySem PySem.Spec PyProof.Rows PySem.Calls
/-- the tests of a comprehension -/
def PIfs (X : Cx) (ifs : List Expr) (t : TT) : Prop :=
  ∀ (pins : List (Addr × Obj)) (s : Shared) (σ : St) (H : Hp) (Q : Bool → Hp → Prop), Inv X pins σ H s → t σ H Q →
    wpAny (model X.prog X.w) X.A (forIn ifs true fun c r => if r = true then do let ok ← isTrue c X.env (eval c X.env); pure (ForInStep.yield ok) else pure (ForInStep.yield r)) (TP X pins σ Q) X.xe s
def tTrue : TT := fun _ H Q => Q true H
theorem pifs_nil {X : Cx} : PIfs X [] tTrue := fun pins s σ H Q I h => wpAny_pure ⟨H, I, h⟩
theorem pifs_one {X : Cx} {c : Expr} {t : TT} (hc : PT X c t) : PIfs X [c] t := fun pins s σ H Q I h => by
  rw [List.forIn_cons]
  refine wpAny_bind (wpAny_bind (thn (hc pins s σ H Q I h) fun b s1 q => wpAny_pure ?_))
  exact wpAny_pure q
theorem compLoop_go2 {prog : Program} {w : World} {A : Around} {R : Result → Shared → Prop} {s : Shared} {elt target iter : Expr} {ifs : List Expr} {scope : Scope} {pos : Pos} {it acc : Value} {env : Env} (I : Nat → Shared → Prop)
    (turn : ∀ n s, I n s → wpAny (model prog w) A (pyNext it) (fun r s₁ => match r with
      | none => R (.ok .next) s₁
      | some v => wpAny (model prog w) A (letOwnedTupleGo target it v) (fun _ s₂ => wpAny (model prog w) A (assign target env v) (fun _ s₃ =>
          wpAny (model prog w) A (forIn ifs true fun c r => if r = true then do let ok ← isTrue c env (eval c env); pure (ForInStep.yield ok) else pure (ForInStep.yield r)) (fun ok s₄ =>
            if ok = true then wpAny (model prog w) A (eval elt env) (fun x s₅ =>
              wpAny (model prog w) A (call (.builtin "list.append") [acc, x]) (fun _ s₆ => ∃ m, m < n ∧ I m s₆) (notedBy (model prog w) A env fun e s' => R (.error e) s') s₅)
              (notedBy (model prog w) A env fun e s' => R (.error e) s') s₄ else ∃ m, m < n ∧ I m s₄)
            (notedBy (model prog w) A env fun e s' => R (.error e) s') s₃) (notedBy (model prog w) A env fun e s' => R (.error e) s') s₂) (notedBy (model prog w) A env fun e s' => R (.error e) s') s₁)
      (notedBy (model prog w) A env fun e s' => R (.error e) s') s)
    (n : Nat) (h : I n s) : codeAny (model prog w) A (.compLoop (.ListComp elt [⟨target, iter, ifs, 0⟩] scope pos) 0 it acc env) R s := by
  refine codeAny_loop rfl I (fun n s hI => ?_) n h
  show wpAny _ A ((compTurn (.ListComp elt [⟨target, iter, ifs, 0⟩] scope pos) 0 it acc env).onRaise (fun x => do noteFrame x env; theTreesLotGoes x)) _ _ s
  refine wpAny_noted ?_
  rw [compTurn_list]
  refine wpAny_bind (wpAny_standAt (wpAny_bind (wpAny_mono (turn n s hI) (fun r s₁ h₁ => ?_) fun _ _ h' => h')))
  cases r with
  | none => exact wpAny_pure h₁
  | some v =>
    refine wpAny_bind (wpAny_mono h₁ (fun _ s₂ h₂ => wpAny_bind (wpAny_mono h₂ (fun _ s₃ h₃ => ?_) fun _ _ h' => h')) fun _ _ h' => h')
    refine wpAny_bind (wpAny_mono h₃ (fun ok s₄ h₄ => ?_) fun _ _ h' => h')
    cases ok with
    | false => exact wpAny_pure ⟨rfl, h₄⟩
    | true => exact wpAny_bind (wpAny_bind (wpAny_mono h₄ (fun x s₅ h₅ => wpAny_bind (wpAny_mono h₅ (fun _ s₆ h₆ => wpAny_pure (wpAny_pure ⟨rfl, h₆⟩)) fun _ _ h' => h')) fun _ _ h' => h'))
/-- the context of the block: the variables x, y, then the names of the def around -/
def compCx2 (X : Cx) (scope : Scope) (C : Addr) (x y : Str) (M : List Str) (s₂ : Shared) (H₂ : Hp) (fp : List Addr) : Cx :=
  { X with N := x :: y :: M, s₀ := s₂, H₀ := H₂, env := compEnvC scope (clOf X.env scope.names []) C X.env, outer := X.stack, ex := fp, fn := fun _ => false, pn := [], xe := fun _ _ => False }
structure CompOk2 (X : Cx) (scope : Scope) (x y : Str) (M : List Str) : Prop where
  base : CompOk X scope x M
  loc2 : scope.names.lookup y = some .local
  nd2 : (x :: y :: M).Nodup
theorem compOk2_of {X : Cx} {scope : Scope} {x y : Str} {M : List Str} (h : CompOk X scope x M) (h1 : scope.names.lookup y = some .local) (h2 : (x :: y :: M).Nodup) : CompOk2 X scope x y M := ⟨h, h1, h2⟩
section
variable {X : Cx} {scope : Scope} {x y : Str} {M : List Str} {pins : List (Addr × Obj)} {σ : St} {H₂ : Hp} {s₂ : Shared} {elt iter tg : Expr} {ifs : List Expr} {pos : Pos} {te : TE} {wi : TI} {g : TG} {tc : TT}
theorem inv_comp2 (K : CompOk2 X scope x y M) (I : Inv X pins σ H₂ s₂) {fp : List Addr} (hf : ∀ b ∈ fp, FpOk X pins H₂ b) (hfl : ∀ b ∈ fp, b < s₂.heap.objs.size) {C : Addr} (hC : s₂.heap.objs.size ≤ C) {h₁ : Heap} {t : Nat} {m : Str → Option Value} (hn : h₁.Ns C m)
    (hk : ∀ b o, s₂.heap.get? b = some o → h₁.get? b = some o) : Inv (compCx2 X scope C x y M s₂ H₂ fp) [] (none :: none :: σ) H₂ { s₂ with heap := h₁, toks := t } := by
  have I1 := inv_comp (t := t) K.base I hf hfl hC hn hk
  have ok : (compCx2 X scope C x y M s₂ H₂ fp).Ok := by
    obtain ⟨a1, a2, a3, a4, a5, a6, a7, a8, a9, a10, a11, a12, a13, a14, a15, a16, a17, a18⟩ := I1.ok
    exact ⟨a1, a2, a3, a4, a5, a6, a7, a8, a9, a10, a11, a12, a13, a14, a15, a16, a17, a18⟩
  obtain ⟨m', ns', lo⟩ := I1.loc
  refine ⟨ok, I1.os, I1.bare, I1.base, ⟨m', ns', fun i z v e1 e2 e3 => ?_⟩, I1.cell, I1.free, I1.freeC, I1.pin, I1.hok, ?_⟩
  · match i, e1, e2 with
    | 0, _, e2 => cases e2
    | 1, _, e2 => cases e2
    | j + 2, e1, e2 => exact lo (j + 1) z v e1 e2 e3
  · have := I1.len
    show (none :: none :: σ).length = (x :: y :: M).length
    have h2 : (none :: σ).length = (x :: M).length := this
    simp only [List.length_cons] at h2 ⊢
    omega
def tComp2 (wi : TI) (g : TG) (tc : TT) (te : TE) : TE := fun σ H Q => wi σ H fun J H1 => ∃ (n : Nat) (W : Nat → List V → Hp → Prop), n ≤ sizeLine ∧ W 0 [] H1 ∧ ∀ i ys H, i ≤ n → ys.length ≤ i → W i ys H →
  (J.stop i H ∧ ∀ p, H p = none → Q (.ref p) (upd H p (.lst ys))) ∨ (J.go i H ∧ i < n ∧ ∀ x H', J.yld i H x H' → ∀ u v, g x (u :: v :: σ) H' fun ρ H2 => (∃ u' v', ρ = u' :: v' :: σ) ∧ tc ρ H2 fun c H3 => if c = true then te ρ H3 fun z H4 => W (i + 1) (ys ++ [z]) H4 else W (i + 1) ys H3)
theorem comp_block2 (K : CompOk2 X scope x y M) (hc : X.calm = true) (I : Inv X pins σ H₂ s₂) (hg : ∀ (C : Addr) (s₂ : Shared) (H₂ : Hp) (fp : List Addr), PG (compCx2 X scope C x y M s₂ H₂ fp) tg g) (ht : ∀ (C : Addr) (s₂ : Shared) (H₂ : Hp) (fp : List Addr), PIfs (compCx2 X scope C x y M s₂ H₂ fp) ifs tc) (he : ∀ (C : Addr) (s₂ : Shared) (H₂ : Hp) (fp : List Addr), PE (compCx2 X scope C x y M s₂ H₂ fp) elt te)
    {it : Addr} {fp : List Addr} {tn : Nat → Heap → Prop} {J : It} (T : Turn X.prog X.w X.K tg J fp it tn) (st : tn 0 s₂.heap) (hf : ∀ b ∈ fp, FpOk X pins H₂ b) {n : Nat} (hsz : n ≤ sizeLine) {W : Nat → List V → Hp → Prop} {F : List V → Hp → Prop}
    (w0 : W 0 [] H₂) (turn : ∀ i ys H, i ≤ n → ys.length ≤ i → W i ys H → (J.stop i H ∧ F ys H) ∨ (J.go i H ∧ i < n ∧ ∀ x H', J.yld i H x H' → ∀ u v, g x (u :: v :: σ) H' fun ρ H2 => (∃ u' v', ρ = u' :: v' :: σ) ∧ tc ρ H2 fun c H3 => if c = true then te ρ H3 fun z H4 => W (i + 1) (ys ++ [z]) H4 else W (i + 1) ys H3))
    {E : Value → Shared → Prop} {RR : Value → Addr → Result → Shared → Prop}
    (hRR : ∀ (D C : Addr) (s' : Shared) (H' : Hp) (ys : List V) (m : Str → Option Value), Inv X pins σ (upd H' D (.lst ys)) s' → H' D = none → FpOk X pins (upd H' D (.lst ys)) C → s'.heap.Ns C m → F ys H' → RR (.ref D) C (.ok .next) s') :
    wpAny (model X.prog X.w) X.A (newList []) (fun acc s₃ => wpAny (model X.prog X.w) X.A (newFunctionEnv scope X.env.globals (clOf X.env scope.names []) [] X.env.qual none .none (some X.env)) (fun cenv s₄ =>
      codeAny (model X.prog X.w) X.A (.compStart (.ListComp elt [⟨tg, iter, ifs, 0⟩] scope pos) 0 (.ref it) acc { cenv with scope := relabel scope X.env }) (RR acc cenv.locals) s₄) E s₃) E s₂ := by
  refine wpAny_newObj_type (wpAny_newFunctionEnv K.base.cell (by intro y hy; simp at hy) (fun h₁ hns₁ hsb₁ => ?_) K.base.kind)
  dsimp only at hns₁ hsb₁ ⊢
  generalize hH2 : s₂.heap.push { cls := .type "list", dict := none, data := .seq ([] : List Value).toArray } = H2 at hns₁ hsb₁ ⊢
  have hC : H2.objs.size = s₂.heap.objs.size + 1 := by rw [← hH2, Heap.size_push]
  have hDC : s₂.heap.objs.size ≠ H2.objs.size := by rw [hC]; exact Nat.ne_of_lt (Nat.lt_succ_self _)
  have below : ∀ b, b < s₂.heap.objs.size → b ≠ H2.objs.size ∧ b ≠ s₂.heap.objs.size := fun b hb => ⟨by rw [hC]; exact Nat.ne_of_lt (Nat.lt_succ_of_lt hb), Nat.ne_of_lt hb⟩
  have hfl : ∀ b ∈ fp, b < s₂.heap.objs.size := fun b hb => by obtain ⟨o, e, _⟩ := T.obj _ _ st b hb; exact Heap.lt_size e
  have old : ∀ b o, s₂.heap.get? b = some o → h₁.get? b = some o := fun b o e => hsb₁.extBut b o (below b (Heap.lt_size e)).1 (Heap.get?_push_of_some _ (hH2 ▸ Heap.get?_push_of_some _ e))
  have hacc : h₁.get? s₂.heap.objs.size = some { cls := .type "list", data := .seq ([] : List Value).toArray 0 } := hsb₁.extBut _ _ hDC (Heap.get?_push_of_some _ (hH2 ▸ Heap.get?_push_size _ rfl))
  generalize hCC : H2.objs.size = C at *
  generalize hDD : s₂.heap.objs.size = D at *
  have hCle : s₂.heap.objs.size ≤ C := by rw [hDD, hC]; exact Nat.le_succ _
  have st₁ : tn 0 h₁ := T.keep _ _ _ st fun b _ o e => old b o e
  have I₁ := inv_comp2 (t := s₂.toks + ([] : List (Str × Value)).length) K I hf (fun b hb => by rw [hDD]; exact hfl b hb) hCle hns₁ old
  -- the context of the block
  generalize hX' : compCx2 X scope C x y M s₂ H₂ fp = X' at I₁
  have eX : X'.prog = X.prog ∧ X'.w = X.w ∧ X'.K = X.K ∧ X'.calm = true ∧ X'.A = X.A ∧ X'.ex = fp ∧ X'.env = compEnvC scope (clOf X.env scope.names []) C X.env ∧ X'.s₀ = s₂ ∧ X'.pn = [] := by
    subst hX'; exact ⟨rfl, rfl, rfl, hc, rfl, rfl, rfl, rfl, rfl⟩
  obtain ⟨eP, ew, eK, ec, eA, eex, eenv, es0, epn⟩ := eX
  have eL : X'.env.locals = C := by rw [eenv]; rfl
  have cells' : ∀ y c, X'.env.cells.lookup y = some c → X.env.cells.lookup y = some c := fun y c e => by rw [eenv] at e; exact CompOk.cl_of e
  have efs : X'.fs = frs X.stack := by subst hX'; rfl
  have fsub : ∀ b ∈ X'.fs, b = X.env.locals ∨ b ∈ X.fs := fun b hb => List.mem_cons.mp (I.stkSub b (by rw [← efs]; exact hb))
  -- the iterator's records, the list: ours to turn
  have fpok : ∀ {pn : List (Addr × Obj)} {H' : Hp}, (∀ p ∈ pn, p.1 = D) → (∀ b ∈ fp, H' b = none) → ∀ b ∈ fp, FpOk X' pn H' b := fun {pn H'} hp hn b hb => by
    refine ⟨hn b hb, ?_, fun z => ?_, .inl (by rw [eex]; exact hb), fun y c e => (hf b hb).2.2.2.2.1 y c (cells' y c e), fun p hq => ?_⟩
    · rw [eL]; exact (below b (hfl b hb)).1
    · rcases fsub b z with q | q
      · exact (hf b hb).2.1 q
      · exact (hf b hb).2.2.1 q
    · rw [epn, List.nil_append] at hq
      rw [hp p hq]; exact Ne.symm (below b (hfl b hb)).2
  have Dfp : D ∉ fp := fun z => Nat.lt_irrefl _ (hfl D z)
  have ltL : X.env.locals < D := by have := I.lt; rw [hDD] at this; exact this
  have ltF : ∀ b ∈ X.fs, b < D := fun b hb => Nat.lt_of_not_le fun z => I.nofs (a := b) (by rw [hDD]; exact z) hb
  have newok : ∀ {b : Addr} {pn : List (Addr × Obj)} {H' : Hp}, D ≤ b → b ≠ C → H' b = none → (∀ p ∈ pn, p.1 ≠ b) → FpOk X' pn H' b := fun {b pn H'} hb hbC hn hp => by
    refine ⟨hn, by rw [eL]; exact hbC, fun z => ?_, .inr (by rw [es0, hDD]; exact hb), fun y c e => ?_, fun p hq => ?_⟩
    · rcases fsub b z with q | q
      · rw [q] at hb; exact absurd (Nat.lt_of_lt_of_le ltL hb) (Nat.lt_irrefl _)
      · exact absurd (Nat.lt_of_lt_of_le (ltF b q) hb) (Nat.lt_irrefl _)
    · obtain ⟨v, o, ho, _⟩ := I.cell y c (cells' y c e)
      have := Heap.lt_size ho
      rw [hDD] at this
      exact Nat.ne_of_lt (Nat.lt_of_lt_of_le this hb)
    · rw [epn, List.nil_append] at hq
      exact hp p hq
  -- behind the block
  have outer : ∀ {σ' : St} {H' : Hp} {s' : Shared} {pn : List (Addr × Obj)}, Inv X' pn σ' H' s' → Inv X pins σ H' s' := fun {σ' H' s' pn} J' => by
    subst hX'
    refine I.call' (ch := fp) J'.os J'.base J'.hok J'.bare fun b hb => ?_
    obtain ⟨f0, f1, f2, f3, f4, f5⟩ := hf b hb
    exact ⟨f3, f1, f4, f5⟩
  have outok : ∀ {b : Addr} {H' : Hp}, D ≤ b → H' b = none → FpOk X pins H' b := fun {b H'} hb hn => by
    have q := I.fpOk (H' := H') (b := b) (by rw [hDD]; exact hb) hn
    exact q
  have loop : ∀ s₃ : Shared, s₃ = { s₂ with heap := h₁, toks := s₂.toks + ([] : List (Str × Value)).length } →
      codeAny (model X.prog X.w) X.A (.compLoop (.ListComp elt [⟨tg, iter, ifs, 0⟩] scope pos) 0 (.ref it) (.ref D) (compEnvC scope (clOf X.env scope.names []) C X.env)) (RR (.ref D) C) s₃ := by
    rintro s₃ rfl
    refine compLoop_go2 (fun k s' => ∃ (i : Nat) (ys : List V) (its : List Value) (σ0 σ1 : Option V) (H' : Hp), i ≤ n ∧ k = n + 1 - i ∧ ys.length ≤ i ∧ Inv X' [] (σ0 :: σ1 :: σ) H' s' ∧ tn i s'.heap ∧ (∀ b ∈ fp, H' b = none) ∧ H' D = none ∧ Vals ys its ∧
      (∃ c, s'.heap.get? D = some { cls := .type "list", data := .seq its.toArray c }) ∧ W i ys H') ?_ (n + 1) ⟨0, [], [], none, none, H₂, Nat.zero_le _, rfl, Nat.le_refl _, I₁, st₁, fun b hb => (hf b hb).1, by rw [← hDD]; exact I.hok.fresh (Nat.le_refl _), .nil, ⟨0, hacc⟩, w0⟩
    rintro k s' ⟨i, ys, its, σ0, σ1, H', hi, rfl, hyl, I', st', fr', hD', rv, ⟨c, hobj⟩, w'⟩
    rcases turn i ys H' hi hyl w' with ⟨stop, fin⟩ | ⟨go, hlt, step⟩
    · have pinD : Inv X' [(D, { cls := .type "list", data := .seq its.toArray c })] (σ0 :: σ1 :: σ) H' s' := I'.pins_of fun p hp => by
        obtain rfl : p = (D, { cls := .type "list", data := .seq its.toArray c }) := by simpa using hp
        refine ⟨hobj, hD', ?_, ?_, fun v z => nomatch z⟩
        · rw [eL]; exact hDC
        · intro z
          rcases fsub D z with q | q
          · rw [q] at ltL; exact Nat.lt_irrefl _ ltL
          · exact Nat.lt_irrefl _ (ltF D q)
      have q := T.done X' eP ew eK ec i _ s' (σ0 :: σ1 :: σ) H' (notedBy (model X.prog X.w) X.A (compEnvC scope (clOf X.env scope.names []) C X.env) fun e s' => RR (.ref D) C (.error e) s') pinD (fpok (fun p hp => by obtain rfl : p = (D, { cls := .type "list", data := .seq its.toArray c }) := (by simpa using hp); rfl) fr') st' stop
      rw [eA] at q
      refine wpAny_mono q (fun r s4 ⟨hr, I4⟩ => ?_) fun _ _ z => z
      subst hr
      obtain ⟨e4, n4, _⟩ := I4.pin (D, { cls := .type "list", data := .seq its.toArray c }) (List.mem_append_right _ (by simp))
      have O4 := outer I4
      obtain ⟨m4, ns4, _⟩ := I4.loc
      rw [eL] at ns4
      refine hRR D C s4 H' ys m4 (O4.track (outok (Nat.le_refl _) n4) (Nat.le_trans I.sz (by rw [hDD]; exact Nat.le_refl _)) ⟨Nat.le_trans hyl (Nat.le_trans hi hsz), its, c, rv, e4⟩) n4 (outok (by rw [hC]; exact Nat.le_succ _) ?_) ns4 fin
      rw [upd_ne (Ne.symm hDC)]
      have := I4.free
      rw [eL] at this
      exact this
    · have pinD : Inv X' [(D, { cls := .type "list", data := .seq its.toArray c })] (σ0 :: σ1 :: σ) H' s' := I'.pins_of fun p hp => by
        obtain rfl : p = (D, { cls := .type "list", data := .seq its.toArray c }) := by simpa using hp
        refine ⟨hobj, hD', ?_, ?_, fun v z => nomatch z⟩
        · rw [eL]; exact hDC
        · intro z
          rcases fsub D z with q | q
          · rw [q] at ltL; exact Nat.lt_irrefl _ ltL
          · exact Nat.lt_irrefl _ (ltF D q)
      have pd : ∀ p ∈ [(D, ({ cls := .type "list", data := .seq its.toArray c } : Obj))], p.1 = D := fun p hp => by obtain rfl : p = (D, { cls := .type "list", data := .seq its.toArray c }) := (by simpa using hp); rfl
      have q := T.item X' eP ew eK ec i _ s' (σ0 :: σ1 :: σ) H' (notedBy (model X.prog X.w) X.A (compEnvC scope (clOf X.env scope.names []) C X.env) fun e s' => RR (.ref D) C (.error e) s') pinD (fpok pd fr') st' go
      rw [eA] at q
      refine wpAny_mono q (fun r s4 ⟨u, hr, h4⟩ => ?_) fun _ _ z => z
      subst hr
      refine wpAny_mono h4 (fun _ s5 ⟨xv, H5, I5, r5, y5, st5, fr5⟩ => ?_) fun _ _ z => z
      have I5' := I5.pinned (fpok pd fr5) (T.obj _ _ st5)
      rw [← eenv]
      have g6 := step xv H5 y5 σ0 σ1
      have q6 := (hg C s₂ H₂ fp) (([(D, ({ cls := .type "list", data := .seq its.toArray c } : Obj))]) ++ pinsAt fp s5.heap) s5 (σ0 :: σ1 :: σ) H5 xv u _ (by rw [hX']; exact I5') r5 g6
      rw [hX', eP, ew, eA] at q6
      refine wpAny_mono q6 (fun _ s6 ⟨ρ, H6, I6, ⟨u', v', eρ⟩, t6⟩ => ?_) (fun _ _ z => by subst hX'; exact (show False from z).elim)
      subst eρ
      have q7 := (ht C s₂ H₂ fp) _ s6 (u' :: v' :: σ) H6 _ (by rw [hX']; exact I6) t6
      rw [hX', eP, ew, eA] at q7
      refine wpAny_mono q7 (fun ok s7 ⟨H7, I7, w7⟩ => ?_) (fun _ _ z => by subst hX'; exact (show False from z).elim)
      have keepT : ∀ {s8 : Shared} {H8 : Hp} {pn : List (Addr × Obj)}, Inv X' (pn ++ (([(D, ({ cls := .type "list", data := .seq its.toArray c } : Obj))]) ++ pinsAt fp s5.heap)) (u' :: v' :: σ) H8 s8 → True := fun _ => trivial
      cases ok with
      | false =>
        obtain ⟨e7, n7, _⟩ := I7.pin (D, { cls := .type "list", data := .seq its.toArray c }) (List.mem_append_right _ (List.mem_append_left _ (by simp)))
        refine ⟨n + 1 - (i + 1), by omega, i + 1, ys, its, u', v', H7, hlt, rfl, Nat.le_succ_of_le hyl, I7.pins_of (pins' := []) fun p hp => absurd hp (by simp), ?_, fun b hb => ?_, n7, rv, ⟨c, e7⟩, w7⟩
        · refine T.keep _ _ _ st5 fun b hb o e => ?_
          exact (I7.pin (b, o) (List.mem_append_right _ (List.mem_append_right _ (mem_pinsAt hb e)))).1
        · obtain ⟨o, e, d⟩ := T.obj _ _ st5 b hb
          exact (I7.pin (b, o) (List.mem_append_right _ (List.mem_append_right _ (mem_pinsAt hb e)))).2.1
      | true =>
        have q8 := (he C s₂ H₂ fp) _ s7 (u' :: v' :: σ) H7 (fun z H'' => W (i + 1) (ys ++ [z]) H'') (by rw [hX']; exact I7) w7
        rw [hX', eP, ew, eA] at q8
        refine wpAny_mono q8 (fun u8 s8 ⟨v8, H8, I8, r8, w8⟩ => ?_) (fun _ _ z => by subst hX'; exact (show False from z).elim)
        obtain ⟨e7, n7, _⟩ := I8.pin (D, { cls := .type "list", data := .seq its.toArray c }) (List.mem_append_right _ (List.mem_append_left _ (by simp)))
        refine append_at (hsz := by rw [List.size_toArray, ← rv.length]; exact Nat.le_trans hyl (Nat.le_trans hi hsz)) e7 fun h8 sb8 g8 => ?_
        have I9 : Inv X' [] (u' :: v' :: σ) H8 { s8 with heap := h8, toks := s8.toks } := (I8.pins_of (pins' := []) fun p hp => absurd hp (by simp)).turned (t' := s8.toks) (it := D) (fun b o hb e => (sb8.2 b hb).trans e) n7 (by rw [eL]; exact hDC) (.inr (by rw [es0, hDD]; exact Nat.le_refl _))
          (newok (H' := H8) (pn := []) (Nat.le_refl _) hDC n7 (fun p hp => absurd hp (by simp))).2.2.2.2.1 (fun p hp => by rw [epn] at hp; exact absurd hp (by simp))
        refine ⟨n + 1 - (i + 1), by omega, i + 1, ys ++ [v8], its ++ [u8], u', v', H8, hlt, rfl, by rw [List.length_append, List.length_singleton]; omega, I9, ?_, fun b hb => ?_, n7, rv.append (.cons r8 .nil), ⟨c + 1, ?_⟩, w8⟩
        · refine T.keep _ _ _ st5 fun b hb o e => ?_
          have e' := (I8.pin (b, o) (List.mem_append_right _ (List.mem_append_right _ (mem_pinsAt hb e)))).1
          exact (sb8.2 b (fun z => Dfp (z ▸ hb))).trans e'
        · obtain ⟨o, e, d⟩ := T.obj _ _ st5 b hb
          exact (I8.pin (b, o) (List.mem_append_right _ (List.mem_append_right _ (mem_pinsAt hb e)))).2.1
        · rw [g8, List.push_toArray]
  exact codeAny_compStart_list (loop _ rfl) (T.self X.A 0 _ _ _ st₁ (loop _ rfl))

/-- a comprehension as a value -/
theorem pe_comp2 (K : CompOk2 X scope x y M) (hc : X.calm = true) (hi : PI X tg iter wi) (hg : ∀ (C : Addr) (s₂ : Shared) (H₂ : Hp) (fp : List Addr), PG (compCx2 X scope C x y M s₂ H₂ fp) tg g) (ht : ∀ (C : Addr) (s₂ : Shared) (H₂ : Hp) (fp : List Addr), PIfs (compCx2 X scope C x y M s₂ H₂ fp) ifs tc) (he : ∀ (C : Addr) (s₂ : Shared) (H₂ : Hp) (fp : List Addr), PE (compCx2 X scope C x y M s₂ H₂ fp) elt te)
    (hs : ∀ x, foldedSetIterable iter X.env x = pure x := by intro _; rfl) : PE X (.ListComp elt [⟨tg, iter, ifs, 0⟩] scope pos) (tComp2 wi g tc te) := by
  intro pins s σ H Q I h
  rw [eval_ListComp]
  refine wpAny_comprehension_free (use := none) rfl hs (K.base.closure I.ok) K.base.kind K.base.names (thn (hi pins s σ H _ I h) fun v s1 h1 => thn h1 fun itv s2 h2 => ?_)
  obtain ⟨it, fp, tn, J, H2, e, I2, T, st2, f2, n, W, hsz, w0, turn⟩ := h2
  subst e
  refine comp_block2 (RR := fun acc C => compPost (model X.prog X.w) X.A X.xe none (EP X pins σ Q) acc C) K hc I2 hg ht he T st2 f2 hsz (F := fun ys H => ∀ p, H p = none → Q (.ref p) (upd H p (.lst ys))) w0 turn ?_
  intro D C s' H' ys m I' n' fC ns fin
  refine ⟨m, ns, fun h' sb => ?_⟩
  obtain ⟨f0, f1, f2, f3, f4, f5⟩ := fC
  exact ⟨.ref D, _, I'.turned (t' := s'.toks) (it := C) (fun b o hb e => (sb.2 b hb).trans e) f0 f1 f3 f4 f5, rfl, fin D n'⟩
end
end L2
/-! comprehensions over tuples of two, sets of lists, ranges with a step, and what items are alike -/
namespace L2
open PySem PySem.Spec PyProof.Rows PySem.Calls
section
variable {X : Cx} {scope : Scope} {x y : Str} {M : List Str} {elt iter : Expr} {ifs : List Expr} {pos p1 p2 p3 : Pos} {kk : Nat} {te : TE} {wi : TI} {tc : TT}
structure CompRT (K : PySem.W.Frag) (J : It) (tc : TT) (te : TE) (σ : St) (H1 : Hp) (Q : VK) : Prop where
  ex : ∃ (n : Nat) (W : Nat → List V → Hp → Prop), n ≤ sizeLine ∧ W 0 [] H1 ∧ ∀ i ys H, i ≤ n → ys.length ≤ i → W i ys H →
    (J.stop i H ∧ ∀ p, H p = none → Q (.ref p) (upd H p (.lst ys))) ∨ (J.go i H ∧ i < n ∧ ∀ z H', J.yld i H z H' → ∃ (p : Addr) (a b : V), z = .ref p ∧ SqT K H' p [a, b] ∧ tc (some a :: some b :: σ) H' fun c H3 => if c = true then te (some a :: some b :: σ) H3 fun z H4 => W (i + 1) (ys ++ [z]) H4 else W (i + 1) ys H3)
def tCompT (K : PySem.W.Frag) (wi : TI) (tc : TT) (te : TE) : TE := fun σ H Q => wi σ H fun J H1 => CompRT K J tc te σ H1 Q
theorem pg_two (K : CompOk2 X scope x y M) (hc : X.calm = true) {C : Addr} {s₂ : Shared} {H₂ : Hp} {fp : List Addr} : PG (compCx2 X scope C x y M s₂ H₂ fp) (.Tuple [.Name x p1, .Name y p2] kk p3) (gTup X.K 2 (gCons (gName 0) (gCons (gName 1) gNil))) :=
  pg_tup (X := compCx2 X scope C x y M s₂ H₂ fp) hc (pgs_cons (pg_name K.nd2 rfl (.inl (lookup_relabel_local K.base.loc)) (.inr (lookup_relabel_local K.base.loc))) (pgs_cons (pg_name K.nd2 rfl (.inl (lookup_relabel_local K.loc2)) (.inr (lookup_relabel_local K.loc2))) pgs_nil))
/-- [e for x, y in it if ..] -/
theorem pe_compT (K : CompOk2 X scope x y M) (hc : X.calm = true) (hi : PI X (.Tuple [.Name x p1, .Name y p2] kk p3) iter wi) (ht : ∀ (C : Addr) (s₂ : Shared) (H₂ : Hp) (fp : List Addr), PIfs (compCx2 X scope C x y M s₂ H₂ fp) ifs tc) (he : ∀ (C : Addr) (s₂ : Shared) (H₂ : Hp) (fp : List Addr), PE (compCx2 X scope C x y M s₂ H₂ fp) elt te)
    (hs : ∀ x, foldedSetIterable iter X.env x = pure x := by intro _; rfl) : PE X (.ListComp elt [⟨.Tuple [.Name x p1, .Name y p2] kk p3, iter, ifs, 0⟩] scope pos) (tCompT X.K wi tc te) := by
  intro pins s σ H Q I h
  have q := pe_comp2 (pos := pos) K hc (wi := fun σ0 H0 R0 => ∃ R, wi σ0 H0 R ∧ ∀ J H1, R J H1 → R0 J H1) (pi_conv hi fun σ H R ⟨R1, a, b⟩ => ⟨R1, a, b⟩) (fun C s₂ H₂ fp => pg_two (p1 := p1) (p2 := p2) (p3 := p3) (kk := kk) K hc) ht he hs pins s σ H Q I
  refine q ⟨_, h, fun J H1 r => ?_⟩
  obtain ⟨n, W, h1, h2, h3⟩ := r.ex
  refine ⟨n, W, h1, h2, fun i ys H' hi hy hw => ?_⟩
  rcases h3 i ys H' hi hy hw with hq | ⟨g1, g2, g3⟩
  · exact .inl hq
  · refine .inr ⟨g1, g2, fun z H2 hz u v => ?_⟩
    obtain ⟨p, a, b, e, hq, t⟩ := g3 z H2 hz
    exact ⟨p, [a, b], e, hq, rfl, a, [b], rfl, b, [], rfl, rfl, ⟨_, _, rfl⟩, t⟩
end
theorem comp_listT {K : PySem.W.Frag} {a : Addr} {xs : List V} {tc : TT} {te : TE} {σ : St} {H : Hp} {Q : VK} (hz : xs.length ≤ sizeLine) (W : Nat → List V → Hp → Prop) (h0 : W 0 [] H) (hq : ∀ i ys H, W i ys H → SqL K H a xs)
    (hs : ∀ i x ys H, xs[i]? = some x → ys.length ≤ i → W i ys H → ∃ (p : Addr) (u v : V), x = .ref p ∧ SqT K H p [u, v] ∧ tc (some u :: some v :: σ) H fun c H3 => if c = true then te (some u :: some v :: σ) H3 fun z H4 => W (i + 1) (ys ++ [z]) H4 else W (i + 1) ys H3)
    (hd : ∀ ys H, W xs.length ys H → ∀ p, H p = none → Q (.ref p) (upd H p (.lst ys))) : CompRT K (Itl K a) tc te σ H Q := by
  refine ⟨xs.length, W, hz, h0, fun i ys H hi hl hw => ?_⟩
  have q := hq i ys H hw
  by_cases hlt : i < xs.length
  · refine .inr ⟨⟨xs, xs[i], q, by simp [hlt]⟩, hlt, fun v H' y => ?_⟩
    obtain ⟨e, y⟩ := y
    subst e
    exact hs i v ys _ (y xs q) hl hw
  · have e : i = xs.length := by omega
    subst e
    exact .inl ⟨⟨xs, q, Nat.le_refl _⟩, hd ys H hw⟩
theorem sub_lst_set : isSubtype (.type "list") (.type "set") = pure false := by rw [isSubtype_type]; kernel_rfl
theorem sub_lst_frozenset : isSubtype (.type "list") (.type "frozenset") = pure false := by rw [isSubtype_type]; kernel_rfl
section
variable {prog : Program} {w : World} {A : Around} {E : Value → Shared → Prop} {s : Shared}
set_option maxHeartbeats 3200000 in
theorem set_listT {l : Addr} {items : Array Value} {ws : List Str} {Q : Value → Shared → Prop}
    (hh : A.handled = none) (hl : s.heap.IsList l items) (hn : ws.length = items.size) (hi : ∀ (i : Nat) v, items[i]? = some v → ∃ z t, v = .str z t ∧ ws[i]? = some z) (hb : items.size + 1 < scanBound)
    (h : ∀ (h' : Heap) (tk : Nat), h'.SetOf (strKind prog w) s.heap.objs.size (fun k' => decide (k' ∈ metT ws)) (metT ws).length →
      (∀ b o, b < s.heap.objs.size → s.heap.get? b = some o → h'.get? b = some o) → Q (.ref s.heap.objs.size) { s with heap := h', toks := tk }) :
    wpAny (model prog w) A (call (.type "set") [.ref l]) Q E s := by
  obtain ⟨c, tl, hmro⟩ := F.called_set.mro
  have hmade := F.called_set.made
  have hsub := F.called_set.sub
  refine wpAny_call (codeAny_of_tree ?_)
  show wpAny _ _ (callAny (.type "set") _) _ _ _
  refine wpAny_pure ⟨Code.quiet_builtin _ (by decide +kernel), codeAny_builtin F.entry_type_call ?_⟩
  rw [Around.under_plain (weight_type_call_type "set" [.ref l] []) rfl]
  have h1 := F.called_set.notType
  have h2 := F.called_set.canCreate
  have hct := F.typeCall_set_1 (.ref l)
  repeat (any_goals (first | assumption | wp_step))
  refine codeAny_mono (code_set_new_1 (.ref l) (E := E) (Q₁ := fun obj s₁ => ∃ led : Bool, obj = .ref s.heap.objs.size ∧ s₁ = { s with heap := s.heap.push { cls := .type "set", dict := none, data := .set #[] 0 (.fresh 0 0 led) } }) fun led => ⟨led, rfl, rfl⟩) fun r s₁ hr => ?_
  cases r with
  | error e => exact hr
  | ok fl =>
    cases fl with
    | ret obj =>
      obtain ⟨led, rfl, rfl⟩ := hr
      have hS : (s.heap.push { cls := .type "set", dict := none, data := .set #[] 0 (.fresh 0 0 led) }).get? s.heap.objs.size = some { cls := .type "set", dict := none, data := .set #[] 0 (.fresh 0 0 led) } := Heap.get?_push_size _ rfl
      have hT : Shared.TypeIs { s with heap := s.heap.push { cls := .type "set", dict := none, data := .set #[] 0 (.fresh 0 0 led) } } (.ref s.heap.objs.size) "set" := ⟨_, hS, rfl⟩
      have hli := F.called_set.init.lookup
      have hbi := F.called_set.init.bind (.ref s.heap.objs.size)
      repeat (any_goals (first | assumption | wp_step))
      refine codeAny_mono (codeAny_call_builtin (R := wants (fun r s₂ => r = .none ∧ ∃ h' tk, s₂ = { s with heap := h', toks := tk } ∧
          h'.SetOf (strKind prog w) s.heap.objs.size (fun k' => decide (k' ∈ metT ws)) (metT ws).length ∧
          (∀ b o, b < s.heap.objs.size → s.heap.get? b = some o → h'.get? b = some o)) E) F.called_set.init.plain F.entry_set_init (check_set_init_1 hT ?_)) fun r₂ s₂ hr₂ => ?_
      · obtain ⟨ol, hol, hcl, nl, hdl⟩ := hl
        obtain ⟨ocls, odict, odata, oslots⟩ := ol
        simp only at hcl hdl
        subst hcl; subst hdl
        have hol' : (s.heap.push { cls := .type "set", dict := none, data := .set #[] 0 (.fresh 0 0 led) }).get? l = some { cls := .type "list", dict := odict, data := .seq items nl, slots := oslots } := Heap.get?_push_of_some _ hol
        have hsls := sub_lst_set
        have hslf := sub_lst_frozenset
        have hne : (Value.type "list" == Value.type "dict") = false := by decide
        have hl1 : (s.heap.push { cls := .type "set", dict := none, data := .set #[] 0 (.fresh 0 0 led) }).IsList l items := ⟨_, hol', rfl, nl, rfl⟩
        unfold Builtin.«set.__init__» noKeywords Builtin.Frozenset.updateFrom
        generalize hPI : pyIter = PI
        wp_walk
        subst hPI
        refine wpAny_pyIter_list hl1 ?_
        refine wpAny_bind (wpAny_runValue ?_)
        have hlS : l < s.heap.objs.size := Heap.lt_size hol
        have hh3 : A.in1.in1.in1.handled = none := by simp [hh]
        have hneI : l ≠ (s.heap.push { cls := .type "set", dict := none, data := .set #[] 0 (.fresh 0 0 led) }).objs.size := by
          rw [Heap.size_push]; exact Nat.ne_of_lt (Nat.lt_succ_of_lt hlS)
        have hSf : s.heap.objs.size ∉ [(s.heap.push { cls := .type "set", dict := none, data := .set #[] 0 (.fresh 0 0 led) }).objs.size, l] := by
          rw [Heap.size_push]; simp only [List.mem_cons, List.mem_singleton, List.not_mem_nil, or_false, not_or]
          exact ⟨Nat.ne_of_lt (Nat.lt_succ_self _), Nat.ne_of_gt hlS⟩
        refine set_loopT ((Walks.list hh3 _ l hneI items).toS) s.heap.objs.size
          hSf ws hn hi hb (items.size - 0) 0 _ (by omega) (Nat.zero_le _)
          ⟨⟨_, Heap.get?_push_size _ rfl, rfl, rfl⟩, ⟨_, Heap.get?_push_of_some _ hol', rfl, nl, rfl⟩⟩ ?hS0 ?hR
        case hS0 =>
          have hget : ((s.heap.push { cls := .type "set", dict := none, data := .set #[] 0 (.fresh 0 0 led) }).push { cls := .type "list_iterator", data := .fields #[.ref l, .int 0 0] }).get? s.heap.objs.size
              = some { cls := .type "set", dict := none, data := .set #[] 0 (.fresh 0 0 led) } := Heap.get?_push_of_some _ hS
          exact SetOf_congr ((setObjOf_fresh (knd := strKind prog w) led).setOf hget (by unfold scanBound; omega)) (fun _ => rfl) rfl
        case hR =>
          intro s' hm hS'
          obtain ⟨h', g', d', tk', os'⟩ := s'
          have eg : g' = s.gens := hm.gens
          have ed : d' = s.drawn := hm.drawn
          have eo : os' = s.os := hm.os
          subst eg; subst ed; subst eo
          show wpAny _ _ _ _ _ _
          refine wpAny_pure ?_
          show wpAny _ _ (ret Value.none) _ _ _
          refine wpAny_pure ⟨rfl, h', tk', rfl, hS', fun b o hb e => ?_⟩
          have hb1 : b ≠ s.heap.objs.size := Nat.ne_of_lt hb
          have hb2 : b ≠ (s.heap.push { cls := .type "set", dict := none, data := .set #[] 0 (.fresh 0 0 led) }).objs.size := by
            rw [Heap.size_push]; exact Nat.ne_of_lt (Nat.lt_succ_of_lt hb)
          exact hm.heap b o (by simp only [List.mem_cons, List.mem_singleton, List.not_mem_nil, or_false, not_or]; exact ⟨hb1, hb2⟩) (Heap.get?_push_of_some _ (Heap.get?_push_of_some _ e))
      · cases r₂ with
        | error e => exact hr₂
        | ok fl₂ =>
          cases fl₂ with
          | ret r =>
            obtain ⟨rfl, h', tk, rfl, hS', hk'⟩ := hr₂
            repeat (any_goals (first | assumption | wp_step))
            exact h _ _ hS' hk'
          | _ => exact hr₂.elim
    | _ => exact hr.elim
end
section
variable {X : Cx}
theorem call_set_lst (hc : X.calm = true) : CallR X (.type "set") (fun xs H Q => ∃ (p : Addr) (ws : List Str), xs = [.ref p] ∧ SqL X.K H p (ws.map V.str) ∧ ws.length ≤ 1000 ∧ ∀ l, H l = none → Q (.ref l) (upd H l (SetT X.prog X.w l (fun k => decide (k ∈ metT ws)) (metT ws).length))) := by
  intro pins s σ H xs us Q I r h
  obtain ⟨p, ws, rfl, hq, hw, q⟩ := h
  obtain ⟨u, rfl, ru⟩ := vals1 r
  cases ru
  obtain ⟨its, rv, pl, hz⟩ := I.list hq
  have hl := rv.length
  rw [List.length_map] at hl
  refine set_listT (ws := ws) (I.ok.hd hc) pl.isList (by rw [List.size_toArray]; omega) (fun i v hv => ?_) (by rw [List.size_toArray]; unfold scanBound; omega) (fun h' tk hS k => ?_)
  · have hv' : its[i]? = some v := by simpa using hv
    obtain ⟨x, hx, rx⟩ := vals_at rv (j := i) (by rw [List.size_toArray]; exact (List.getElem?_eq_some_iff.mp hv').1)
    obtain ⟨z, hz', rfl⟩ := map_get hx
    obtain ⟨t, e⟩ := rx
    refine ⟨z, t, ?_, hz'⟩
    rw [← e]
    exact (List.getElem?_eq_some_iff.mp hv').2.symm.trans (by simp)
  · refine ⟨.ref s.heap.objs.size, _, I.laid (t' := tk) (a := s.heap.objs.size) (o := SetT X.prog X.w s.heap.objs.size (fun k => decide (k ∈ metT ws)) (metT ws).length) (fun b o e => k b o (Heap.lt_size e) e) (Nat.le_refl _) ?_, rfl, q _ (I.hok.fresh (Nat.le_refl _))⟩
    obtain ⟨o, es, ep, t, ho, rest⟩ := hS
    refine ⟨⟨o, es, ep, t, ho, rest⟩, ⟨o, ho⟩, fun h1 h2 ⟨o1, es1, ep1, t1, ho1, rest1⟩ hk => ⟨o1, es1, ep1, t1, hk _ ho1, rest1⟩⟩
end
/-! range(lo, hi, c) -/
section
variable {X : Cx} {tg : Expr}
end
/-! items -/
theorem eqi_tup_non {X : Cx} {H : Hp} {n : Nat} {p : Addr} {xs : List V} (h : SqT X.K H p xs) : EqJi X H (n + 1) (.ref p) .non false := by
  intro pins s σ u v A I rx ry hu
  cases rx; cases ry
  obtain ⟨its, r, pl, _⟩ := I.tuple h
  exact SeqAt.EqAt.tuple_none pl (by omega)
/-- two tuples of flat items -/
theorem eqi_ftups {X : Cx} {H : Hp} {n : Nat} {p q : Addr} {xs ys : List V} (h : SqT X.K H p xs) (k : SqT X.K H q ys) (fx : xs.all flatV = true) (fy : ys.all flatV = true) (hxy : eqL xs ys = true → xs = ys) : EqJi X H (n + 1) (.ref p) (.ref q) (eqL xs ys) := by
  by_cases hpq : p = q
  · subst hpq
    intro pins s σ u v A I ru rv hu
    have e2 := I.tuple_inj h k
    subst e2
    rw [eqL_self fx]
    exact eqi_same (n := n + 1) pins s σ u v A I ru rv hu
  · exact eqi_refs hpq (eqj_ftups (n := n) h k fx fy)
end L2
/-! None in a list of tuples -/
namespace L2
open PySem PySem.Spec PyProof.Rows PySem.Calls
def isNon : V → Bool
  | .non => true
  | _ => false
def isNonU : Value → Bool
  | .none => true
  | _ => false
theorem op_inN {X : Cx} (hu : X.A.units + 20 < cLine) : OpR X (compareOp .In) (fun x y H Q => ∃ p xs, x = .non ∧ y = .ref p ∧ SqL X.K H p xs ∧ (∀ z ∈ xs, z = .non ∨ ∃ q ys, z = .ref q ∧ SqT X.K H q ys) ∧ Q (.bl (xs.any isNon)) H) := by
  intro pins s σ H x y v u Q I rx ry h
  obtain ⟨p, xs, rfl, rfl, hq, hz, q⟩ := h
  cases ry
  obtain ⟨its, rv, pl, _⟩ := I.list hq
  have key : ∀ {xs : List V} {us : List Value}, Vals xs us → (∀ z ∈ xs, z = .non ∨ ∃ q ys, z = .ref q ∧ SqT X.K H q ys) → (∀ w ∈ us, SeqAt.EqAt X.A.in1 s w v (isNonU w)) ∧ us.any isNonU = xs.any isNon := by
    intro xs us rv
    induction rv with
    | nil => intro _; exact ⟨fun w hw => (by cases hw), rfl⟩
    | cons a _ ih =>
      rename_i x' u' xs' us' _
      intro f
      obtain ⟨i1, i2⟩ := ih fun z hz => f z (List.mem_cons_of_mem _ hz)
      rcases f x' (by simp) with e | ⟨q', ys, e, hq'⟩
      · subst e
        cases a
        refine ⟨fun w hw => ?_, by rw [List.any_cons, List.any_cons, i2]; rfl⟩
        rcases List.mem_cons.mp hw with e | e
        · subst e
          have := eqi_flat (X := X) (H := H) (n := 1) (x := .non) (y := .non) rfl rfl pins s σ .none v X.A.in1 I rfl rx (by show X.A.units + 1 + 1 < _; omega)
          exact this
        · exact i1 w e
      · subst e
        cases a
        refine ⟨fun w hw => ?_, by rw [List.any_cons, List.any_cons, i2]; rfl⟩
        rcases List.mem_cons.mp hw with e | e
        · subst e
          have := eqi_tup_non (X := X) (n := 0) hq' pins s σ (.ref q') v X.A.in1 I rfl rx (by show X.A.units + 1 + 1 < _; omega)
          exact this
        · exact i1 w e
  obtain ⟨k1, k2⟩ := key rv hz
  refine SeqAt.in_listAt isNonU pl.isList (fun w hw => k1 w (by simpa using hw)) ⟨.bl _, H, I, rfl, ?_⟩
  rw [show its.toArray.any isNonU = its.any isNonU by simp, k2]
  exact q
end L2
/-! an expression alone, tried -/
namespace L2
open PySem PySem.Spec PyProof.Rows PySem.Calls
def tDropX (te : TEx) : TSx := fun D E σ H => te σ H (fun _ H1 => D.nx σ H1) (E σ)
theorem psx_expr {X : Cx} {e : Expr} {te : TEx} {pos : Pos} (he : PEx X e te) (hs : swapsWith e none pos.line X.env = pure false := by rfl) : PSx X (.Expr e pos) (tDropX te) := by
  intro pins s σ H D E I h
  exact wpAny_Expr_any (wpAny_mono (he pins s σ H _ _ I h) (fun v s1 ⟨x, H1, I1, r1, q1⟩ => ⟨σ, H1, I1, q1⟩) fun e s' z => ⟨σ, z⟩) I.quiet hs
end L2
namespace K12
open PySem L2
def top (i : Nat) : Stmt := PySem.Challenge.pw_askpaper_k12_sums_refused.main.body.getD i (.Pass ⟨0, 0, 0, 0⟩)
abbrev s_is_name : Stmt := top 14
abbrev s_are_unlike_names : Stmt := top 15
abbrev s_are_figures : Stmt := top 16
abbrev s_figures_worth : Stmt := top 17
abbrev s_number_of : Stmt := top 18
abbrev s_number_or_none : Stmt := top 19
abbrev s_parted_at_signs : Stmt := top 23
abbrev s_least_number : Stmt := top 24
abbrev s_part_or_none : Stmt := top 25
abbrev s_are_parts : Stmt := top 26
abbrev s_read_sum : Stmt := top 27
abbrev s_law_cell_at : Stmt := top 29
abbrev s_law_names : Stmt := top 30
abbrev s_law_number : Stmt := top 31
abbrev s_law_part : Stmt := top 32
abbrev s_law_parts_by : Stmt := top 33
abbrev s_law_body : Stmt := top 34
abbrev s_law_text : Stmt := top 35
abbrev s_law_bad : Stmt := top 36
abbrev s_law_refused : Stmt := top 37
abbrev s_law_spoiled : Stmt := top 38
abbrev s_law : Stmt := top 39
structure Adr where
  f_is_name : Addr
  d_is_name : FuncData
  f_are_unlike_names : Addr
  d_are_unlike_names : FuncData
  f_are_figures : Addr
  d_are_figures : FuncData
  f_figures_worth : Addr
  d_figures_worth : FuncData
  f_number_of : Addr
  d_number_of : FuncData
  ds_number_of : List Value
  f_number_or_none : Addr
  d_number_or_none : FuncData
  f_parted_at_signs : Addr
  d_parted_at_signs : FuncData
  f_least_number : Addr
  d_least_number : FuncData
  f_part_or_none : Addr
  d_part_or_none : FuncData
  f_are_parts : Addr
  d_are_parts : FuncData
  f_read_sum : Addr
  d_read_sum : FuncData
  f_law_cell_at : Addr
  d_law_cell_at : FuncData
  f_law_names : Addr
  d_law_names : FuncData
  f_law_number : Addr
  d_law_number : FuncData
  f_law_part : Addr
  d_law_part : FuncData
  f_law_parts_by : Addr
  d_law_parts_by : FuncData
  f_law_body : Addr
  d_law_body : FuncData
  f_law_text : Addr
  d_law_text : FuncData
  f_law_bad : Addr
  d_law_bad : FuncData
  f_law_refused : Addr
  d_law_refused : FuncData
  f_law_spoiled : Addr
  d_law_spoiled : FuncData
  f_law : Addr
  d_law : FuncData
  a_NO_NAMES : Addr
  a_SIGNS : Addr
  c_AskError : Addr
  c_NoAnswer : Addr
  c_NoKind : Addr
  c_NoNumber : Addr
  c_NoRow : Addr
  c_NoSaying : Addr
  c_NoSum : Addr
  c_WrongKind : Addr
structure Txt (K : PySem.W.Frag) (mg : Str → Option Value) (A : Adr) : Prop where
  F_is_name : Fun K "is_name" "is_name" s_is_name A.f_is_name A.d_is_name
  b_is_name : Binds K A.d_is_name ["thing"] []
  k_is_name : PySem.W.keepIn K (.ref A.f_is_name) = true
  m_is_name : mg "is_name" = some (.ref A.f_is_name)
  F_are_unlike_names : Fun K "are_unlike_names" "are_unlike_names" s_are_unlike_names A.f_are_unlike_names A.d_are_unlike_names
  b_are_unlike_names : Binds K A.d_are_unlike_names ["words"] []
  k_are_unlike_names : PySem.W.keepIn K (.ref A.f_are_unlike_names) = true
  m_are_unlike_names : mg "are_unlike_names" = some (.ref A.f_are_unlike_names)
  F_are_figures : Fun K "are_figures" "are_figures" s_are_figures A.f_are_figures A.d_are_figures
  b_are_figures : Binds K A.d_are_figures ["text"] []
  k_are_figures : PySem.W.keepIn K (.ref A.f_are_figures) = true
  m_are_figures : mg "are_figures" = some (.ref A.f_are_figures)
  F_figures_worth : Fun K "figures_worth" "figures_worth" s_figures_worth A.f_figures_worth A.d_figures_worth
  b_figures_worth : Binds K A.d_figures_worth ["figures"] []
  k_figures_worth : PySem.W.keepIn K (.ref A.f_figures_worth) = true
  m_figures_worth : mg "figures_worth" = some (.ref A.f_figures_worth)
  F_number_of : FunD K "number_of" "number_of" s_number_of A.ds_number_of A.f_number_of A.d_number_of
  b_number_of : Binds K A.d_number_of ["text", "most"] []
  bd_number_of : Binds K A.d_number_of ["text", "most"] A.ds_number_of
  dv_number_of : Vals [(.int 60)] A.ds_number_of
  k_number_of : PySem.W.keepIn K (.ref A.f_number_of) = true
  m_number_of : mg "number_of" = some (.ref A.f_number_of)
  F_number_or_none : Fun K "number_or_none" "number_or_none" s_number_or_none A.f_number_or_none A.d_number_or_none
  b_number_or_none : Binds K A.d_number_or_none ["text"] []
  k_number_or_none : PySem.W.keepIn K (.ref A.f_number_or_none) = true
  m_number_or_none : mg "number_or_none" = some (.ref A.f_number_or_none)
  F_parted_at_signs : Fun K "parted_at_signs" "parted_at_signs" s_parted_at_signs A.f_parted_at_signs A.d_parted_at_signs
  b_parted_at_signs : Binds K A.d_parted_at_signs ["words"] []
  k_parted_at_signs : PySem.W.keepIn K (.ref A.f_parted_at_signs) = true
  m_parted_at_signs : mg "parted_at_signs" = some (.ref A.f_parted_at_signs)
  F_least_number : Fun K "least_number" "least_number" s_least_number A.f_least_number A.d_least_number
  b_least_number : Binds K A.d_least_number ["sign", "name"] []
  k_least_number : PySem.W.keepIn K (.ref A.f_least_number) = true
  m_least_number : mg "least_number" = some (.ref A.f_least_number)
  F_part_or_none : Fun K "part_or_none" "part_or_none" s_part_or_none A.f_part_or_none A.d_part_or_none
  b_part_or_none : Binds K A.d_part_or_none ["sign", "words"] []
  k_part_or_none : PySem.W.keepIn K (.ref A.f_part_or_none) = true
  m_part_or_none : mg "part_or_none" = some (.ref A.f_part_or_none)
  F_are_parts : Fun K "are_parts" "are_parts" s_are_parts A.f_are_parts A.d_are_parts
  b_are_parts : Binds K A.d_are_parts ["parts"] []
  k_are_parts : PySem.W.keepIn K (.ref A.f_are_parts) = true
  m_are_parts : mg "are_parts" = some (.ref A.f_are_parts)
  F_read_sum : Fun K "read_sum" "read_sum" s_read_sum A.f_read_sum A.d_read_sum
  b_read_sum : Binds K A.d_read_sum ["text"] []
  k_read_sum : PySem.W.keepIn K (.ref A.f_read_sum) = true
  m_read_sum : mg "read_sum" = some (.ref A.f_read_sum)
  F_law_cell_at : Fun K "_law_cell_at" "_law_cell_at" s_law_cell_at A.f_law_cell_at A.d_law_cell_at
  b_law_cell_at : Binds K A.d_law_cell_at ["_law_script", "_law_k"] []
  k_law_cell_at : PySem.W.keepIn K (.ref A.f_law_cell_at) = true
  m_law_cell_at : mg "_law_cell_at" = some (.ref A.f_law_cell_at)
  F_law_names : Fun K "_law_names" "_law_names" s_law_names A.f_law_names A.d_law_names
  b_law_names : Binds K A.d_law_names ["_law_script"] []
  k_law_names : PySem.W.keepIn K (.ref A.f_law_names) = true
  m_law_names : mg "_law_names" = some (.ref A.f_law_names)
  F_law_number : Fun K "_law_number" "_law_number" s_law_number A.f_law_number A.d_law_number
  b_law_number : Binds K A.d_law_number ["_law_cell"] []
  k_law_number : PySem.W.keepIn K (.ref A.f_law_number) = true
  m_law_number : mg "_law_number" = some (.ref A.f_law_number)
  F_law_part : Fun K "_law_part" "_law_part" s_law_part A.f_law_part A.d_law_part
  b_law_part : Binds K A.d_law_part ["_law_cell", "_law_names_here", "_law_used"] []
  k_law_part : PySem.W.keepIn K (.ref A.f_law_part) = true
  m_law_part : mg "_law_part" = some (.ref A.f_law_part)
  F_law_parts_by : Fun K "_law_parts_by" "_law_parts_by" s_law_parts_by A.f_law_parts_by A.d_law_parts_by
  b_law_parts_by : Binds K A.d_law_parts_by ["_law_cells", "_law_names_here"] []
  k_law_parts_by : PySem.W.keepIn K (.ref A.f_law_parts_by) = true
  m_law_parts_by : mg "_law_parts_by" = some (.ref A.f_law_parts_by)
  F_law_body : Fun K "_law_body" "_law_body" s_law_body A.f_law_body A.d_law_body
  b_law_body : Binds K A.d_law_body ["_law_times", "_law_name"] []
  k_law_body : PySem.W.keepIn K (.ref A.f_law_body) = true
  m_law_body : mg "_law_body" = some (.ref A.f_law_body)
  F_law_text : Fun K "_law_text" "_law_text" s_law_text A.f_law_text A.d_law_text
  b_law_text : Binds K A.d_law_text ["_law_parts"] []
  k_law_text : PySem.W.keepIn K (.ref A.f_law_text) = true
  m_law_text : mg "_law_text" = some (.ref A.f_law_text)
  F_law_bad : Fun K "_law_bad" "_law_bad" s_law_bad A.f_law_bad A.d_law_bad
  b_law_bad : Binds K A.d_law_bad ["_law_cell", "_law_name"] []
  k_law_bad : PySem.W.keepIn K (.ref A.f_law_bad) = true
  m_law_bad : mg "_law_bad" = some (.ref A.f_law_bad)
  F_law_refused : Fun K "_law_refused" "_law_refused" s_law_refused A.f_law_refused A.d_law_refused
  b_law_refused : Binds K A.d_law_refused ["_law_words"] []
  k_law_refused : PySem.W.keepIn K (.ref A.f_law_refused) = true
  m_law_refused : mg "_law_refused" = some (.ref A.f_law_refused)
  F_law_spoiled : Fun K "_law_spoiled" "_law_spoiled" s_law_spoiled A.f_law_spoiled A.d_law_spoiled
  b_law_spoiled : Binds K A.d_law_spoiled ["_law_parts", "_law_at", "_law_bad_here", "_law_minus"] []
  k_law_spoiled : PySem.W.keepIn K (.ref A.f_law_spoiled) = true
  m_law_spoiled : mg "_law_spoiled" = some (.ref A.f_law_spoiled)
  F_law : Fun K "law" "law" s_law A.f_law A.d_law
  b_law : Binds K A.d_law ["_law_script"] []
  k_law : PySem.W.keepIn K (.ref A.f_law) = true
  m_law : mg "law" = some (.ref A.f_law)
  g_FIGURES : GlobV mg "FIGURES" (.str "0123456789")
  g_LETTERS : GlobV mg "LETTERS" (.str "abcdefghijklmnopqrstuvwxyz")
  g_LONGEST_NAME : GlobV mg "LONGEST_NAME" (.int 12)
  g_MOST_PARTS : GlobV mg "MOST_PARTS" (.int 12)
  g_NO_NAMES : GlobV mg "NO_NAMES" (.ref A.a_NO_NAMES)
  q_NO_NAMES : ∀ H, SqT K H A.a_NO_NAMES [(.str "and"), (.str "each"), (.str "end"), (.str "is"), (.str "not"), (.str "or"), (.str "unless"), (.str "when")]
  g_SIGNS : GlobV mg "SIGNS" (.ref A.a_SIGNS)
  q_SIGNS : ∀ H, SqT K H A.a_SIGNS [(.str "+"), (.str "-")]
  n_ValueError : mg "ValueError" = none
  n_abs : mg "abs" = none
  n_all : mg "all" = none
  n_int : mg "int" = none
  n_isinstance : mg "isinstance" = none
  n_len : mg "len" = none
  n_range : mg "range" = none
  n_set : mg "set" = none
  n_str : mg "str" = none
  i_NoneType_int : PySem.W.kitOne K (.type "NoneType") (.type "int") = some false
  i_bool_int : PySem.W.kitOne K (.type "bool") (.type "int") = some true
  i_int_int : PySem.W.kitOne K (.type "int") (.type "int") = some true
  i_str_int : PySem.W.kitOne K (.type "str") (.type "int") = some false
  i_list_int : PySem.W.kitOne K (.type "list") (.type "int") = some false
  i_tuple_int : PySem.W.kitOne K (.type "tuple") (.type "int") = some false
  i_dict_int : PySem.W.kitOne K (.type "dict") (.type "int") = some false
  i_NoneType_bool : PySem.W.kitOne K (.type "NoneType") (.type "bool") = some false
  i_bool_bool : PySem.W.kitOne K (.type "bool") (.type "bool") = some true
  i_int_bool : PySem.W.kitOne K (.type "int") (.type "bool") = some false
  i_str_bool : PySem.W.kitOne K (.type "str") (.type "bool") = some false
  i_list_bool : PySem.W.kitOne K (.type "list") (.type "bool") = some false
  i_tuple_bool : PySem.W.kitOne K (.type "tuple") (.type "bool") = some false
  i_dict_bool : PySem.W.kitOne K (.type "dict") (.type "bool") = some false
  i_NoneType_str : PySem.W.kitOne K (.type "NoneType") (.type "str") = some false
  i_bool_str : PySem.W.kitOne K (.type "bool") (.type "str") = some false
  i_int_str : PySem.W.kitOne K (.type "int") (.type "str") = some false
  i_str_str : PySem.W.kitOne K (.type "str") (.type "str") = some true
  i_list_str : PySem.W.kitOne K (.type "list") (.type "str") = some false
  i_tuple_str : PySem.W.kitOne K (.type "tuple") (.type "str") = some false
  i_dict_str : PySem.W.kitOne K (.type "dict") (.type "str") = some false
  m_AskError : mg "AskError" = some (.ref A.c_AskError)
  v_AskError : GlobV mg "AskError" (.ref A.c_AskError)
  m_NoAnswer : mg "NoAnswer" = some (.ref A.c_NoAnswer)
  v_NoAnswer : GlobV mg "NoAnswer" (.ref A.c_NoAnswer)
  m_NoKind : mg "NoKind" = some (.ref A.c_NoKind)
  v_NoKind : GlobV mg "NoKind" (.ref A.c_NoKind)
  m_NoNumber : mg "NoNumber" = some (.ref A.c_NoNumber)
  v_NoNumber : GlobV mg "NoNumber" (.ref A.c_NoNumber)
  m_NoRow : mg "NoRow" = some (.ref A.c_NoRow)
  v_NoRow : GlobV mg "NoRow" (.ref A.c_NoRow)
  m_NoSaying : mg "NoSaying" = some (.ref A.c_NoSaying)
  v_NoSaying : GlobV mg "NoSaying" (.ref A.c_NoSaying)
  m_NoSum : mg "NoSum" = some (.ref A.c_NoSum)
  v_NoSum : GlobV mg "NoSum" (.ref A.c_NoSum)
  m_WrongKind : mg "WrongKind" = some (.ref A.c_WrongKind)
  v_WrongKind : GlobV mg "WrongKind" (.ref A.c_WrongKind)
  x_NoNumber : PySem.W.excIn K A.c_NoNumber mroVE "ValueError.__new__" = true
  ec_NoNumber : ExcCls K A.c_NoNumber
  x_NoSum : PySem.W.excIn K A.c_NoSum mroVE "ValueError.__new__" = true
  ec_NoSum : ExcCls K A.c_NoSum
  em_NoNumber_NoNumber : PySem.W.exmOne K (.ref A.c_NoNumber) (.ref A.c_NoNumber) = some true
  em_NoSum_AskError : PySem.W.exmOne K (.ref A.c_NoSum) (.ref A.c_AskError) = some true
  kr_NoSum_NoAnswer : PySem.W.kitOne K (.ref A.c_NoSum) (.ref A.c_NoAnswer) = some false
  kr_NoSum_NoKind : PySem.W.kitOne K (.ref A.c_NoSum) (.ref A.c_NoKind) = some false
  kr_NoSum_NoNumber : PySem.W.kitOne K (.ref A.c_NoSum) (.ref A.c_NoNumber) = some false
  kr_NoSum_NoRow : PySem.W.kitOne K (.ref A.c_NoSum) (.ref A.c_NoRow) = some false
  kr_NoSum_NoSaying : PySem.W.kitOne K (.ref A.c_NoSum) (.ref A.c_NoSaying) = some false
  kr_NoSum_WrongKind : PySem.W.kitOne K (.ref A.c_NoSum) (.ref A.c_WrongKind) = some false
  kr_NoSum_NoSum : PySem.W.kitOne K (.ref A.c_NoSum) (.ref A.c_NoSum) = some true
  krt_NoSum_ValueError : PySem.W.kitOne K (.ref A.c_NoSum) (.type "ValueError") = some true
theorem sc_is_name : FnScope ["thing"] ["thing"] (defScope s_is_name) := ⟨rfl, rfl, rfl, by decide +kernel, rfl, by decide +kernel, by decide +kernel⟩
theorem sc_are_unlike_names : FnScope ["words"] ["words"] (defScope s_are_unlike_names) := ⟨rfl, rfl, rfl, by decide +kernel, rfl, by decide +kernel, by decide +kernel⟩
theorem sc_are_figures : FnScope ["text"] ["text"] (defScope s_are_figures) := ⟨rfl, rfl, rfl, by decide +kernel, rfl, by decide +kernel, by decide +kernel⟩
theorem sc_figures_worth : FnScope ["figures", "worth", "sign"] ["figures"] (defScope s_figures_worth) := ⟨rfl, rfl, rfl, by decide +kernel, rfl, by decide +kernel, by decide +kernel⟩
theorem sc_number_of : FnScope ["text", "most", "below", "figures", "worth"] ["text", "most"] (defScope s_number_of) := ⟨rfl, rfl, rfl, by decide +kernel, rfl, by decide +kernel, by decide +kernel⟩
theorem sc_number_or_none : FnScope ["text"] ["text"] (defScope s_number_or_none) := ⟨rfl, rfl, rfl, by decide +kernel, rfl, by decide +kernel, by decide +kernel⟩
theorem sc_parted_at_signs : FnScope ["words", "groups", "word"] ["words"] (defScope s_parted_at_signs) := ⟨rfl, rfl, rfl, by decide +kernel, rfl, by decide +kernel, by decide +kernel⟩
theorem sc_least_number : FnScope ["sign", "name"] ["sign", "name"] (defScope s_least_number) := ⟨rfl, rfl, rfl, by decide +kernel, rfl, by decide +kernel, by decide +kernel⟩
theorem sc_part_or_none : FnScope ["sign", "words", "name", "numbers", "one", "number"] ["sign", "words"] (defScope s_part_or_none) := ⟨rfl, rfl, rfl, by decide +kernel, rfl, by decide +kernel, by decide +kernel⟩
theorem sc_are_parts : FnScope ["parts"] ["parts"] (defScope s_are_parts) := ⟨rfl, rfl, rfl, by decide +kernel, rfl, by decide +kernel, by decide +kernel⟩
theorem sc_read_sum : FnScope ["text", "words", "signed", "parts"] ["text"] (defScope s_read_sum) := ⟨rfl, rfl, rfl, by decide +kernel, rfl, by decide +kernel, by decide +kernel⟩
theorem sc_law_cell_at : FnScope ["_law_script", "_law_k"] ["_law_script", "_law_k"] (defScope s_law_cell_at) := ⟨rfl, rfl, rfl, by decide +kernel, rfl, by decide +kernel, by decide +kernel⟩
theorem sc_law_names : FnScope ["_law_script", "_law_letters", "_law_cell", "_law_way", "_law_size", "_law_base", "_law_at", "_law_names_here", "_law_k", "_law_name"] ["_law_script"] (defScope s_law_names) := ⟨rfl, rfl, rfl, by decide +kernel, rfl, by decide +kernel, by decide +kernel⟩
theorem sc_law_number : FnScope ["_law_cell"] ["_law_cell"] (defScope s_law_number) := ⟨rfl, rfl, rfl, by decide +kernel, rfl, by decide +kernel, by decide +kernel⟩
theorem sc_law_part : FnScope ["_law_cell", "_law_names_here", "_law_used", "_law_name", "_law_times"] ["_law_cell", "_law_names_here", "_law_used"] (defScope s_law_part) := ⟨rfl, rfl, rfl, by decide +kernel, rfl, by decide +kernel, by decide +kernel⟩
theorem sc_law_parts_by : FnScope ["_law_cells", "_law_names_here", "_law_parts", "_law_one"] ["_law_cells", "_law_names_here"] (defScope s_law_parts_by) := ⟨rfl, rfl, rfl, by decide +kernel, rfl, by decide +kernel, by decide +kernel⟩
theorem sc_law_body : FnScope ["_law_times", "_law_name"] ["_law_times", "_law_name"] (defScope s_law_body) := ⟨rfl, rfl, rfl, by decide +kernel, rfl, by decide +kernel, by decide +kernel⟩
theorem sc_law_text : FnScope ["_law_parts", "_law_made", "_law_k"] ["_law_parts"] (defScope s_law_text) := ⟨rfl, rfl, rfl, by decide +kernel, rfl, by decide +kernel, by decide +kernel⟩
theorem sc_law_bad : FnScope ["_law_cell", "_law_name", "_law_some"] ["_law_cell", "_law_name"] (defScope s_law_bad) := ⟨rfl, rfl, rfl, by decide +kernel, rfl, by decide +kernel, by decide +kernel⟩
theorem sc_law_refused : FnScope ["_law_words", "_law_kept", "e"] ["_law_words"] (defScope s_law_refused) := ⟨rfl, rfl, rfl, by decide +kernel, rfl, by decide +kernel, by decide +kernel⟩
theorem sc_law_spoiled : FnScope ["_law_parts", "_law_at", "_law_bad_here", "_law_minus", "_law_made", "_law_times", "_law_name"] ["_law_parts", "_law_at", "_law_bad_here", "_law_minus"] (defScope s_law_spoiled) := ⟨rfl, rfl, rfl, by decide +kernel, rfl, by decide +kernel, by decide +kernel⟩
theorem sc_law : FnScope ["_law_script", "_law_names_here", "_law_name", "_law_good", "_law_at", "_law_minus", "_law_bad_here", "_law_words", "_law_times", "_law_other", "_law_thing"] ["_law_script"] (defScope s_law) := ⟨rfl, rfl, rfl, by decide +kernel, rfl, by decide +kernel, by decide +kernel⟩
end K12
set_option maxHeartbeats 1000000
namespace K12
open PySem L2
seal PE PT PW PA PS PSs PG PGs PI PO PSet OpR UnR CallR TruR IxR SlR PC PPs
local macro_rules | `(tactic| walk_at "rd1") => `(tactic| first
  | (refine And.intro rfl ?_)
  | (refine And.intro (by assumption) ?_)
  | (refine And.intro (fun _ e => e) ?_)
  | (refine And.intro (TyOf.str _) ?_) | (refine And.intro (TyOf.int _) ?_) | (refine And.intro (TyOf.bl _) ?_) | (refine And.intro TyOf.non ?_)
  | (refine iteT ?_) | (refine iteF ?_)
  | (apply Exists.intro))
local macro_rules | `(tactic| walk_at "rd") => `(tactic| repeat (walk_at "rd1"))

def spFig : Sp := fun vs H Q _ => ∃ z, vs = [.str z] ∧ z.length ≤ sizeLine ∧ ∀ H', Same H H' → Q (.bl (figB (cd z))) H'
def spWorth : Sp := fun vs H Q _ => ∃ z, vs = [.str z] ∧ z.length ≤ 1000 ∧ (cd z).all inF = true ∧ Q (.int (val (cd z))) H
def spNum (K : PySem.W.Frag) (A : Adr) : Sp := fun vs H Q E => ∃ x most, vs = [x, .int most] ∧ 1 ≤ most ∧ ((∃ z, x = .str z ∧ Fine 1000 z ∧ (∀ n H', Same H H' → numB (cd z) most = some n → Q (.int n) H') ∧ (∀ H', Same H H' → numB (cd z) most = none → E (.ref A.c_NoNumber) none H')) ∨ (∃ t, TyE K H x t ∧ PySem.W.kitOne K t (.type "str") = some false ∧ ∀ H', Same H H' → E (.ref A.c_NoNumber) none H'))
section
variable {P : Program} {w : World} {K : PySem.W.Frag} {mg : Str → Option Value} {base : Heap} {A : Adr}
theorem ok_are_figures (T : Txt K mg A) : FnOk P w K mg base CX0 1 A.f_are_figures A.d_are_figures ["text"] spFig := by
  refine T.F_are_figures.ok sc_are_figures (fun vs H Q E h => ?_) (fun cdv A0 outer s H vs Q E hr h => ?_)
  · obtain ⟨x, rfl, _⟩ := h
    rfl
  obtain ⟨z, rfl, hz, q⟩ := h
  refine ⟨_, (pss_one (ps_ret (pe_and (pe_cmpR op_gt (pe_callB call_len_str (by rfl) T.n_len PySem.boot_len (pa_cons (pv 0) pa_nil)) pe_int (nomark _)) (pe_one (pe_callB (call_all rfl) (by rfl) T.n_all Bt.all (pa_cons (pe_compR (compOk_of (x := "sign") (M := ["text"]) rfl (by rfl)) rfl (pi_str (pv 0)) (fun _ _ _ _ => (pe_cmpR op_in_str (pv 0) (pe_gv rfl T.g_FIGURES) (by rfl)))) pa_nil)))))), ?_⟩
  walk_at "rd"
  refine ite2 (fun c => ?_) (fun c => ?_)
  · walk_at "rd"
    refine comp_strR hz (fun i ys H' => H' = H ∧ ys = ((cd z).take i).map fun c => V.bl (inF c)) ⟨rfl, rfl⟩ (fun i c ys H' hc hl hw => ?_) (fun ys H' hl hw p hp => ?_)
    · obtain ⟨rfl, rfl⟩ := hw
      walk_at "rd"
      rw [List.take_succ, hc]
      simp [inF, FIG]
    · obtain ⟨rfl, rfl⟩ := hw
      have e : (cd z).take z.length = cd z := List.take_of_length_le (by rw [len_cd]; exact Nat.le_refl _)
      rw [e]
      refine ⟨p, (cd z).map inF, rfl, SqL.of (by rw [upd_same, List.map_map]; rfl), ?_⟩
      have e2 : figB (cd z) = ((cd z).map inF).all id := by
        unfold figB
        have c' : (0 : Int) < z.length := of_decide_eq_true c
        rw [decide_eq_true (by rw [← len_cd]; omega), List.all_map]
        rfl
      rw [e2] at q
      exact q _ (same_new hp _)
  · have e : figB (cd z) = false := by
      unfold figB
      have c' : ¬ (0 : Int) < z.length := of_decide_eq_false (Bool.eq_false_iff.mpr c)
      rw [decide_eq_false (by rw [← len_cd]; omega)]
      rfl
    rw [e] at q
    exact q _ (Same.refl _)
theorem ok_figures_worth (T : Txt K mg A) : FnOk P w K mg base CX0 1 A.f_figures_worth A.d_figures_worth ["figures"] spWorth := by
  refine T.F_figures_worth.ok sc_figures_worth (fun vs H Q E h => ?_) (fun cdv A0 outer s H vs Q E hr h => ?_)
  · obtain ⟨x, rfl, _⟩ := h
    rfl
  obtain ⟨z, rfl, hz, hF, q⟩ := h
  refine ⟨_, (pss_cons (ps_set (i := 1) sc_figures_worth.nd rfl (by first | exact Or.inl rfl | exact Or.inr rfl) pe_int)
      (pss_cons (ps_forR PassesOwn.never rfl (pi_str (pv 0)) (pg_name (i := 2) sc_figures_worth.nd rfl (by first | exact Or.inl rfl | exact Or.inr rfl)) (pss_one (ps_set (i := 1) sc_figures_worth.nd rfl (by first | exact Or.inl rfl | exact Or.inr rfl) (pe_op op_add (pe_op op_mulB (pv 1) pe_int) (pe_bm PySem.F.plainAttrs_str PySem.F.slot_str_find PySem.F.type_str_find mt_find (pe_gv rfl T.g_FIGURES) (pa_cons (pv 2) pa_nil))))))
      (pss_one (ps_ret (pv 1))))), ?_⟩
  walk_at "rd"
  refine for_strR (fun i σ H' => H' = H ∧ ∃ v, σ = [some (.str z), some (.int (val ((cd z).take i))), v]) ⟨rfl, ⟨_, rfl⟩⟩ (fun i c σ H' hc hp => ?_) (fun σ H' hp => ?_)
  · obtain ⟨rfl, v, rfl⟩ := hp
    have hi : i < (cd z).length := (List.getElem?_eq_some_iff.mp hc).1
    have hcF : inF c = true := List.all_eq_true.mp hF c (List.mem_of_getElem? hc)
    have hb := val_bound i ((cd z).take i) (by rw [List.length_take]; omega) (by
      rw [List.all_eq_true]; intro x hx; exact List.all_eq_true.mp hF x (List.mem_of_mem_take hx))
    have hb2 := pow10_ib hb.1 hb.2
    rw [← len_cd] at hi
    refine ⟨_, rfl, _, _, rfl, rfl, ⟨by show ib _ ≤ 60000000; omega, by decide⟩, ?_⟩
    walk_at "rd"
    have e : Txt.find FIG (S [c]) = ((c - 48 : Nat) : Int) := findF hcF
    show some _ :: some (V.int (val ((cd z).take i) * 10 + Txt.find FIG (S [c]))) :: _ = _
    rw [e, val_take hc]
    rfl
  · obtain ⟨rfl, v, rfl⟩ := hp
    have e : (cd z).take z.length = cd z := List.take_of_length_le (by rw [len_cd]; exact Nat.le_refl _)
    rw [e]
    exact ⟨_, rfl, q⟩
theorem ok_number_of (T : Txt K mg A) : FnOk P w K mg base (CXW P w) 2 A.f_number_of A.d_number_of ["text", "most"] (spNum K A) := by
  have G_are_figures := ok_are_figures (P := P) (w := w) (base := base) T
  have G_figures_worth := ok_figures_worth (P := P) (w := w) (base := base) T
  refine T.F_number_of.okX sc_number_of (fun vs H Q E h => ?_) (fun cdv A0 outer s H vs Q E hr h => ?_)
  · obtain ⟨x, most, rfl, _⟩ := h
    rfl
  obtain ⟨x, most, rfl, hm, h⟩ := h
  refine ⟨_, (pss_cons (ps_if (pt_not (pt_val (pe_callB call_isi (by rfl) T.n_isinstance Bt.isinstance (pa_cons (pv 0) (pa_cons (pe_bltn (v := .ty "str") rfl T.n_str Bt.str rfl) pa_nil))))) (pss_one (ps_raise T.m_NoNumber T.x_NoNumber (pa_cons pe_str pa_nil) rfl)) pss_nil)
      (pss_cons (ps_if (pt_cmpR op_eq (pv 0) pe_str (nomark _)) (pss_one (ps_ret pe_int)) pss_nil)
      (pss_cons (ps_set (i := 2) sc_number_of.nd rfl (by first | exact Or.inl rfl | exact Or.inr rfl) (pe_bm PySem.F.plainAttrs_str PySem.F.slot_str_startswith PySem.F.type_str_startswith mt_startswith (pv 0) (pa_cons pe_str pa_nil)))
      (pss_cons (ps_set (i := 3) sc_number_of.nd rfl (by first | exact Or.inl rfl | exact Or.inr rfl) (pe_ifExp (pt_val (pv 2)) (pe_slice sl_str (pv 0) (po_some pe_int) po_none) (pv 0)))
      (pss_cons (ps_if (PW.pt (pw_or (pt_not (pt_val (pe_call G_are_figures (hr.mono (by decide)) rfl T.m_are_figures T.k_are_figures T.b_are_figures .nil pass0 (pa_cons (pv 3) pa_nil)))) (pw_or (pt_cmpR op_eq (pe_ix ix_str (pv 3) pe_int (fun _ _ => rfl)) pe_str (nomark _)) (pw_or1 (pt_cmpR op_gt (pe_callB call_len_str (by rfl) T.n_len PySem.boot_len (pa_cons (pv 3) pa_nil)) (pv 1) (nomark _)))))) (pss_one (ps_raise T.m_NoNumber T.x_NoNumber (pa_cons (pe_fstrR (pv 0)) pa_nil) rfl)) pss_nil)
      (pss_cons (ps_set (i := 4) sc_number_of.nd rfl (by first | exact Or.inl rfl | exact Or.inr rfl) (pe_call G_figures_worth (hr.mono (by decide)) rfl T.m_figures_worth T.k_figures_worth T.b_figures_worth .nil pass0 (pa_cons (pv 3) pa_nil)))
      (pss_one (ps_ret (pe_ifExp (pt_val (pv 2)) (pe_un un_neg (pv 4)) (pv 4)))))))))), ?_⟩
  rcases h with ⟨z, rfl, hz, qs, qn⟩ | ⟨t, ty, kt, q⟩
  · refine ⟨_, rfl, _, _, _, _, rfl, rfl, .old (.str z), T.i_str_str, _, rfl, iteF ?_⟩
    refine ⟨_, rfl, rfl, _, rfl, ?_⟩
    refine ite2 (fun c => ?_) (fun c => ?_) <;> rw [dec_cd, show cd (Str.ofString "0") = [48] by decide +kernel] at c
    · have c' : cd z = [48] := of_decide_eq_true c
      refine qs _ _ (Same.refl _) ?_
      rw [c']; exact numB_zero hm
    have c0 : cd z ≠ [48] := of_decide_eq_false (Bool.eq_false_iff.mpr c)
    have es := starts1 z 45
    rw [show S [45] = (Str.ofString "-") by decide +kernel] at es
    have hz2 : z.length ≤ sizeLine := hz.size
    cases hb : PySem.Txt.startswith z (Str.ofString "-") <;> rw [hb] at es
    · have c1 : ¬ (cd z).take 1 = [45] := of_decide_eq_false es.symm
      obtain ⟨f, rfl⟩ : ∃ f, z = f := ⟨z, rfl⟩
      have ef : cd z = fig (cd z) := (if_neg c1).symm
      have hf1 : z.length ≤ 1000 := hz.len
      have hf2 := hz2
      walk_at "rd"
      rw [hb]
      walk_at "rd" 
      intro H1 s1
      cases hf : figB (cd z)
      · refine ⟨_, rfl, iteT ⟨_, rfl, z, rfl, Nat.le_trans hz.len (by decide), hz.cod, fun y => ⟨(by show 1 ≤ sizeLine; decide), qn _ s1 (numB_no1 (by rw [← ef]; exact hf))⟩⟩⟩
      refine ⟨_, rfl, iteF ?_⟩
      obtain ⟨f1, f2⟩ := (figB_iff _).mp hf
      obtain ⟨k, hk, hk1⟩ := take1_at (l := cd z) f1
      refine ⟨_, rfl, z, 0, k, rfl, rfl, hf2, hk, rfl, _, rfl, ?_⟩
      refine ite2 (fun c2 => ?_) (fun c2 => ?_) <;> rw [dec_cd, show cd (Str.ofString "0") = [48] by decide +kernel] at c2
      · have c3 : (fig (cd z)).take 1 = [48] := by rw [← ef, hk1]; exact of_decide_eq_true c2
        exact ⟨_, rfl, z, rfl, Nat.le_trans hz.len (by decide), hz.cod, fun y => ⟨(by show 1 ≤ sizeLine; decide), qn _ s1 (numB_no2 c3 c0)⟩⟩
      have c3 : ¬ (fig (cd z)).take 1 = [48] := by rw [← ef, hk1]; exact of_decide_eq_false (Bool.eq_false_iff.mpr c2)
      refine ⟨_, rfl, _, rfl, hf2, _, rfl, _, _, rfl, rfl, _, rfl, ?_⟩
      rw [len_cd z, ef]
      refine ite2 (fun c4 => ?_) (fun c4 => ?_)
      · have c5 : most < ((fig (cd z)).length : Nat) := of_decide_eq_true c4
        exact ⟨_, rfl, z, rfl, Nat.le_trans hz.len (by decide), hz.cod, fun y => ⟨(by show 1 ≤ sizeLine; decide), qn _ s1 (numB_no3 c5)⟩⟩
      have c5 : ¬ most < ((fig (cd z)).length : Nat) := of_decide_eq_false (Bool.eq_false_iff.mpr c4)
      have yes := numB_yes (by rw [← ef]; exact hf) c3 c5
      rw [if_neg c1, ← ef] at yes
      refine ⟨_, rfl, z, rfl, hf1, f2, ?_⟩
      walk_at "rd"
      exact qs _ _ s1 yes
    · have c1 : (cd z).take 1 = [45] := of_decide_eq_true es.symm
      walk_at "rd"
      rw [hb]
      walk_at "rd"
      obtain ⟨f, hfe⟩ : ∃ f, S (cutN (cd z) (some 1) none) = f := ⟨_, rfl⟩
      rw [hfe]
      have ef : cd f = fig (cd z) := by rw [← hfe, cd_S]; exact (cutFrom (cd z) 1).trans (if_pos c1).symm
      have hf1 : f.length ≤ 1000 := by rw [← hfe]; exact (hz.cut _ _).len
      have hf2 : f.length ≤ sizeLine := by rw [← hfe]; exact (hz.cut _ _).size
      refine ⟨hf2, ?_⟩
      intro H1 s1
      cases hf : figB (cd f)
      · refine ⟨_, rfl, iteT ⟨_, rfl, z, rfl, Nat.le_trans hz.len (by decide), hz.cod, fun y => ⟨(by show 1 ≤ sizeLine; decide), qn _ s1 (numB_no1 (by rw [← ef]; exact hf))⟩⟩⟩
      refine ⟨_, rfl, iteF ?_⟩
      obtain ⟨f1, f2⟩ := (figB_iff _).mp hf
      obtain ⟨k, hk, hk1⟩ := take1_at (l := cd f) f1
      refine ⟨_, rfl, f, 0, k, rfl, rfl, hf2, hk, rfl, _, rfl, ?_⟩
      refine ite2 (fun c2 => ?_) (fun c2 => ?_) <;> rw [dec_cd, show cd (Str.ofString "0") = [48] by decide +kernel] at c2
      · have c3 : (fig (cd z)).take 1 = [48] := by rw [← ef, hk1]; exact of_decide_eq_true c2
        exact ⟨_, rfl, z, rfl, Nat.le_trans hz.len (by decide), hz.cod, fun y => ⟨(by show 1 ≤ sizeLine; decide), qn _ s1 (numB_no2 c3 c0)⟩⟩
      have c3 : ¬ (fig (cd z)).take 1 = [48] := by rw [← ef, hk1]; exact of_decide_eq_false (Bool.eq_false_iff.mpr c2)
      refine ⟨_, rfl, _, rfl, hf2, _, rfl, _, _, rfl, rfl, _, rfl, ?_⟩
      rw [len_cd f, ef]
      refine ite2 (fun c4 => ?_) (fun c4 => ?_)
      · have c5 : most < ((fig (cd z)).length : Nat) := of_decide_eq_true c4
        exact ⟨_, rfl, z, rfl, Nat.le_trans hz.len (by decide), hz.cod, fun y => ⟨(by show 1 ≤ sizeLine; decide), qn _ s1 (numB_no3 c5)⟩⟩
      have c5 : ¬ most < ((fig (cd z)).length : Nat) := of_decide_eq_false (Bool.eq_false_iff.mpr c4)
      have yes := numB_yes (by rw [← ef]; exact hf) c3 c5
      rw [if_pos c1, ← ef] at yes
      refine ⟨_, rfl, f, rfl, hf1, f2, ?_⟩
      walk_at "rd"
      exact qs _ _ s1 yes
  · refine ⟨_, rfl, _, _, _, _, rfl, rfl, ty, kt, _, rfl, iteT ?_⟩
    refine ⟨(by show 1 ≤ sizeLine; decide), q _ (Same.refl _)⟩
end
end K12
set_option maxHeartbeats 1000000
namespace K12
open PySem L2
seal PE PT PW PA PS PSs PG PGs PI PO PSet OpR UnR CallR TruR IxR SlR PC PPs
local macro_rules | `(tactic| walk_at "rd1") => `(tactic| first
  | (refine And.intro rfl ?_)
  | (refine And.intro (by assumption) ?_)
  | (refine And.intro (fun _ e => e) ?_)
  | (refine And.intro (TyOf.str _) ?_) | (refine And.intro (TyOf.int _) ?_) | (refine And.intro (TyOf.bl _) ?_) | (refine And.intro TyOf.non ?_)
  | (refine iteT ?_) | (refine iteF ?_)
  | (apply Exists.intro))
local macro_rules | `(tactic| walk_at "rd") => `(tactic| repeat (walk_at "rd1"))

def spNon : Sp := fun vs H Q _ => ∃ z, vs = [.str z] ∧ Fine 1000 z ∧ ∀ H', Same H H' → Q (numV (numB (cd z) 60)) H'
section
variable {P : Program} {w : World} {K : PySem.W.Frag} {mg : Str → Option Value} {base : Heap} {A : Adr}
theorem ok_number_or_none (T : Txt K mg A) : FnOk P w K mg base CX0 3 A.f_number_or_none A.d_number_or_none ["text"] spNon := by
  have G_number_of := ok_number_of (P := P) (w := w) (base := base) T
  refine T.F_number_or_none.ok sc_number_or_none (fun vs H Q E h => ?_) (fun cdv A0 outer s H vs Q E hr h => ?_)
  · obtain ⟨x, rfl, _⟩ := h
    rfl
  obtain ⟨z, rfl, hz, q⟩ := h
  refine ⟨_, (pss_one (ps_try rfl rfl (psx_one (psx_ret (pex_call G_number_of (hr.mono (by decide)) rfl T.m_number_of T.k_number_of T.bd_number_of T.dv_number_of (pa_cons (pv 0) pa_nil)))) rfl T.m_NoNumber (fun _ => (pss_one (ps_ret pe_non))))), ?_⟩
  refine ⟨_, rfl, _, _, rfl, by decide, .inl ⟨z, rfl, hz, fun n H' s1 e => ?_, fun H' s1 e => ?_⟩⟩
  · rw [e] at q; exact q _ s1
  · refine ⟨T.em_NoNumber_NoNumber, ?_⟩
    rw [e] at q; exact q _ s1
end
end K12
namespace K12
open PySem L2
seal PE PT PW PA PS PSs PG PGs PI PO PSet OpR UnR CallR TruR IxR SlR PC PPs
local macro_rules | `(tactic| walk_at "rd1") => `(tactic| first
  | (refine And.intro rfl ?_)
  | (refine And.intro (by assumption) ?_)
  | (refine And.intro (fun _ e => e) ?_)
  | (refine And.intro (TyOf.str _) ?_) | (refine And.intro (TyOf.int _) ?_) | (refine And.intro (TyOf.bl _) ?_) | (refine And.intro TyOf.non ?_)
  | (refine iteT ?_) | (refine iteF ?_)
  | (apply Exists.intro))
local macro_rules | `(tactic| walk_at "rd") => `(tactic| repeat (walk_at "rd1"))

def thStr {K : PySem.W.Frag} {mg : Str → Option Value} {A : Adr} (T : Txt K mg A) (H : Hp) (z : Str) : Thing K H (.str z) := ⟨_, _, _, _, .old (.str z), T.i_str_int, T.i_str_bool, T.i_str_str, fun h => (by cases h), fun _ => ⟨z, rfl⟩, fun _ h => (by cases h), fun _ _ => rfl, fun h => (by cases h), fun _ h => (by cases h)⟩
def kws : List V := [.str "and", .str "each", .str "end", .str "is", .str "not", .str "or", .str "unless", .str "when"]
def inL (c : Nat) : Bool := !(Builtin.Str.occurrences "abcdefghijklmnopqrstuvwxyz" (S [c]) 0 ("abcdefghijklmnopqrstuvwxyz" : Str).length 1).isEmpty
def nameB (z : Str) : Bool := !(inV (.str z) kws) && decide ((1 : Int) ≤ z.length) && decide ((z.length : Int) ≤ 12) && (cd z).all inL
def nameV : V → Bool
  | .str z => nameB z
  | _ => false
/-- what is told of a thing, and its size if it is a text -/
def Ok (K : PySem.W.Frag) (H : Hp) (x : V) : Prop := (∃ _ : Thing K H x, True) ∧ ∀ z, x = .str z → Fine 1000 z
theorem Ok.same {K : PySem.W.Frag} {H H' : Hp} {x : V} (h : Ok K H x) (e : Same H H') : Ok K H' x := ⟨let ⟨⟨t, _⟩, _⟩ := h; ⟨t.same e, trivial⟩, h.2⟩
def strsOf (xs : List V) : List Str := xs.filterMap fun x => match x with | .str z => some z | _ => none
def unlikeB (xs : List V) : Bool := xs.all nameV && decide ((metT (strsOf xs)).length = xs.length)
theorem strs_of : ∀ {xs : List V}, xs.all nameV = true → xs = (strsOf xs).map V.str
  | [], _ => rfl
  | x :: r, h => by
    rw [List.all_cons, Bool.and_eq_true] at h
    cases x with
    | str z => show V.str z :: r = V.str z :: (strsOf r).map V.str; rw [← strs_of h.2]
    | _ => cases h.1
theorem strsOf_map (ws : List Str) : strsOf (ws.map V.str) = ws := by
  induction ws with
  | nil => rfl
  | cons a r ih => show a :: strsOf (r.map V.str) = _; rw [ih]
theorem unlike_strs (ws : List Str) : unlikeB (ws.map V.str) = (ws.all nameB && decide ws.Nodup) := by
  unfold unlikeB
  rw [strsOf_map, List.length_map, List.all_map]
  congr 1
  rw [Bool.eq_iff_iff, decide_eq_true_iff, decide_eq_true_iff]
  exact metT_nodup ws
def spIsName (K : PySem.W.Frag) : Sp := fun vs H Q _ => ∃ x, vs = [x] ∧ Ok K H x ∧ ∀ H', Same H H' → Q (.bl (nameV x)) H'
def spUnlike (K : PySem.W.Frag) : Sp := fun vs H Q _ => ∃ (p : Addr) (xs : List V), vs = [.ref p] ∧ SqL K H p xs ∧ xs.length ≤ 1000 ∧ (∀ x ∈ xs, Ok K H x) ∧ ∀ H', Same H H' → Q (.bl (unlikeB xs)) H'
section
variable {P : Program} {w : World} {K : PySem.W.Frag} {mg : Str → Option Value} {base : Heap} {A : Adr}
theorem ok_is_name (T : Txt K mg A) : FnOk P w K mg base CX0 1 A.f_is_name A.d_is_name ["thing"] (spIsName K) := by
  refine T.F_is_name.ok sc_is_name (fun vs H Q E h => ?_) (fun cdv A0 outer s H vs Q E hr h => ?_)
  · obtain ⟨x, rfl, _⟩ := h
    rfl
  obtain ⟨x, rfl, ⟨⟨th, _⟩, hx⟩, q⟩ := h
  refine ⟨_, (pss_cons (ps_if (PW.pt (pw_or (pt_not (pt_val (pe_callB call_isi (by rfl) T.n_isinstance Bt.isinstance (pa_cons (pv 0) (pa_cons (pe_bltn (v := .ty "str") rfl T.n_str Bt.str rfl) pa_nil))))) (pw_or1 (pt_cmpR op_in_seq (pv 0) (pe_gv rfl T.g_NO_NAMES) (by rfl))))) (pss_one (ps_ret pe_bl)) pss_nil)
      (pss_one (ps_ret (pe_and (pe_chain op_le op_le pe_int (pe_callB call_len_str (by rfl) T.n_len PySem.boot_len (pa_cons (pv 0) pa_nil)) (pe_gv rfl T.g_LONGEST_NAME)) (pe_one (pe_callB (call_all rfl) (by rfl) T.n_all Bt.all (pa_cons (pe_compR (compOk_of (x := "sign") (M := ["thing"]) rfl (by rfl)) rfl (pi_str (pv 0)) (fun _ _ _ _ => (pe_cmpR op_in_str (pv 0) (pe_gv rfl T.g_LETTERS) (by rfl)))) pa_nil))))))), ?_⟩
  refine ⟨_, rfl, _, _, _, _, rfl, rfl, th.ty, th.ks, _, rfl, ?_⟩
  cases hb : th.bs with
  | false =>
    refine iteT ?_
    have e : nameV x = false := by cases x <;> first | rfl | (rw [th.ns _ rfl] at hb; cases hb)
    rw [e] at q
    exact q _ (Same.refl _)
  | true =>
    obtain ⟨z, rfl⟩ := th.hs hb
    have hz := (hx z rfl).size
    have q : ∀ H', Same H H' → Q (.bl (nameB z)) H' := q
    have qN := T.q_NO_NAMES H
    refine iteF ⟨_, rfl, _, _, rfl, .inr qN, rfl, rfl, _, rfl, ?_⟩
    refine ite2 (fun c => ?_) (fun c => ?_)
    · have e : nameB z = false := by
        unfold nameB
        rw [show inV (.str z) kws = true from c]
        rfl
      rw [e] at q
      exact q _ (Same.refl _)
    have c0 : inV (.str z) kws = false := by
      cases e : inV (.str z) kws with
      | false => rfl
      | true => exact absurd e c
    walk_at "rd"
    refine ite2 (fun c1 => ?_) (fun c1 => ?_)
    · walk_at "rd"
      refine ite2 (fun c2 => ?_) (fun c2 => ?_)
      · walk_at "rd"
        refine comp_strR hz (fun i ys H' => H = H' ∧ ys = ((cd z).take i).map fun c => V.bl (inL c)) ⟨rfl, rfl⟩ (fun i c ys H' hc hl hw => ?_) (fun ys H' hl hw p hp => ?_)
        · obtain ⟨rfl, rfl⟩ := hw
          walk_at "rd"
          rw [List.take_succ, hc]
          simp [inL]
        · obtain ⟨rfl, rfl⟩ := hw
          have e : (cd z).take z.length = cd z := List.take_of_length_le (by rw [len_cd]; exact Nat.le_refl _)
          rw [e]
          refine ⟨p, (cd z).map inL, rfl, SqL.of (by rw [upd_same, List.map_map]; rfl), ?_⟩
          have e2 : nameB z = ((cd z).map inL).all id := by
            unfold nameB
            rw [c0, c1, c2, List.all_map]
            rfl
          rw [e2] at q
          exact q _ (same_new hp _)
      · have e : nameB z = false := by
          unfold nameB
          rw [show decide ((z.length : Int) ≤ 12) = false from Bool.eq_false_iff.mpr c2]
          simp
        rw [e] at q
        exact q _ (Same.refl _)
    · have e : nameB z = false := by
        unfold nameB
        rw [show decide ((1 : Int) ≤ z.length) = false from Bool.eq_false_iff.mpr c1]
        simp
      rw [e] at q
      refine ⟨_, rfl, iteF ?_⟩
      exact q _ (Same.refl _)
theorem ok_unlike (T : Txt K mg A) : FnOk P w K mg base CX0 2 A.f_are_unlike_names A.d_are_unlike_names ["words"] (spUnlike K) := by
  have G_is_name := ok_is_name (P := P) (w := w) (base := base) T
  refine T.F_are_unlike_names.ok sc_are_unlike_names (fun vs H Q E h => ?_) (fun cdv A0 outer s H vs Q E hr h => ?_)
  · obtain ⟨x, xs, rfl, _⟩ := h
    rfl
  obtain ⟨p, xs, rfl, hq, hl, hx, q⟩ := h
  refine ⟨_, (pss_one (ps_ret (pe_and (pe_callB (call_all rfl) (by rfl) T.n_all Bt.all (pa_cons (pe_compR (compOk_of (x := "word") (M := ["words"]) rfl (by rfl)) rfl (pi_list (pv 0)) (fun _ _ _ _ => (pe_call G_is_name (hr.mono (by decide)) rfl T.m_is_name T.k_is_name T.b_is_name .nil pass0 (pa_cons (pv 0) pa_nil)))) pa_nil)) (pe_one (pe_cmpR op_eq (pe_callB call_len_setT (by rfl) T.n_len PySem.boot_len (pa_cons (pe_callTy (call_set_lst rfl) (by rfl) T.n_set Bt.set (pa_cons (pv 0) pa_nil)) pa_nil)) (pe_callB call_len_seq (by rfl) T.n_len PySem.boot_len (pa_cons (pv 0) pa_nil)) (nomark _)))))), ?_⟩
  refine ⟨_, rfl, p, rfl, ⟨_, hq⟩, ?_⟩
  refine comp_listR (xs := xs) (small_of (m := 1000) hl) (fun i ys H' => Same H H' ∧ ys = (xs.take i).map fun x => V.bl (nameV x)) ⟨Same.refl _, rfl⟩ (fun i ys H' hw => hw.1.seq hq) (fun i x ys H' hi hl' hw => ?_) (fun ys H' hl' hw p2 hp2 => ?_)
  · obtain ⟨sH, rfl⟩ := hw
    refine ⟨_, rfl, _, rfl, (hx x (List.mem_of_getElem? hi)).same sH, fun H2 s2 => ⟨sH.trans s2, ?_⟩⟩
    rw [List.take_succ, hi, List.map_append]; rfl
  obtain ⟨sH, rfl⟩ := hw
  rw [List.take_length]
  have sB := sH.trans (same_new hp2 (.lst (xs.map fun x => V.bl (nameV x))))
  refine ⟨p2, xs.map nameV, rfl, SqL.of (by rw [upd_same, List.map_map]; rfl), _, rfl, ?_⟩
  rw [List.all_map]
  cases ha : xs.all nameV with
  | false =>
    refine iteN (show xs.all (id ∘ nameV) = false from ha) ?_
    have e : unlikeB xs = false := by unfold unlikeB; rw [ha]; rfl
    rw [e] at q
    exact q _ sB
  | true =>
    refine iteY (show xs.all (id ∘ nameV) = true from ha) ?_
    have exs := strs_of ha
    have hlw : (strsOf xs).length = xs.length := by have := congrArg List.length exs; rw [List.length_map] at this; exact this.symm
    refine ⟨_, rfl, p, strsOf xs, rfl, (by rw [← exs]; exact sB.seq hq), by omega, fun p3 hp3 => ?_⟩
    refine ⟨p3, _, _, rfl, upd_same, ?_⟩
    have sC := sB.trans (same_new hp3 (SetT P w p3 (fun k => decide (k ∈ metT (strsOf xs))) (metT (strsOf xs)).length))
    refine ⟨_, rfl, p, xs, rfl, .inl (sC.seq hq), rfl, ?_⟩
    have e : unlikeB xs = decide (V.int ((metT (strsOf xs)).length : Nat) = V.int (xs.length : Nat)) := by
      unfold unlikeB
      rw [ha, Bool.true_and, Bool.eq_iff_iff, decide_eq_true_iff, decide_eq_true_iff]
      constructor
      · intro z; rw [z]
      · intro z; have : ((metT (strsOf xs)).length : Int) = xs.length := V.int.inj z; omega
    have q := q _ sC
    rw [e] at q
    exact q
end
end K12
set_option maxHeartbeats 1000000
namespace K12
open PySem L2
seal PE PT PW PA PS PSs PG PGs PI PO PSet OpR UnR CallR TruR IxR SlR PC PPs
local macro_rules | `(tactic| walk_at "rd1") => `(tactic| first
  | (refine And.intro rfl ?_)
  | (refine And.intro (by assumption) ?_)
  | (refine And.intro (fun _ e => e) ?_)
  | (refine And.intro (TyOf.str _) ?_) | (refine And.intro (TyOf.int _) ?_) | (refine And.intro (TyOf.bl _) ?_) | (refine And.intro TyOf.non ?_)
  | (refine iteT ?_) | (refine iteF ?_)
  | (apply Exists.intro))
local macro_rules | `(tactic| walk_at "rd") => `(tactic| repeat (walk_at "rd1"))

/-! parts of sums -/
abbrev Part := Int × Option Str
def nv : Option Str → V
  | none => .non
  | some z => .str z
def PR (K : PySem.W.Frag) (H : Hp) (x : V) (p : Part) : Prop := ∃ a, x = .ref a ∧ SqT K H a [.int p.1, nv p.2]
abbrev PsR (K : PySem.W.Frag) (H : Hp) : List V → List Part → Prop := Paired (PR K H)
theorem PR.same {K : PySem.W.Frag} {H H' : Hp} {x : V} {p : Part} (e : Same H H') (h : PR K H x p) : PR K H' x p := let ⟨a, h1, h2⟩ := h; ⟨a, h1, e.seqT h2⟩
theorem PsR.same {K : PySem.W.Frag} {H H' : Hp} {xs : List V} {ps : List Part} (e : Same H H') (h : PsR K H xs ps) : PsR K H' xs ps := by
  induction h with
  | nil => exact .nil
  | cons a _ ih => exact .cons (a.same e) ih
theorem PsR.at {K : PySem.W.Frag} {H : Hp} {xs : List V} {ps : List Part} (h : PsR K H xs ps) : ∀ {i : Nat} {x : V}, xs[i]? = some x → ∃ p, ps[i]? = some p ∧ PR K H x p := by
  induction h with
  | nil => intro i x e; simp at e
  | cons a _ ih =>
    intro i x e
    cases i with
    | zero => cases e; exact ⟨_, rfl, a⟩
    | succ j => exact ih e
theorem PsR.len {K : PySem.W.Frag} {H : Hp} {xs : List V} {ps : List Part} (h : PsR K H xs ps) : xs.length = ps.length := by
  induction h with
  | nil => rfl
  | cons _ _ ih => rw [List.length_cons, List.length_cons, ih]
/-- a part that can be written -/
def PGood (p : Part) : Prop := p.1.natAbs < 10 ^ 60 ∧ ∀ z, p.2 = some z → nameB z = true ∧ p.1 ≠ 0
def partS : Part → List Nat
  | (t, none) => dig t.natAbs
  | (t, some z) => if t.natAbs = 1 then cd z else dig t.natAbs ++ [32] ++ cd z
/-- sign words and parts -/
def elems : Nat → List Part → List (List Nat)
  | _, [] => []
  | k, p :: r => (if p.1 < 0 then [[45]] else if 0 < k then [[43]] else []) ++ [partS p] ++ elems (k + 1) r
theorem inL_iff {c : Nat} (h : inL c = true) : 97 ≤ c ∧ c ≤ 122 := by
  have e0 : inL c = decide (c ∈ ("abcdefghijklmnopqrstuvwxyz" : Str).cps.toList) := StrLaws.found_one "abcdefghijklmnopqrstuvwxyz" c
  have e : ("abcdefghijklmnopqrstuvwxyz" : Str).cps.toList = (List.range 26).map (97 + ·) := by decide +kernel
  rw [e0, e, decide_eq_true_iff] at h
  obtain ⟨k, hk, rfl⟩ := List.mem_map.mp h
  have := List.mem_range.mp hk
  omega
theorem inL_of {c : Nat} (h : 97 ≤ c ∧ c ≤ 122) : inL c = true := by
  have e0 : inL c = decide (c ∈ ("abcdefghijklmnopqrstuvwxyz" : Str).cps.toList) := StrLaws.found_one "abcdefghijklmnopqrstuvwxyz" c
  have e : ("abcdefghijklmnopqrstuvwxyz" : Str).cps.toList = (List.range 26).map (97 + ·) := by decide +kernel
  rw [e0, e]
  refine decide_eq_true (List.mem_map.mpr ⟨c - 97, List.mem_range.mpr (by omega), by omega⟩)
theorem name_let {z : Str} (h : nameB z = true) : z.length ≤ 12 ∧ 1 ≤ z.length ∧ ∀ c ∈ cd z, 97 ≤ c ∧ c ≤ 122 := by
  unfold nameB at h
  simp only [Bool.and_eq_true, decide_eq_true_iff] at h
  obtain ⟨⟨⟨_, h1⟩, h2⟩, h3⟩ := h
  exact ⟨by omega, by omega, fun c hc => inL_iff (List.all_eq_true.mp h3 c hc)⟩
theorem name_fine {z : Str} (h : nameB z = true) : Fine 12 z := ⟨(name_let h).1, fun c hc => by have := (name_let h).2.2 c hc; omega⟩
theorem abs_is (n : Int) : (if n < 0 then -n else n) = ((n.natAbs : Nat) : Int) := by split <;> omega
theorem num_dig (m : Nat) : ((toString ((m : Nat) : Int) : String) : Str) = S (dig m) := by
  rw [str_is]; unfold numL; rw [if_neg (by omega)]; rfl
theorem part_len {p : Part} (h : PGood p) : (partS p).length ≤ 73 := by
  obtain ⟨t, n⟩ := p
  have hd := dig_len (k := 60) (by decide) h.1
  cases n with
  | none => exact Nat.le_trans hd (by decide)
  | some z =>
    have hz := (name_let (h.2 z rfl).1).1
    rw [len_cd] at hz
    show (if t.natAbs = 1 then cd z else dig t.natAbs ++ [32] ++ cd z).length ≤ 73
    split
    · omega
    · rw [List.length_append, List.length_append]; show _ + 1 + _ ≤ 73
      have hd' : (dig t.natAbs).length ≤ 60 := hd
      omega
def spPartS : Sp := fun vs H Q _ => ∃ p : Part, vs = [.int p.1, nv p.2] ∧ PGood p ∧ Q (.str (S (partS p))) H
theorem elems_snoc : ∀ (ps : List Part) (k : Nat) (p : Part), elems k (ps ++ [p]) = elems k ps ++ ((if p.1 < 0 then [[45]] else if 0 < k + ps.length then [[43]] else []) ++ [partS p])
  | [], k, p => by show _ ++ [partS p] ++ [] = [] ++ _; rw [List.append_nil, List.nil_append]; rfl
  | q :: r, k, p => by
    show _ ++ [partS q] ++ elems (k + 1) (r ++ [p]) = _ ++ [partS q] ++ elems (k + 1) r ++ _
    rw [elems_snoc r (k + 1) p, List.append_assoc, List.append_assoc, List.append_assoc, List.length_cons, show k + 1 + r.length = k + (r.length + 1) by omega]
theorem elems_len : ∀ (ps : List Part) (k : Nat), (elems k ps).length ≤ 2 * ps.length
  | [], _ => Nat.le_refl _
  | p :: r, k => by
    have := elems_len r (k + 1)
    show (_ ++ [partS p] ++ elems (k + 1) r).length ≤ _
    rw [List.length_append, List.length_append, List.length_cons, List.length_cons]
    have h1 : (if p.1 < 0 then [[45]] else if 0 < k then [[43]] else ([] : List (List Nat))).length ≤ 1 := by split; (exact Nat.le_refl _); split <;> decide
    rw [List.length_nil]
    omega
theorem elems_mem : ∀ (ps : List Part) (k : Nat) {l : List Nat}, l ∈ elems k ps → l = [45] ∨ l = [43] ∨ ∃ p ∈ ps, l = partS p
  | p :: r, k, l, h => by
    have h' : l ∈ (if p.1 < 0 then [[45]] else if 0 < k then [[43]] else []) ++ [partS p] ++ elems (k + 1) r := h
    rcases List.mem_append.mp h' with h' | h'
    · rcases List.mem_append.mp h' with h' | h'
      · split at h'
        · exact .inl (List.mem_singleton.mp h')
        · split at h'
          · exact .inr (.inl (List.mem_singleton.mp h'))
          · cases h'
      · exact .inr (.inr ⟨p, by simp, List.mem_singleton.mp h'⟩)
    · rcases elems_mem r (k + 1) h' with e | e | ⟨q, hq, e⟩
      · exact .inl e
      · exact .inr (.inl e)
      · exact .inr (.inr ⟨q, List.mem_cons_of_mem _ hq, e⟩)
theorem seq_mid {t u : TS} {D : Ends} {σ : St} {H : Hp} (R : St → Hp → Prop) (hk : ∀ σ' H', R σ' H' → u D σ' H') (hm : (∀ σ' H', R σ' H' → u D σ' H') → t { D with nx := u D } σ H) : tSeq t u D σ H := hm hk
section
variable {P : Program} {w : World} {K : PySem.W.Frag} {mg : Str → Option Value} {base : Heap} {A : Adr}
end
end K12
set_option maxHeartbeats 1000000
namespace K12
open PySem L2
seal PE PT PW PA PS PSs PG PGs PI PO PSet OpR UnR CallR TruR IxR SlR PC PPs
local macro_rules | `(tactic| walk_at "rd1") => `(tactic| first
  | (refine And.intro rfl ?_)
  | (refine And.intro (by assumption) ?_)
  | (refine And.intro (fun _ e => e) ?_)
  | (refine And.intro (TyOf.str _) ?_) | (refine And.intro (TyOf.int _) ?_) | (refine And.intro (TyOf.bl _) ?_) | (refine And.intro TyOf.non ?_)
  | (refine iteT ?_) | (refine iteF ?_)
  | (apply Exists.intro))
local macro_rules | `(tactic| walk_at "rd") => `(tactic| repeat (walk_at "rd1"))

abbrev vs (ws : List (List Nat)) : List V := ws.map fun l => V.str (S l)
def GR (H : Hp) (a : Addr) (g : List (List Nat)) : Prop := H a = some (.lst (vs g))
def putLast : List (List (List Nat)) → List Nat → List (List (List Nat))
  | [], _ => []
  | [g], w => [g ++ [w]]
  | g :: r, w => g :: putLast r w
def stepG (gs : List (List (List Nat))) (w : List Nat) : List (List (List Nat)) := if w = [43] ∨ w = [45] then gs ++ [[w]] else putLast gs w
def grpL (ws : List (List Nat)) : List (List (List Nat)) := ws.foldl stepG []
theorem grpL_snoc (ws : List (List Nat)) (w : List Nat) : grpL (ws ++ [w]) = stepG (grpL ws) w := by unfold grpL; rw [List.foldl_append]; rfl
theorem putLast_snoc : ∀ (gs : List (List (List Nat))) (g : List (List Nat)) (w : List Nat), putLast (gs ++ [g]) w = gs ++ [g ++ [w]]
  | [], _, _ => rfl
  | [a], _, _ => rfl
  | a :: b :: r, g, w => by
    show a :: putLast (b :: r ++ [g]) w = a :: (b :: r ++ [g ++ [w]])
    rw [show (b :: r ++ [g]) = (b :: r) ++ [g] from rfl, putLast_snoc (b :: r) g w]
theorem putLast_len : ∀ (gs : List (List (List Nat))) (w : List Nat), (putLast gs w).length = gs.length
  | [], _ => rfl
  | [a], _ => rfl
  | a :: b :: r, w => by show (putLast (b :: r) w).length + 1 = _; rw [putLast_len (b :: r) w]; rfl
theorem step_len (gs : List (List (List Nat))) (w : List Nat) : gs.length ≤ (stepG gs w).length := by
  unfold stepG
  split
  · rw [List.length_append]; omega
  · rw [putLast_len]; exact Nat.le_refl _
theorem grp_pos {w : List Nat} (h : w = [43] ∨ w = [45]) (ws : List (List Nat)) : ∀ k, 1 ≤ k → 0 < (grpL ((w :: ws).take k)).length
  | 0, hk => absurd hk (by decide)
  | 1, _ => by
    show 0 < (stepG [] w).length
    unfold stepG
    rw [if_pos h]; exact Nat.one_pos
  | k + 2, _ => by
    have ih := grp_pos h ws (k + 1) (by omega)
    rw [List.take_succ]
    cases e : (w :: ws)[k + 1]? with
    | none => show 0 < (grpL ((w :: ws).take (k + 1) ++ [])).length; rw [List.append_nil]; exact ih
    | some v => show 0 < (grpL ((w :: ws).take (k + 1) ++ [v])).length; rw [grpL_snoc]; exact Nat.lt_of_lt_of_le ih (step_len _ _)
theorem grp_len (ws : List (List Nat)) : (grpL ws).length ≤ ws.length := by
  have : ∀ (ws : List (List Nat)) (gs : List (List (List Nat))), (ws.foldl stepG gs).length ≤ gs.length + ws.length := by
    intro ws
    induction ws with
    | nil => intro gs; exact Nat.le_refl _
    | cons w r ih =>
      intro gs
      have h1 := ih (stepG gs w)
      have h2 : (stepG gs w).length ≤ gs.length + 1 := by
        unfold stepG
        split
        · rw [List.length_append]; exact Nat.le_refl _
        · rw [putLast_len]; omega
      show (r.foldl stepG (stepG gs w)).length ≤ gs.length + (r.length + 1)
      omega
  have h := this ws []
  rw [List.length_nil, Nat.zero_add] at h
  exact h
theorem paired_snoc {α β : Type} {R : α → β → Prop} : ∀ {as : List α} {bs : List β} {b : β}, Paired R as (bs ++ [b]) → ∃ as0 a, as = as0 ++ [a] ∧ Paired R as0 bs ∧ R a b
  | _, [], b, h => by
    cases h with
    | cons r rr => cases rr; exact ⟨[], _, rfl, .nil, r⟩
  | _, c :: cs, b, h => by
    cases h with
    | cons r rr =>
      obtain ⟨as0, a, e, h1, h2⟩ := paired_snoc (bs := cs) rr
      exact ⟨_ :: as0, a, by rw [e]; rfl, .cons r h1, h2⟩
theorem paired_imp {α β : Type} {R R' : α → β → Prop} {as : List α} {bs : List β} (h : Paired R as bs) (hi : ∀ a ∈ as, ∀ b, R a b → R' a b) : Paired R' as bs := by
  induction h with
  | nil => exact .nil
  | cons r _ ih => exact .cons (hi _ (by simp) _ r) (ih fun a ha b => hi a (List.mem_cons_of_mem _ ha) b)
theorem paired_some {H : Hp} {as : List Addr} {gs : List (List (List Nat))} (h : Paired (GR H) as gs) : ∀ a ∈ as, ∃ o, H a = some o := by
  induction h with
  | nil => intro a ha; cases ha
  | cons r _ ih =>
    intro a ha
    rcases List.mem_cons.mp ha with e | e
    · subst e; exact ⟨_, r⟩
    · exact ih a e
theorem paired_len {α β : Type} {R : α → β → Prop} {as : List α} {bs : List β} (h : Paired R as bs) : as.length = bs.length := by
  induction h with
  | nil => rfl
  | cons _ _ ih => rw [List.length_cons, List.length_cons, ih]
theorem paired_app {α β : Type} {R : α → β → Prop} {as as' : List α} {bs bs' : List β} (h : Paired R as bs) (k : Paired R as' bs') : Paired R (as ++ as') (bs ++ bs') := by
  induction h with
  | nil => exact k
  | cons r _ ih => exact .cons r ih
theorem putLast_mem : ∀ {gs : List (List (List Nat))} {w : List Nat} {g : List (List Nat)}, g ∈ putLast gs w → g ∈ gs ∨ ∃ g0 ∈ gs, g = g0 ++ [w]
  | [], _, _, h => by cases h
  | [a], w, g, h => .inr ⟨a, by simp, List.mem_singleton.mp h⟩
  | a :: b :: r, w, g, h => by
    rcases List.mem_cons.mp h with e | e
    · exact .inl (by rw [e]; simp)
    · rcases putLast_mem (gs := b :: r) e with e | ⟨g0, h0, e⟩
      · exact .inl (List.mem_cons_of_mem _ e)
      · exact .inr ⟨g0, List.mem_cons_of_mem _ h0, e⟩
theorem grp_mem {ws : List (List Nat)} {g : List (List Nat)} (h : g ∈ grpL ws) : g.length ≤ ws.length := by
  have key : ∀ (ws : List (List Nat)) (gs : List (List (List Nat))) (n : Nat), (∀ g ∈ gs, g.length ≤ n) → ∀ g ∈ ws.foldl stepG gs, g.length ≤ n + ws.length := by
    intro ws
    induction ws with
    | nil => intro gs n h g hg; exact h g hg
    | cons w r ih =>
      intro gs n h g hg
      have := ih (stepG gs w) (n + 1) (fun g' hg' => by
        unfold stepG at hg'
        split at hg'
        · rcases List.mem_append.mp hg' with e | e
          · exact Nat.le_succ_of_le (h g' e)
          · rw [List.mem_singleton.mp e]; show 1 ≤ n + 1; omega
        · rcases putLast_mem hg' with e | ⟨g0, h0, e⟩
          · exact Nat.le_succ_of_le (h g' e)
          · rw [e, List.length_append]; exact Nat.succ_le_succ (h g0 h0)) g hg
      show g.length ≤ n + (r.length + 1)
      omega
  have := key ws [] 0 (fun g hg => by cases hg) g h
  omega
theorem last_or (l : List (List (List Nat))) (h : 0 < l.length) : ∃ r g, l = r ++ [g] := by
  rcases List.eq_nil_or_concat l with e | ⟨r, g, e⟩
  · rw [e] at h; exact absurd h (by decide)
  · exact ⟨r, g, by rw [e, List.concat_eq_append]⟩
theorem atI_last {α : Type} (l : List α) (x : α) : atI (l ++ [x]) (-1) = some x := by
  unfold atI ixN
  rw [if_neg (by decide), List.length_append]
  have : -(((l.length + [x].length : Nat) : Int)) ≤ -1 := by show -(((l.length + 1 : Nat) : Int)) ≤ -1; omega
  rw [if_pos this]
  show (l ++ [x])[((-1 : Int) + ((l.length + 1 : Nat) : Int)).toNat]? = some x
  rw [show ((-1 : Int) + ((l.length + 1 : Nat) : Int)).toNat = l.length by omega]
  simp
def spParted (K : PySem.W.Frag) : Sp := fun vs' H Q _ => ∃ (pw : Addr) (w : List Nat) (ws : List (List Nat)), vs' = [.ref pw] ∧ SqL K H pw (vs (w :: ws)) ∧ (w = [43] ∨ w = [45]) ∧ ws.length ≤ 1100 ∧
  ∀ (pg : Addr) (as : List Addr) H', Same H H' → H' pg = some (.lst (as.map V.ref)) → Paired (GR H') as (grpL (w :: ws)) → Q (.ref pg) H'
theorem sign_in (l : List Nat) : inV (.str (S l)) [V.str "+", V.str "-"] = decide (l = [43] ∨ l = [45]) := by
  rw [Bool.eq_iff_iff, decide_eq_true_iff]
  unfold inV
  rw [List.any_eq_true]
  constructor
  · rintro ⟨y, hy, e⟩
    simp only [List.mem_cons, List.not_mem_nil, or_false] at hy
    rcases hy with h | h <;> subst h
    · left
      have : ("+" : Str) = S l := eq_of_beq e
      rw [← cd_S l, ← this]; decide +kernel
    · right
      have : ("-" : Str) = S l := eq_of_beq e
      rw [← cd_S l, ← this]; decide +kernel
  · rintro (h | h) <;> subst h
    · exact ⟨V.str "+", by simp, by decide +kernel⟩
    · exact ⟨V.str "-", by simp, by decide +kernel⟩
section
variable {P : Program} {w : World} {K : PySem.W.Frag} {mg : Str → Option Value} {base : Heap} {A : Adr}
theorem ok_parted (T : Txt K mg A) : FnOk P w K mg base CX0 1 A.f_parted_at_signs A.d_parted_at_signs ["words"] (spParted K) := by
  refine T.F_parted_at_signs.ok sc_parted_at_signs (fun vs H Q E h => ?_) (fun cdv A0 outer s H vs' Q E hr h => ?_)
  · obtain ⟨pw, w, ws, rfl, _⟩ := h
    rfl
  obtain ⟨pw, w, ws, rfl, hw, hs, hl, q⟩ := h
  refine ⟨_, (pss_cons (ps_set (i := 1) sc_parted_at_signs.nd rfl (by first | exact Or.inl rfl | exact Or.inr rfl) (pe_lst pa_nil))
      (pss_cons (ps_forR PassesOwn.never rfl (pi_list (pv 0)) (pg_name (i := 2) sc_parted_at_signs.nd rfl (by first | exact Or.inl rfl | exact Or.inr rfl)) (pss_one (ps_if (pt_cmpR op_in_seq (pv 2) (pe_gv rfl T.g_SIGNS) (by rfl)) (pss_one (ps_expr (pe_bm PySem.F.plainAttrs_list PySem.F.slot_list_append PySem.F.type_list_append mt_append (pv 1) (pa_cons (pe_lst (pa_cons (pv 2) pa_nil)) pa_nil)))) (pss_one (ps_expr (pe_bm PySem.F.plainAttrs_list PySem.F.slot_list_append PySem.F.type_list_append mt_append (pe_ix ix_list (pv 1) (pe_un un_neg pe_int) (fun _ _ => rfl)) (pa_cons (pv 2) pa_nil)))))))
      (pss_one (ps_ret (pv 1))))), ?_⟩
  refine ⟨(by show 0 ≤ sizeLine; decide), fun pg hpg => ?_⟩
  have sw := same_new hpg (.lst [])
  refine ⟨_, rfl, pw, rfl, ⟨_, sw.seq hw⟩, ?_⟩
  refine for_listR (xs := vs (w :: ws)) (fun i σ H' => (∃ u, σ = [some (.ref pw), some (.ref pg), u]) ∧ Same H H' ∧ ∃ as : List Addr, H' pg = some (.lst (as.map V.ref)) ∧ Paired (GR H') as (grpL ((w :: ws).take i)) ∧ as.Nodup ∧ ∀ a ∈ as, H a = none ∧ a ≠ pg) ⟨⟨_, rfl⟩, sw, [], upd_same, .nil, List.nodup_nil, fun a ha => by cases ha⟩ (fun i σ H' _ hh => hh.2.1.seq hw) (fun i x σ H' hx hh => ?_) (fun σ H' hh => ?_)
  · obtain ⟨⟨u, rfl⟩, sH, as, hg, hp, hnd, hfr⟩ := hh
    obtain ⟨l, hli, rfl⟩ := map_get hx
    have hil := (List.getElem?_eq_some_iff.mp hli).1
    rw [List.length_cons] at hil
    have et : (w :: ws).take (i + 1) = (w :: ws).take i ++ [l] := by rw [List.take_succ, hli]; rfl
    have hal : as.length ≤ 1101 := by
      rw [paired_len hp]
      have := grp_len ((w :: ws).take i)
      rw [List.length_take] at this
      omega
    refine ⟨_, rfl, _, _, rfl, .inr (T.q_SIGNS H'), rfl, rfl, _, rfl, ?_⟩
    show if (inV (.str (S l)) [V.str "+", V.str "-"]) = true then _ else _
    rw [sign_in]
    refine ite2 (fun c => ?_) (fun c => ?_)
    · have c' : l = [43] ∨ l = [45] := of_decide_eq_true c
      refine ⟨_, rfl, Or.inl ⟨rfl, _, SqL.of hg⟩, _, rfl, (by show 1 ≤ sizeLine; decide), fun p hpn => ?_⟩
      have np : p ≠ pg := fun e => by subst e; rw [hg] at hpn; cases hpn
      have sp := same_new hpn (.lst [.str (S l)])
      refine ⟨pg, _, _, rfl, rfl, sp _ _ hg, ?_, ⟨_, rfl⟩, ?_, as ++ [p], ?_, ?_, ?_, ?_⟩
      · have := small_of (n := 1102) (m := 1102) (Nat.le_refl _)
        rw [List.length_map]; omega
      · intro b o hb
        have hb' := sH b o hb
        have b1 : b ≠ p := ne_of_none hb' hpn
        rw [upd_ne (ne_of_none hb hpg), upd_ne b1]; exact hb'
      · rw [upd_same, List.map_append]; rfl
      · rw [et, grpL_snoc]
        unfold stepG
        rw [if_pos c']
        have old := paired_imp (R' := GR (upd (upd H' p (.lst [.str (S l)])) pg (.lst (as.map V.ref ++ [.ref p])))) hp fun a ha g hgr => by
          have a1 : a ≠ p := ne_of_none hgr hpn
          show upd _ pg _ a = _
          rw [upd_ne (hfr a ha).2, upd_ne a1]; exact hgr
        exact paired_app old (.cons (by show upd _ pg _ p = _; rw [upd_ne np]; exact upd_same) .nil)
      · rw [List.nodup_append]
        exact ⟨hnd, by simp, fun a ha b hb e => by
          rw [List.mem_singleton.mp hb] at e
          obtain ⟨o, ho⟩ := paired_some hp a ha
          rw [e, hpn] at ho; cases ho⟩
      · intro a ha
        rcases List.mem_append.mp ha with h | h
        · exact hfr a h
        · rw [List.mem_singleton.mp h]
          refine ⟨?_, np⟩
          cases e : H p with
          | none => rfl
          | some o => rw [sH p o e] at hpn; cases hpn
    · have c' : ¬ (l = [43] ∨ l = [45]) := fun e => c (decide_eq_true e)
      have hi1 : 1 ≤ i := by
        cases i with
        | zero => have : w = l := Option.some.inj hli; rw [← this] at c'; exact absurd hs c'
        | succ k => omega
      obtain ⟨gs0, g, eg⟩ := last_or _ (grp_pos hs ws i hi1)
      rw [eg] at hp
      obtain ⟨as0, a, ea, hp0, hga⟩ := paired_snoc hp
      subst ea
      have hna : a ∉ as0 := fun h => by
        rw [List.nodup_append] at hnd
        exact hnd.2.2 a h a (by simp) rfl
      have hat : atI ((as0 ++ [a]).map V.ref) (-1) = some (.ref a) := by rw [List.map_append]; exact atI_last _ _
      refine ⟨_, rfl, _, rfl, pg, _, _, _, rfl, rfl, SqL.of hg, hat, Or.inl ⟨rfl, _, SqL.of hga⟩, _, rfl, a, _, _, rfl, rfl, hga, ?_, ⟨_, rfl⟩, ?_, as0 ++ [a], ?_, ?_, hnd, hfr⟩
      · have h1 := grp_mem (ws := (w :: ws).take i) (g := g) (by rw [eg]; simp)
        rw [List.length_take] at h1
        have := small_of (n := 1102) (m := 1102) (Nat.le_refl _)
        rw [List.length_map]; omega
      · intro b o hb
        rw [upd_ne (ne_of_none hb (hfr a (by simp)).1)]; exact sH b o hb
      · rw [upd_ne (Ne.symm (hfr a (by simp)).2)]; exact hg
      · rw [et, grpL_snoc, eg]
        unfold stepG
        rw [if_neg c', putLast_snoc]
        have old := paired_imp (R' := GR (upd H' a (.lst (vs g ++ [.str (S l)])))) hp0 fun b hb g' hgr => by
          have b1 : b ≠ a := fun e => hna (e ▸ hb)
          show upd _ a _ b = _
          rw [upd_ne b1]; exact hgr
        exact paired_app old (.cons (by show upd _ a _ a = _; rw [upd_same]; show _ = some (HO.lst (vs (g ++ [l]))); rw [show vs (g ++ [l]) = vs g ++ [.str (S l)] from List.map_append]) .nil)
  · obtain ⟨⟨u, rfl⟩, sH, as, hg, hp, _, _⟩ := hh
    rw [List.length_map, List.take_length] at hp
    exact ⟨_, rfl, q pg as _ sH hg hp⟩
end
end K12
set_option maxHeartbeats 1000000
namespace K12
open PySem L2
seal PE PT PW PA PS PSs PG PGs PI PO PSet OpR UnR CallR TruR IxR SlR PC PPs
local macro_rules | `(tactic| walk_at "rd1") => `(tactic| first
  | (refine And.intro rfl ?_)
  | (refine And.intro (by assumption) ?_)
  | (refine And.intro (fun _ e => e) ?_)
  | (refine And.intro (TyOf.str _) ?_) | (refine And.intro (TyOf.int _) ?_) | (refine And.intro (TyOf.bl _) ?_) | (refine And.intro TyOf.non ?_)
  | (refine iteT ?_) | (refine iteF ?_)
  | (apply Exists.intro))
local macro_rules | `(tactic| walk_at "rd") => `(tactic| repeat (walk_at "rd1"))

def least (sg : List Nat) (n : Option Str) : Int := if n.isSome = true then 2 else if sg = [45] then 1 else 0
def lastN (ws : List (List Nat)) : Option Str := match ws.getLast? with
  | some l => if nameB (S l) = true then some (S l) else none
  | none => none
def numsN (ws : List (List Nat)) : List (List Nat) := if (lastN ws).isSome = true then ws.dropLast else ws
def oneN (sg : List Nat) : Int := if sg = [45] then -1 else 1
def numN (nums : List (List Nat)) : Option Int := match nums with
  | [l] => numB l 60
  | _ => none
def partB (sg : List Nat) (ws : List (List Nat)) : Option Part :=
  if (lastN ws).isSome = true ∧ (numsN ws).length = 0 then some (oneN sg, lastN ws)
  else match numN (numsN ws) with
    | none => none
    | some m => if m < least sg (lastN ws) then none else some (oneN sg * m, lastN ws)
def OP (K : PySem.W.Frag) (H : Hp) (x : V) : Option Part → Prop
  | none => x = .non
  | some p => PR K H x p
theorem OP.same {K : PySem.W.Frag} {H H' : Hp} {x : V} {o : Option Part} (e : Same H H') (h : OP K H x o) : OP K H' x o := by
  cases o with
  | none => exact h
  | some p => exact PR.same e h
def spLeast : Sp := fun vs H Q _ => ∃ (sg : List Nat) (n : Option Str), vs = [.str (S sg), nv n] ∧ Q (.int (least sg n)) H
def spPart (K : PySem.W.Frag) : Sp := fun vs' H Q _ => ∃ (sg : List Nat) (pw : Addr) (ws : List (List Nat)), vs' = [.str (S sg), .ref pw] ∧ SqL K H pw (vs ws) ∧ (∀ l ∈ ws, Fine 1000 (S l)) ∧ ws.length ≤ 1200 ∧ ∀ x H', Same H H' → OP K H' x (partB sg ws) → Q x H'
theorem sg_eq (sg : List Nat) : decide (V.str (S sg) = V.str (Str.ofString "-")) = decide (sg = [45]) := by
  rw [dec_cd, cd_S, show cd (Str.ofString "-") = [45] by decide +kernel]
theorem nv_non (n : Option Str) : decide (nv n = .non) = !n.isSome := by cases n <;> rfl
theorem cut_last (ws : List (List Nat)) : cutV (vs ws) none (some (-1)) = vs ws.dropLast := by
  unfold cutV
  have e1 : HT.sIx (vs ws).length 0 none = 0 := rfl
  have e2 : HT.sIx (vs ws).length (vs ws).length (some (-1)) = ws.length - 1 := by
    show (if (-1 : Int) < 0 then ((-1 : Int) + ((vs ws).length : Nat)).toNat else min (-1 : Int).toNat (vs ws).length) = _
    rw [if_pos (by decide), List.length_map]; omega
  rw [e1, e2, List.drop_zero, Nat.sub_zero, List.dropLast_eq_take]
  exact List.map_take.symm
theorem last_at {ws : List (List Nat)} (h : ws ≠ []) : ∃ l, ws.getLast? = some l ∧ atI (vs ws) (-1) = some (.str (S l)) ∧ l ∈ ws := by
  rcases List.eq_nil_or_concat ws with e | ⟨r, g, e⟩
  · exact absurd e h
  · rw [List.concat_eq_append] at e
    subst e
    refine ⟨g, by simp, ?_, by simp⟩
    rw [show vs (r ++ [g]) = vs r ++ [.str (S g)] from List.map_append]
    exact atI_last _ _
theorem numB_small {l : List Nat} {n : Int} (h : numB l 60 = some n) : n.natAbs < 10 ^ 60 := by
  unfold numB at h
  split at h
  · cases h
  rename_i hc
  have h2 : ¬ (60 : Int) < (fig l).length := fun z => hc (.inr (.inl z))
  have h4 : (fig l).all inF = true := by
    cases e : (fig l).all inF with
    | true => rfl
    | false => exact absurd (.inr (.inr (.inr e))) hc
  obtain ⟨a, b⟩ := val_bound (fig l).length (fig l) rfl h4
  have hp : (10 : Int) ^ (fig l).length ≤ 10 ^ 60 := by
    have : (10 : Nat) ^ (fig l).length ≤ 10 ^ 60 := Nat.pow_le_pow_right (by decide) (by omega)
    have e1 : ((10 ^ (fig l).length : Nat) : Int) = (10 : Int) ^ (fig l).length := by simp
    have e2 : ((10 ^ 60 : Nat) : Int) = (10 : Int) ^ 60 := by simp
    omega
  have e2 : ((10 ^ 60 : Nat) : Int) = (10 : Int) ^ 60 := by simp
  have hn : (if l.take 1 = [45] then - val (fig l) else val (fig l)) = n := Option.some.inj h
  split at hn <;> omega
theorem ib60 {n : Int} (h : n.natAbs < 10 ^ 60) : ib n ≤ 60000000 := Nat.le_trans (ib_big (m := 256) (Nat.lt_trans h (by decide +kernel))) (by decide)
section
variable {P : Program} {w : World} {K : PySem.W.Frag} {mg : Str → Option Value} {base : Heap} {A : Adr}
theorem ok_least (T : Txt K mg A) : FnOk P w K mg base CX0 1 A.f_least_number A.d_least_number ["sign", "name"] spLeast := by
  refine T.F_least_number.ok sc_least_number (fun vs H Q E h => ?_) (fun cdv A0 outer s H vs Q E hr h => ?_)
  · obtain ⟨sg, n, rfl, _⟩ := h
    rfl
  obtain ⟨sg, n, rfl, q⟩ := h
  refine ⟨_, (pss_cons (ps_if (pt_cmpR op_notN (pv 1) pe_non (nomark _)) (pss_one (ps_ret pe_int)) pss_nil)
      (pss_one (ps_ret (pe_ifExp (pt_cmpR op_eq (pv 0) pe_str (nomark _)) pe_int pe_int)))), ?_⟩
  refine ⟨_, rfl, rfl, _, rfl, ?_⟩
  rw [nv_non]
  unfold least at q
  cases n with
  | some z => exact iteT q
  | none =>
    refine iteF ⟨_, rfl, rfl, _, rfl, ?_⟩
    rw [sg_eq]
    have q : Q (.int (if sg = [45] then 1 else 0)) H := q
    refine ite2 (fun c => ?_) (fun c => ?_)
    · rw [if_pos (of_decide_eq_true c)] at q; exact q
    · rw [if_neg (fun e => c (decide_eq_true e))] at q; exact q
theorem ok_part (T : Txt K mg A) : FnOk P w K mg base CX0 4 A.f_part_or_none A.d_part_or_none ["sign", "words"] (spPart K) := by
  have G_is_name := ok_is_name (P := P) (w := w) (base := base) T
  have G_number_or_none := ok_number_or_none (P := P) (w := w) (base := base) T
  have G_least_number := ok_least (P := P) (w := w) (base := base) T
  refine T.F_part_or_none.ok sc_part_or_none (fun vs H Q E h => ?_) (fun cdv A0 outer s H vs' Q E hr h => ?_)
  · obtain ⟨sg, pw, ws, rfl, _⟩ := h
    rfl
  obtain ⟨sg, pw, ws, rfl, hw, hf, hl, q⟩ := h
  refine ⟨_, (pss_cons (ps_set (i := 2) sc_part_or_none.nd rfl (by first | exact Or.inl rfl | exact Or.inr rfl) (pe_ifExp (PW.pt (pw_and (pt_cmpR op_gt (pe_callB call_len_seq (by rfl) T.n_len PySem.boot_len (pa_cons (pv 1) pa_nil)) pe_int (nomark _)) (pw_and1 (pt_val (pe_call G_is_name (hr.mono (by decide)) rfl T.m_is_name T.k_is_name T.b_is_name .nil pass0 (pa_cons (pe_ix ix_list (pv 1) (pe_un un_neg pe_int) (fun _ _ => rfl)) pa_nil)))))) (pe_ix ix_list (pv 1) (pe_un un_neg pe_int) (fun _ _ => rfl)) pe_non))
      (pss_cons (ps_set (i := 3) sc_part_or_none.nd rfl (by first | exact Or.inl rfl | exact Or.inr rfl) (pe_ifExp (pt_cmpR op_isN (pv 2) pe_non (nomark _)) (pv 1) (pe_slice sl_list (pv 1) po_none (po_some (pe_un un_neg pe_int)))))
      (pss_cons (ps_set (i := 4) sc_part_or_none.nd rfl (by first | exact Or.inl rfl | exact Or.inr rfl) (pe_ifExp (pt_cmpR op_eq (pv 0) pe_str (nomark _)) (pe_un un_neg pe_int) pe_int))
      (pss_cons (ps_if (PW.pt (pw_and (pt_cmpR op_notN (pv 2) pe_non (nomark _)) (pw_and1 (pt_cmpR op_eq (pe_callB call_len_seq (by rfl) T.n_len PySem.boot_len (pa_cons (pv 3) pa_nil)) pe_int (nomark _))))) (pss_one (ps_ret (pe_tup (pa_cons (pv 4) (pa_cons (pv 2) pa_nil))))) pss_nil)
      (pss_cons (ps_set (i := 5) sc_part_or_none.nd rfl (by first | exact Or.inl rfl | exact Or.inr rfl) (pe_ifExp (pt_cmpR op_eq (pe_callB call_len_seq (by rfl) T.n_len PySem.boot_len (pa_cons (pv 3) pa_nil)) pe_int (nomark _)) (pe_call G_number_or_none (hr.mono (by decide)) rfl T.m_number_or_none T.k_number_or_none T.b_number_or_none .nil pass0 (pa_cons (pe_ix ix_list (pv 3) pe_int (fun _ _ => rfl)) pa_nil)) pe_non))
      (pss_cons (ps_if (PW.pt (pw_or (pt_cmpR op_isN (pv 5) pe_non (nomark _)) (pw_or1 (pt_cmpR op_lt (pv 5) (pe_call G_least_number (hr.mono (by decide)) rfl T.m_least_number T.k_least_number T.b_least_number .nil pass0 (pa_cons (pv 0) (pa_cons (pv 2) pa_nil))) (nomark _))))) (pss_one (ps_ret pe_non)) pss_nil)
      (pss_one (ps_ret (pe_tup (pa_cons (pe_op op_mulB (pv 4) (pv 5)) (pa_cons (pv 2) pa_nil))))))))))), ?_⟩
  refine seq_mid (fun σ' H2 => σ' = [some (.str (S sg)), some (.ref pw), some (nv (lastN ws)), none, none, none] ∧ Same H H2) ?k1 ?m1
  case m1 =>
    intro key
    refine ⟨_, rfl, pw, _, rfl, .inl hw, _, _, rfl, rfl, _, rfl, ?_⟩
    rw [List.length_map]
    by_cases hn : ws = []
    · subst hn
      refine iteF (iteF ?_)
      exact key _ _ ⟨rfl, Same.refl _⟩
    · obtain ⟨l, hl1, hl2, hl3⟩ := last_at hn
      have hpos : (0 : Int) < ws.length := by
        cases ws with
        | nil => exact absurd rfl hn
        | cons a r => rw [List.length_cons]; omega
      refine iteY (decide_eq_true hpos) ?_
      refine ⟨_, rfl, _, rfl, pw, _, _, _, rfl, rfl, hw, hl2, _, rfl, ⟨⟨thStr T _ _, trivial⟩, fun z e => by cases e; exact hf l hl3⟩, fun H1 s1 => ⟨_, rfl, ?_⟩⟩
      have e : lastN ws = if nameB (S l) = true then some (S l) else none := by unfold lastN; rw [hl1]
      cases hb : nameB (S l) with
      | true =>
        rw [hb, if_pos rfl] at e
        refine iteY hb ⟨_, rfl, _, rfl, pw, _, _, _, rfl, rfl, s1.seq hw, hl2, ?_⟩
        have := key [some (.str (S sg)), some (.ref pw), some (nv (lastN ws)), none, none, none] H1 ⟨rfl, s1⟩
        rw [e] at this
        exact this
      | false =>
        rw [hb, if_neg (by decide)] at e
        refine iteN hb ?_
        have := key [some (.str (S sg)), some (.ref pw), some (nv (lastN ws)), none, none, none] H1 ⟨rfl, s1⟩
        rw [e] at this
        exact this
  case k1 =>
    rintro σ' H1 ⟨rfl, s1⟩
    refine seq_mid (fun σ' H2 => ∃ pn, σ' = [some (.str (S sg)), some (.ref pw), some (nv (lastN ws)), some (.ref pn), none, none] ∧ Same H H2 ∧ SqL K H2 pn (vs (numsN ws))) ?k2 ?m2
    case m2 =>
      intro key
      refine ⟨_, rfl, rfl, _, rfl, ?_⟩
      rw [nv_non]
      cases hn : (lastN ws).isSome with
      | false =>
        have e : numsN ws = ws := if_neg (by rw [hn]; decide)
        exact iteT ⟨_, rfl, key _ _ ⟨pw, rfl, s1, by rw [e]; exact s1.seq hw⟩⟩
      | true =>
        have e : numsN ws = ws.dropLast := if_pos hn
        refine iteF ⟨_, rfl, _, rfl, _, rfl, pw, _, rfl, s1.seq hw, fun pc hpc => ?_⟩
        rw [cut_last]
        exact key _ _ ⟨pc, rfl, s1.trans (same_new hpc _), by rw [e]; exact SqL.of upd_same⟩
    case k2 =>
      rintro σ' H2 ⟨pn, rfl, s2, hq⟩
      have hnl : (numsN ws).length ≤ 1200 := by
        unfold numsN
        split
        · rw [List.length_dropLast]; omega
        · exact hl
      have hnf : ∀ l ∈ numsN ws, Fine 1000 (S l) := fun l hm => by
        unfold numsN at hm
        split at hm
        · exact hf l ((List.dropLast_sublist ws).subset hm)
        · exact hf l hm
      refine seq_mid (fun σ' H3 => σ' = [some (.str (S sg)), some (.ref pw), some (nv (lastN ws)), some (.ref pn), some (.int (oneN sg)), none] ∧ H3 = H2) ?k3 ?m3
      case m3 =>
        intro key
        refine ⟨_, rfl, rfl, _, rfl, ?_⟩
        rw [sg_eq]
        refine ite2 (fun c => ?_) (fun c => ?_)
        · have e : oneN sg = -1 := if_pos (of_decide_eq_true c)
          rw [e] at key
          exact ⟨_, rfl, key _ _ ⟨rfl, rfl⟩⟩
        · have e : oneN sg = 1 := if_neg (fun z => c (decide_eq_true z))
          rw [e] at key
          exact key _ _ ⟨rfl, rfl⟩
      case k3 =>
        rintro σ' H3 ⟨rfl, rfl⟩
        refine seq_mid (fun σ' H4 => σ' = [some (.str (S sg)), some (.ref pw), some (nv (lastN ws)), some (.ref pn), some (.int (oneN sg)), none] ∧ H4 = H3 ∧ ¬ ((lastN ws).isSome = true ∧ (numsN ws).length = 0)) ?k4 ?m4
        case m4 =>
          intro key
          refine ⟨_, rfl, rfl, _, rfl, ?_⟩
          rw [nv_non, Bool.not_not]
          cases hn : (lastN ws).isSome with
          | false => exact iteF (iteF (key _ _ ⟨rfl, rfl, fun z => by rw [hn] at z; cases z.1⟩))
          | true =>
            refine iteT ⟨_, rfl, pn, _, rfl, .inl hq, rfl, _, rfl, ?_⟩
            rw [List.length_map]
            refine ite2 (fun c => ?_) (fun c => ?_)
            · have c' : (numsN ws).length = 0 := by have := V.int.inj (of_decide_eq_true c); omega
              refine ⟨_, rfl, _, rfl, (by show 2 ≤ sizeLine; decide), fun t ht => ?_⟩
              refine q _ _ (s2.trans (same_new ht _)) ?_
              unfold partB
              rw [if_pos ⟨hn, c'⟩]
              exact ⟨t, rfl, SqT.of upd_same⟩
            · exact key _ _ ⟨rfl, rfl, fun z => c (decide_eq_true (by rw [z.2]; rfl))⟩
        case k4 =>
          rintro σ' H4 ⟨rfl, rfl, hnot⟩
          refine seq_mid (fun σ' H5 => σ' = [some (.str (S sg)), some (.ref pw), some (nv (lastN ws)), some (.ref pn), some (.int (oneN sg)), some (numV (numN (numsN ws)))] ∧ Same H H5) ?k5 ?m5
          case m5 =>
            intro key
            refine ⟨_, rfl, pn, _, rfl, .inl hq, rfl, _, rfl, ?_⟩
            rw [List.length_map]
            refine ite2 (fun c => ?_) (fun c => ?_)
            · have c' : (numsN ws).length = 1 := by have := V.int.inj (of_decide_eq_true c); omega
              obtain ⟨l, el⟩ := List.length_eq_one_iff.mp c'
              refine ⟨_, rfl, pn, _, _, _, rfl, rfl, hq, (by rw [el]; exact (atI_nat (j := 0) rfl)), _, rfl, (hnf l (by rw [el]; simp)).mono (by decide), fun H5 s5 => ?_⟩
              have := key _ H5 ⟨rfl, s2.trans s5⟩
              rw [el] at this
              exact this
            · have e : numN (numsN ws) = none := by
                unfold numN
                cases hq2 : numsN ws with
                | nil => rfl
                | cons a r =>
                  cases r with
                  | nil => rw [hq2] at c; exact absurd (decide_eq_true rfl) c
                  | cons b r => rfl
              rw [e] at key
              exact key _ _ ⟨rfl, s2⟩
          case k5 =>
            rintro σ' H5 ⟨rfl, s5⟩
            have hB : partB sg ws = match numN (numsN ws) with | none => none | some m => if m < least sg (lastN ws) then none else some (oneN sg * m, lastN ws) := by
              unfold partB; rw [if_neg hnot]
            cases hm : numN (numsN ws) with
            | none =>
              rw [hm] at hB
              refine ⟨_, rfl, rfl, _, rfl, iteT (iteT ?_)⟩
              exact q _ _ s5 (by rw [hB]; rfl)
            | some m =>
              rw [hm] at hB
              refine ⟨_, rfl, rfl, _, rfl, iteF ?_⟩
              refine ⟨_, rfl, _, rfl, _, rfl, sg, lastN ws, rfl, m, _, rfl, rfl, _, rfl, ?_⟩
              refine ite2 (fun c => ?_) (fun c => ?_)
              · have hB : partB sg ws = if m < least sg (lastN ws) then none else some (oneN sg * m, lastN ws) := hB
                rw [if_pos (of_decide_eq_true c)] at hB
                exact q _ _ s5 (by rw [hB]; rfl)
              · have hB : partB sg ws = if m < least sg (lastN ws) then none else some (oneN sg * m, lastN ws) := hB
                rw [if_neg (fun z => c (decide_eq_true z))] at hB
                have hsm : m.natAbs < 10 ^ 60 := by
                  unfold numN at hm
                  split at hm
                  · exact numB_small hm
                  · cases hm
                have h1 : ib (oneN sg) ≤ 60000000 := by unfold oneN; split <;> decide
                refine ⟨_, rfl, _, rfl, _, _, rfl, rfl, ⟨h1, ib60 hsm⟩, _, rfl, (by show 2 ≤ sizeLine; decide), fun t ht => ?_⟩
                refine q _ _ (s5.trans (same_new ht _)) ?_
                rw [hB]
                exact ⟨t, rfl, SqT.of upd_same⟩
end
end K12
set_option maxHeartbeats 1000000
namespace K12
open PySem L2
seal PE PT PW PA PS PSs PG PGs PI PO PSet OpR UnR CallR TruR IxR SlR PC PPs
local macro_rules | `(tactic| walk_at "rd1") => `(tactic| first
  | (refine And.intro rfl ?_)
  | (refine And.intro (by assumption) ?_)
  | (refine And.intro (fun _ e => e) ?_)
  | (refine And.intro (TyOf.str _) ?_) | (refine And.intro (TyOf.int _) ?_) | (refine And.intro (TyOf.bl _) ?_) | (refine And.intro TyOf.non ?_)
  | (refine iteT ?_) | (refine iteF ?_)
  | (apply Exists.intro))
local macro_rules | `(tactic| walk_at "rd") => `(tactic| repeat (walk_at "rd1"))

def namesOf (os : List (Option Part)) : List Str := os.filterMap fun o => o.bind (·.2)
def partsB (os : List (Option Part)) : Bool := !(os.any Option.isNone) && decide (os.length ≤ 12) && unlikeB ((namesOf os).map V.str)
def signedL (ws : List (List Nat)) : List (List Nat) := if ws.head? = some [45] then ws else [43] :: ws
def optsB (l : List Nat) : List (Option Part) := (grpL (signedL (splitL l))).map fun g => partB (g.headD []) g.tail
def sumB (l : List Nat) : Option (List Part) := if partsB (optsB l) = true then some ((optsB l).filterMap id) else none
def spAre (K : PySem.W.Frag) : Sp := fun vs' H Q _ => ∃ (pl : Addr) (xs : List V) (os : List (Option Part)), vs' = [.ref pl] ∧ SqL K H pl xs ∧ Paired (OP K H) xs os ∧ os.length ≤ 1000 ∧ (∀ p, some p ∈ os → ∀ z, p.2 = some z → Fine 1000 z) ∧ ∀ H', Same H H' → Q (.bl (partsB os)) H'
def spReadSum (K : PySem.W.Frag) (A : Adr) : Sp := fun vs' H Q E => ∃ x, vs' = [x] ∧ ((∃ z, x = .str z ∧ Fine 990 z ∧ (∀ ps, sumB (cd z) = some ps → ∀ pl xs H', Same H H' → H pl = none → H' pl = some (.lst xs) → PsR K H' xs ps → Q (.ref pl) H') ∧ (sumB (cd z) = none → ∀ H', Same H H' → E (.ref A.c_NoSum) none H')) ∨ (∃ t, TyE K H x t ∧ PySem.W.kitOne K t (.type "str") = some false ∧ ∀ H', Same H H' → E (.ref A.c_NoSum) none H'))
theorem op_at {K : PySem.W.Frag} {H : Hp} {xs : List V} {os : List (Option Part)} (h : Paired (OP K H) xs os) : ∀ {i : Nat} {x : V}, xs[i]? = some x → ∃ o, os[i]? = some o ∧ OP K H x o := by
  induction h with
  | nil => intro i x e; simp at e
  | cons a _ ih =>
    intro i x e
    cases i with
    | zero => cases e; exact ⟨_, rfl, a⟩
    | succ j => exact ih e
theorem op_any {K : PySem.W.Frag} {H : Hp} {xs : List V} {os : List (Option Part)} (h : Paired (OP K H) xs os) : xs.any isNon = os.any Option.isNone := by
  induction h with
  | nil => rfl
  | cons a _ ih =>
    rename_i x o xs' os' _
    rw [List.any_cons, List.any_cons, ih]
    cases o with
    | none => have a : x = .non := a; subst a; rfl
    | some p => obtain ⟨b, rfl, _⟩ := a; rfl
theorem op_mem {K : PySem.W.Frag} {H : Hp} {xs : List V} {os : List (Option Part)} (h : Paired (OP K H) xs os) : ∀ z ∈ xs, z = .non ∨ ∃ q ys, z = .ref q ∧ SqT K H q ys := by
  induction h with
  | nil => intro z hz; cases hz
  | cons a _ ih =>
    rename_i x o xs' os' _
    intro z hz
    rcases List.mem_cons.mp hz with e | e
    · subst e
      cases o with
      | none => exact .inl a
      | some p => obtain ⟨b, e, hb⟩ := a; exact .inr ⟨b, _, e, hb⟩
    · exact ih z e
theorem op_same {K : PySem.W.Frag} {H H' : Hp} {xs : List V} {os : List (Option Part)} (e : Same H H') (h : Paired (OP K H) xs os) : Paired (OP K H') xs os := by
  induction h with
  | nil => exact .nil
  | cons a _ ih => exact .cons (OP.same e a) ih
theorem op_some {K : PySem.W.Frag} {H : Hp} {xs : List V} {os : List (Option Part)} (h : Paired (OP K H) xs os) (hn : os.any Option.isNone = false) : PsR K H xs (os.filterMap id) := by
  induction h with
  | nil => exact .nil
  | cons a _ ih =>
    rename_i x o xs' os' _
    rw [List.any_cons, Bool.or_eq_false_iff] at hn
    cases o with
    | none => cases hn.1
    | some p => exact .cons a (ih hn.2)
theorem grp_hd {ws : List (List Nat)} {g : List (List Nat)} (h : g ∈ grpL ws) : g ≠ [] := by
  have key : ∀ (ws : List (List Nat)) (gs : List (List (List Nat))), (∀ g ∈ gs, g ≠ []) → ∀ g ∈ ws.foldl stepG gs, g ≠ [] := by
    intro ws
    induction ws with
    | nil => intro gs h g hg; exact h g hg
    | cons w r ih =>
      intro gs h g hg
      refine ih (stepG gs w) (fun g' hg' => ?_) g hg
      unfold stepG at hg'
      split at hg'
      · rcases List.mem_append.mp hg' with e | e
        · exact h g' e
        · rw [List.mem_singleton.mp e]; simp
      · rcases putLast_mem hg' with e | ⟨g0, h0, e⟩
        · exact h g' e
        · rw [e]; simp
  exact key ws [] (fun g hg => by cases hg) g h
theorem grp_words {ws : List (List Nat)} {g : List (List Nat)} (h : g ∈ grpL ws) : ∀ l ∈ g, l ∈ ws := by
  have key : ∀ (ws : List (List Nat)) (gs : List (List (List Nat))) (X : List Nat → Prop), (∀ g ∈ gs, ∀ l ∈ g, X l) → (∀ l ∈ ws, X l) → ∀ g ∈ ws.foldl stepG gs, ∀ l ∈ g, X l := by
    intro ws
    induction ws with
    | nil => intro gs X h _ g hg; exact h g hg
    | cons w r ih =>
      intro gs X h hw g hg
      refine ih (stepG gs w) X (fun g' hg' => ?_) (fun l hl => hw l (List.mem_cons_of_mem _ hl)) g hg
      unfold stepG at hg'
      split at hg'
      · rcases List.mem_append.mp hg' with e | e
        · exact h g' e
        · rw [List.mem_singleton.mp e]
          intro l hl
          rw [List.mem_singleton.mp hl]; exact hw w (by simp)
      · rcases putLast_mem hg' with e | ⟨g0, h0, e⟩
        · exact h g' e
        · rw [e]
          intro l hl
          rcases List.mem_append.mp hl with hl | hl
          · exact h g0 h0 l hl
          · rw [List.mem_singleton.mp hl]; exact hw w (by simp)
  exact key ws [] (fun l => l ∈ ws) (fun g hg => by cases hg) (fun l hl => hl) g h
theorem cut_one (l : List Nat) (g : List (List Nat)) : cutV (vs (l :: g)) (some 1) none = vs g := by
  unfold cutV
  have e1 : HT.sIx (vs (l :: g)).length 0 (some 1) = 1 := by
    show (if (1 : Int) < 0 then ((1 : Int) + ((vs (l :: g)).length : Nat)).toNat else min (1 : Int).toNat (vs (l :: g)).length) = _
    rw [if_neg (by decide), List.length_map, List.length_cons]; show min 1 _ = 1; omega
  have e2 : HT.sIx (vs (l :: g)).length (vs (l :: g)).length none = (vs (l :: g)).length := rfl
  rw [e1, e2]
  show (vs g).take ((vs g).length + 1 - 1) = vs g
  rw [Nat.add_sub_cancel, List.take_length]
theorem lastN_mem {ws : List (List Nat)} {z : Str} (h : lastN ws = some z) : ∃ l ∈ ws, z = S l ∧ nameB z = true := by
  unfold lastN at h
  cases e : ws.getLast? with
  | none => rw [e] at h; cases h
  | some l =>
    rw [e] at h
    have h : (if nameB (S l) = true then some (S l) else none) = some z := h
    by_cases hb : nameB (S l) = true
    · rw [if_pos hb] at h; cases h; exact ⟨l, List.mem_of_getLast? e, rfl, hb⟩
    · rw [if_neg hb] at h; cases h
theorem partB_name {sg : List Nat} {ws : List (List Nat)} {p : Part} {z : Str} (h : partB sg ws = some p) (hz : p.2 = some z) : ∃ l ∈ ws, z = S l ∧ nameB z = true := by
  have : p.2 = lastN ws := by
    unfold partB at h
    split at h
    · cases h; rfl
    · split at h
      · cases h
      · split at h
        · cases h
        · cases h; rfl
  exact lastN_mem (this ▸ hz)
theorem paired_at {α β : Type} {R : α → β → Prop} {as : List α} {bs : List β} (h : Paired R as bs) : ∀ {i : Nat} {a : α}, as[i]? = some a → ∃ b, bs[i]? = some b ∧ R a b := by
  induction h with
  | nil => intro i x e; simp at e
  | cons r _ ih =>
    intro i x e
    cases i with
    | zero => cases e; exact ⟨_, rfl, r⟩
    | succ j => exact ih e
theorem mem_joinL {sep : List Nat} {c : Nat} : ∀ {ps : List (List Nat)} {p : List Nat}, p ∈ ps → c ∈ p → c ∈ joinL sep ps
  | [x], p, h, k => by rw [List.mem_singleton.mp h] at k; exact k
  | x :: y :: r, p, h, k => by
    show c ∈ x ++ sep ++ joinL sep (y :: r)
    rcases List.mem_cons.mp h with e | e
    · subst e; simp [k]
    · have := mem_joinL (sep := sep) e k; simp [this]
theorem len_joinL {sep : List Nat} : ∀ {ps : List (List Nat)} {p : List Nat}, p ∈ ps → p.length ≤ (joinL sep ps).length
  | [x], p, h => by rw [List.mem_singleton.mp h]; exact Nat.le_refl _
  | x :: y :: r, p, h => by
    show p.length ≤ (x ++ sep ++ joinL sep (y :: r)).length
    rw [List.length_append, List.length_append]
    rcases List.mem_cons.mp h with e | e
    · subst e; omega
    · have := len_joinL (sep := sep) e; omega
theorem split_fine {n : Nat} {z : Str} (h : Fine n z) {p : List Nat} (hp : p ∈ splitL (cd z)) : Fine n (S p) := by
  have e := splitL_join (cd z)
  refine ⟨?_, fun c hc => ?_⟩
  · have h1 := len_joinL (sep := [32]) hp
    rw [e] at h1
    have := h.len
    rw [len_S]; rw [len_cd] at this; omega
  · rw [cd_S] at hc
    have h1 := mem_joinL (sep := [32]) hp hc
    rw [e] at h1
    exact h.cod c h1
section
variable {P : Program} {w : World} {K : PySem.W.Frag} {mg : Str → Option Value} {base : Heap} {A : Adr}
theorem ok_are_parts (T : Txt K mg A) : FnOk P w K mg base CX0 3 A.f_are_parts A.d_are_parts ["parts"] (spAre K) := by
  have G_are_unlike_names := ok_unlike (P := P) (w := w) (base := base) T
  refine T.F_are_parts.ok sc_are_parts (fun vs H Q E h => ?_) (fun cdv A0 outer s H vs' Q E hr h => ?_)
  · obtain ⟨pl, xs, os, rfl, _⟩ := h
    rfl
  obtain ⟨pl, xs, os, rfl, hq, hp, hl, hf, q⟩ := h
  refine ⟨_, (pss_cons (ps_if (PW.pt (pw_or (pt_cmpR (op_inN (hu20 hr)) pe_non (pv 0) (by rfl)) (pw_or1 (pt_cmpR op_gt (pe_callB call_len_seq (by rfl) T.n_len PySem.boot_len (pa_cons (pv 0) pa_nil)) (pe_gv rfl T.g_MOST_PARTS) (nomark _))))) (pss_one (ps_ret pe_bl)) pss_nil)
      (pss_one (ps_ret (pe_call G_are_unlike_names (hr.mono (by decide)) rfl T.m_are_unlike_names T.k_are_unlike_names T.b_are_unlike_names .nil pass0 (pa_cons (pe_compT (compOk2_of (compOk_of (x := "times") (M := ["parts"]) rfl (by rfl)) (by rfl) (by decide +kernel)) rfl (pi_list (pv 0)) (fun _ _ _ _ => (pifs_one (pt_cmpR op_notN (pv 1) pe_non (nomark _)))) (fun _ _ _ _ => (pv 1))) pa_nil))))), ?_⟩
  refine ⟨_, rfl, pl, xs, rfl, rfl, hq, op_mem hp, _, rfl, ?_⟩
  rw [op_any hp]
  cases hn : os.any Option.isNone with
  | true =>
    have e : partsB os = false := by unfold partsB; rw [hn]; rfl
    rw [e] at q
    exact iteT (iteT (q _ (Same.refl _)))
  | false =>
    refine iteF ⟨_, rfl, pl, xs, rfl, .inl hq, _, _, rfl, rfl, _, rfl, ?_⟩
    rw [paired_len hp]
    refine ite2 (fun c => ?_) (fun c => ?_)
    · have c' : (12 : Int) < os.length := of_decide_eq_true c
      have e : partsB os = false := by unfold partsB; rw [hn, decide_eq_false (by omega)]; rfl
      rw [e] at q
      exact q _ (Same.refl _)
    · have c' : ¬ (12 : Int) < os.length := fun z => c (decide_eq_true z)
      have e : partsB os = unlikeB ((namesOf os).map V.str) := by unfold partsB; rw [hn, decide_eq_true (by omega)]; rfl
      rw [e] at q
      refine ⟨_, rfl, pl, rfl, ⟨_, hq⟩, ?_⟩
      refine comp_listT (xs := xs) (small_of (m := 1000) (by rw [paired_len hp]; exact hl)) (fun i ys H' => H = H' ∧ ys = (namesOf (os.take i)).map V.str) ⟨rfl, rfl⟩ (fun i ys H' hw => hw.1 ▸ hq) (fun i x ys H' hx hl' hw => ?_) (fun ys H' hw p2 hp2 => ?_)
      · obtain ⟨rfl, rfl⟩ := hw
        obtain ⟨o, ho, hop⟩ := op_at hp hx
        have et : namesOf (os.take (i + 1)) = namesOf (os.take i) ++ namesOf [o] := by
          unfold namesOf; rw [List.take_succ, ho, List.filterMap_append]; rfl
        cases o with
        | none =>
          exfalso
          have := List.any_eq_false.mp hn none (List.mem_of_getElem? ho)
          exact this rfl
        | some p =>
          obtain ⟨a, rfl, ha⟩ := hop
          refine ⟨a, _, _, rfl, ha, _, rfl, rfl, _, rfl, ?_⟩
          obtain ⟨t, n⟩ := p
          cases n with
          | none => exact iteF ⟨rfl, by rw [et]; show _ = (namesOf (os.take i) ++ []).map V.str; rw [List.append_nil]⟩
          | some z => exact iteT ⟨_, rfl, rfl, by rw [et, List.map_append]; rfl⟩
      · obtain ⟨rfl, rfl⟩ := hw
        rw [show xs.length = os.length from paired_len hp, List.take_length]
        have hnl : (namesOf os).length ≤ os.length := List.length_filterMap_le _ _
        refine ⟨p2, _, rfl, SqL.of upd_same, by rw [List.length_map]; omega, fun y hy => ?_, fun H' s' => q _ ((same_new hp2 _).trans s')⟩
        obtain ⟨z, hz, rfl⟩ := List.mem_map.mp hy
        obtain ⟨o, ho, e⟩ := List.mem_filterMap.mp hz
        cases o with
        | none => cases e
        | some p => exact ⟨⟨thStr T _ _, trivial⟩, fun z' e' => by cases e'; exact hf p ho z e⟩
theorem ok_read_sum (T : Txt K mg A) : FnOk P w K mg base (CXW P w) 5 A.f_read_sum A.d_read_sum ["text"] (spReadSum K A) := by
  have G_parted_at_signs := ok_parted (P := P) (w := w) (base := base) T
  have G_part_or_none := ok_part (P := P) (w := w) (base := base) T
  have G_are_parts := ok_are_parts (P := P) (w := w) (base := base) T
  refine T.F_read_sum.okX sc_read_sum (fun vs H Q E h => ?_) (fun cdv A0 outer s H vs' Q E hr h => ?_)
  · obtain ⟨x, rfl, _⟩ := h
    rfl
  obtain ⟨x, rfl, h⟩ := h
  refine ⟨_, (pss_cons (ps_if (pt_not (pt_val (pe_callB call_isi (by rfl) T.n_isinstance Bt.isinstance (pa_cons (pv 0) (pa_cons (pe_bltn (v := .ty "str") rfl T.n_str Bt.str rfl) pa_nil))))) (pss_one (ps_raise T.m_NoSum T.x_NoSum (pa_cons pe_str pa_nil) rfl)) pss_nil)
      (pss_cons (ps_set (i := 1) sc_read_sum.nd rfl (by first | exact Or.inl rfl | exact Or.inr rfl) (pe_bm PySem.F.plainAttrs_str PySem.F.slot_str_split PySem.F.type_str_split mt_split (pv 0) (pa_cons pe_str pa_nil)))
      (pss_cons (ps_set (i := 2) sc_read_sum.nd rfl (by first | exact Or.inl rfl | exact Or.inr rfl) (pe_ifExp (pt_cmpR op_eq (pe_ix ix_list (pv 1) pe_int (fun _ _ => rfl)) pe_str (nomark _)) (pv 1) (pe_op op_cat (pe_lst (pa_cons pe_str pa_nil)) (pv 1))))
      (pss_cons (ps_compR (i := 3) sc_read_sum.nd rfl (by first | exact Or.inl rfl | exact Or.inr rfl) (compOk_of (x := "group") (M := ["text", "words", "signed", "parts"]) rfl (by rfl)) rfl (pi_list (pe_call G_parted_at_signs (hr.mono (by decide)) rfl T.m_parted_at_signs T.k_parted_at_signs T.b_parted_at_signs .nil pass0 (pa_cons (pv 2) pa_nil))) (fun _ _ _ _ => pe_eqv (by exact (pe_call G_part_or_none (hr.mono (by decide)) rfl T.m_part_or_none T.k_part_or_none T.b_part_or_none .nil pass0 (pa_cons (pe_ix ix_list (pv 0) pe_int (fun _ _ => rfl)) (pa_cons (pe_slice sl_list (pv 0) (po_some pe_int) po_none) pa_nil)))) (by dsimp only [compCx] <;> rfl)))
      (pss_cons (ps_if (pt_not (pt_val (pe_call G_are_parts (hr.mono (by decide)) rfl T.m_are_parts T.k_are_parts T.b_are_parts .nil pass0 (pa_cons (pv 3) pa_nil)))) (pss_one (ps_raise T.m_NoSum T.x_NoSum (pa_cons (pe_fstrR (pv 0)) pa_nil) rfl)) pss_nil)
      (pss_one (ps_ret (pv 3)))))))), ?_⟩
  rcases h with ⟨z, rfl, hz, qs, qn⟩ | ⟨t, ty, kt, q⟩
  · refine ⟨_, rfl, _, _, _, _, rfl, rfl, .old (.str z), T.i_str_str, _, rfl, iteF ?_⟩
    refine ⟨_, rfl, rfl, z, _, rfl, rfl, (by decide +kernel), Nat.le_trans hz.len (by decide), fun l hl => ?_⟩
    have sl := same_new hl (.lst ((Txt.split z (Str.ofString " ")).map V.str))
    have ew : (Txt.split z (Str.ofString " ")).map V.str = vs (splitL (cd z)) := by
      rw [show Str.ofString " " = S [32] by decide +kernel, split_is, List.map_map]; rfl
    rw [ew] at sl ⊢
    have hlw : upd H l (.lst (vs (splitL (cd z)))) l = some (.lst (vs (splitL (cd z)))) := upd_same
    generalize hH1 : upd H l (.lst (vs (splitL (cd z)))) = H1 at sl hlw
    have hne := splitL_ne (cd z)
    have hlen : (splitL (cd z)).length ≤ 993 := by
      unfold splitL
      rw [List.length_map]
      have h1 := PyProof.Rows.split_le (S (cd z)) (S [32])
      rw [S_cd] at h1
      have := hz.len
      rw [S_cd]
      omega
    have hfw : ∀ w' ∈ splitL (cd z), Fine 1000 (S w') := fun w' hw' => (split_fine hz hw').mono (by decide)
    have hsg : ∃ w ws, signedL (splitL (cd z)) = w :: ws ∧ (w = [43] ∨ w = [45]) ∧ ws.length ≤ 993 ∧ ∀ l ∈ w :: ws, Fine 1000 (S l) := by
      unfold signedL
      by_cases e : (splitL (cd z)).head? = some [45]
      · rw [if_pos e]
        cases hs : splitL (cd z) with
        | nil => exact absurd hs hne
        | cons a r =>
          rw [hs] at e hlen hfw
          exact ⟨a, r, rfl, .inr (by simpa using e), by rw [List.length_cons] at hlen; omega, hfw⟩
      · rw [if_neg e]
        refine ⟨[43], _, rfl, .inl rfl, by omega, fun l hl => ?_⟩
        rcases List.mem_cons.mp hl with e | e
        · rw [e]; exact ⟨by decide, by rw [cd_S]; decide⟩
        · exact hfw l e
    dsimp only [gName]
    refine seq_mid (fun σ' H2 => ∃ pg, σ' = [some (.str z), some (.ref l), some (.ref pg), none] ∧ Same H H2 ∧ SqL K H2 pg (vs (signedL (splitL (cd z))))) ?k1 ?m1
    case m1 =>
      intro key
      obtain ⟨w0, r0, e0⟩ : ∃ w0 r0, splitL (cd z) = w0 :: r0 := by
        cases hs : splitL (cd z) with
        | nil => exact absurd hs hne
        | cons a r => exact ⟨a, r, rfl⟩
      have hat : atI (vs (splitL (cd z))) ((0 : Nat) : Int) = some (.str (S w0)) := by rw [e0]; exact atI_nat rfl
      refine ⟨_, rfl, l, _, _, _, rfl, rfl, SqL.of hlw, hat, rfl, _, rfl, ?_⟩
      rw [sg_eq]
      refine ite2 (fun c => ?_) (fun c => ?_)
      · have e : signedL (splitL (cd z)) = splitL (cd z) := by unfold signedL; rw [if_pos (by rw [e0, of_decide_eq_true c]; rfl)]
        exact ⟨_, rfl, key _ _ ⟨l, rfl, sl, by rw [e]; exact SqL.of hlw⟩⟩
      · have e : signedL (splitL (cd z)) = [43] :: splitL (cd z) := by
          unfold signedL
          rw [if_neg]
          intro h
          rw [e0] at h
          exact c (decide_eq_true (by simpa using h))
        refine ⟨(by show 1 ≤ sizeLine; decide), fun p hp => ⟨_, rfl, p, l, _, _, rfl, rfl, upd_same, same_new hp _ _ _ hlw, ?_, fun p2 hp2 => ?_⟩⟩
        · have := small_of (n := 1000) (m := 1000) (Nat.le_refl _)
          rw [List.length_map]; show 1 + _ ≤ _; omega
        · refine key _ _ ⟨p2, rfl, sl.trans ((same_new hp _).trans (same_new hp2 _)), ?_⟩
          rw [e]
          refine SqL.of ?_
          rw [upd_same, show Str.ofString "+" = S [43] by decide +kernel]
          rfl
    case k1 =>
      rintro σ' H2 ⟨pg, rfl, s2, hq⟩
      obtain ⟨w, ws, esg, hs, hwl, hwf⟩ := hsg
      have eo : optsB (cd z) = (grpL (w :: ws)).map fun g => partB (g.headD []) g.tail := by unfold optsB; rw [esg]
      rw [esg] at hq
      refine ⟨_, rfl, pg, w, ws, rfl, hq, hs, by omega, fun pgs as H3 s3 hg hp => ?_⟩
      refine ⟨pgs, rfl, ⟨_, SqL.of hg⟩, ?_⟩
      have hgl := grp_len (w :: ws)
      rw [List.length_cons] at hgl
      have hal := paired_len hp
      refine comp_listR (xs := as.map V.ref) (small_of (m := 1001) (by rw [List.length_map]; omega)) (fun i ys H' => Same H3 H' ∧ Paired (OP K H') ys (((grpL (w :: ws)).take i).map fun g => partB (g.headD []) g.tail)) ⟨Same.refl _, .nil⟩ (fun i ys H' hw => SqL.of (hw.1 _ _ hg)) (fun i x ys H' hx hl' hw => ?_) (fun ys H' hl' hw pr hpr => ?_)
      · obtain ⟨sH, hpp⟩ := hw
        obtain ⟨a, hai, rfl⟩ := map_get hx
        obtain ⟨g, hgi, hga⟩ := paired_at hp hai
        have hgm := List.mem_of_getElem? hgi
        have hga' : H' a = some (.lst (vs g)) := sH _ _ hga
        obtain ⟨l0, g', eg⟩ : ∃ l0 g', g = l0 :: g' := by
          cases hgg : g with
          | nil => exact absurd hgg (grp_hd hgm)
          | cons l0 g' => exact ⟨l0, g', rfl⟩
        subst eg
        have hgl2 := grp_mem hgm
        rw [List.length_cons, List.length_cons] at hgl2
        have hat0 : atI (vs (l0 :: g')) ((0 : Nat) : Int) = some (.str (S l0)) := atI_nat rfl
        refine ⟨_, rfl, a, _, _, _, rfl, rfl, SqL.of hga', hat0, ?_⟩
        refine ⟨_, rfl, _, rfl, a, _, rfl, SqL.of hga', fun pc hpc => ?_⟩
        rw [cut_one]
        refine ⟨l0, pc, g', rfl, SqL.of upd_same, fun l hl => hwf l (grp_words hgm l (List.mem_cons_of_mem _ hl)), by omega, fun x' H4 s4 ho => ?_⟩
        have s34 := (same_new hpc (.lst (vs g'))).trans s4
        refine ⟨sH.trans s34, ?_⟩
        rw [List.take_succ, hgi, List.map_append]
        exact paired_app (op_same s34 hpp) (.cons ho .nil)
      · obtain ⟨sH, hpp⟩ := hw
        rw [List.length_map, hal, List.take_length, ← eo] at hpp
        have sp := same_new hpr (.lst ys)
        have sA := s2.trans (s3.trans (sH.trans sp))
        have hpp' := op_same sp hpp
        refine ⟨_, rfl, pr, ys, _, rfl, SqL.of upd_same, hpp', ?_, ?_, fun H5 s5 => ⟨_, rfl, ?_⟩⟩
        · rw [eo, List.length_map]; omega
        · intro p hpm z' hz'
          rw [eo] at hpm
          obtain ⟨g, hgm, eg⟩ := List.mem_map.mp hpm
          obtain ⟨l', hl1, e1, _⟩ := partB_name eg hz'
          rw [e1]
          exact hwf l' (grp_words hgm l' (List.mem_of_mem_tail hl1))
        cases hB : partsB (optsB (cd z)) with
        | true =>
          have hn : (optsB (cd z)).any Option.isNone = false := by
            unfold partsB at hB
            simp only [Bool.and_eq_true] at hB
            simpa using hB.1.1
          have hpr0 : H pr = none := by
            cases e : H pr with
            | none => rfl
            | some o => rw [s2.trans (s3.trans sH) pr o e] at hpr; cases hpr
          refine iteF ⟨_, rfl, qs _ (if_pos hB) pr ys _ (sA.trans s5) hpr0 (s5 _ _ upd_same) ?_⟩
          exact PsR.same s5 (op_some hpp' hn)
        | false =>
          exact iteT ⟨_, rfl, z, rfl, Nat.le_trans hz.len (by decide), hz.cod, fun y => ⟨(by show 1 ≤ sizeLine; decide), qn (if_neg (by rw [hB]; decide)) _ (sA.trans s5)⟩⟩
  · refine ⟨_, rfl, _, _, _, _, rfl, rfl, ty, kt, _, rfl, iteT ?_⟩
    exact ⟨(by show 1 ≤ sizeLine; decide), q _ (Same.refl _)⟩
end
end K12
set_option maxHeartbeats 1000000
namespace K12
open PySem L2
seal PE PT PW PA PS PSs PG PGs PI PO PSet OpR UnR CallR TruR IxR SlR PC PPs
local macro_rules | `(tactic| walk_at "rd1") => `(tactic| first
  | (refine And.intro rfl ?_)
  | (refine And.intro (by assumption) ?_)
  | (refine And.intro (fun _ e => e) ?_)
  | (refine And.intro (TyOf.str _) ?_) | (refine And.intro (TyOf.int _) ?_) | (refine And.intro (TyOf.bl _) ?_) | (refine And.intro TyOf.non ?_)
  | (refine iteT ?_) | (refine iteF ?_)
  | (apply Exists.intro))
local macro_rules | `(tactic| walk_at "rd") => `(tactic| repeat (walk_at "rd1"))

def sgnL (p : Part) : List Nat := if p.1 < 0 then [45] else [43]
def partW : Part → List (List Nat)
  | (t, none) => [dig t.natAbs]
  | (t, some z) => if t.natAbs = 1 then [cd z] else [dig t.natAbs, cd z]
def wg : Nat → List Part → List (List (List Nat))
  | _, [] => []
  | k, p :: r => (if p.1 < 0 then [[[45]]] else if 0 < k then [[[43]]] else []) ++ [partW p] ++ wg (k + 1) r
theorem partW_join (p : Part) : joinL [32] (partW p) = partS p := by
  obtain ⟨t, n⟩ := p
  cases n with
  | none => rfl
  | some z =>
    show joinL [32] (if t.natAbs = 1 then [cd z] else [dig t.natAbs, cd z]) = if t.natAbs = 1 then cd z else dig t.natAbs ++ [32] ++ cd z
    split <;> rfl
theorem wg_map : ∀ (ps : List Part) (k : Nat), elems k ps = (wg k ps).map (joinL [32])
  | [], _ => rfl
  | p :: r, k => by
    show (if p.1 < 0 then [[45]] else if 0 < k then [[43]] else []) ++ [partS p] ++ elems (k + 1) r = ((if p.1 < 0 then [[[45]]] else if 0 < k then [[[43]]] else []) ++ [partW p] ++ wg (k + 1) r).map (joinL [32])
    rw [List.map_append, List.map_append, wg_map r (k + 1), List.map_singleton, partW_join]
    congr 2
    split
    · rfl
    · split <;> rfl
theorem joinL_app {sep : List Nat} : ∀ {a b : List (List Nat)}, a ≠ [] → b ≠ [] → joinL sep (a ++ b) = joinL sep a ++ sep ++ joinL sep b
  | [], _, h, _ => absurd rfl h
  | [x], y :: r, _, _ => rfl
  | [x], [], _, h => absurd rfl h
  | x :: y :: r, b, _, hb => by
    show x ++ sep ++ joinL sep ((y :: r) ++ b) = (x ++ sep ++ joinL sep (y :: r)) ++ sep ++ joinL sep b
    rw [joinL_app (by simp) hb]
    simp [List.append_assoc]
theorem joinL_flat {sep : List Nat} : ∀ {L : List (List (List Nat))}, (∀ x ∈ L, x ≠ []) → joinL sep (L.map (joinL sep)) = joinL sep L.flatten
  | [], _ => rfl
  | [x], _ => by show joinL sep x = joinL sep (x ++ []); rw [List.append_nil]
  | x :: y :: r, h => by
    have ih := joinL_flat (sep := sep) (L := y :: r) fun z hz => h z (List.mem_cons_of_mem _ hz)
    show joinL sep x ++ sep ++ joinL sep ((y :: r).map (joinL sep)) = joinL sep (x ++ (y :: r).flatten)
    rw [ih, joinL_app (h x (by simp))]
    show y ++ r.flatten ≠ []
    intro e
    exact h y (by simp) (List.append_eq_nil_iff.mp e).1
theorem partW_ne (p : Part) : partW p ≠ [] := by
  obtain ⟨t, n⟩ := p
  cases n with
  | none => simp [partW]
  | some z => show (if t.natAbs = 1 then [cd z] else [dig t.natAbs, cd z]) ≠ []; split <;> simp
theorem wg_ne : ∀ (ps : List Part) (k : Nat), ∀ x ∈ wg k ps, x ≠ []
  | p :: r, k, x, h => by
    have h' : x ∈ (if p.1 < 0 then [[[45]]] else if 0 < k then [[[43]]] else []) ++ [partW p] ++ wg (k + 1) r := h
    rcases List.mem_append.mp h' with h' | h'
    · rcases List.mem_append.mp h' with h' | h'
      · split at h'
        · rw [List.mem_singleton.mp h']; simp
        · split at h'
          · rw [List.mem_singleton.mp h']; simp
          · cases h'
      · rw [List.mem_singleton.mp h']; exact partW_ne p
    · exact wg_ne r (k + 1) x h'
def SG (ps : List Part) : List (List Nat) := (ps.map fun p => sgnL p :: partW p).flatten
theorem wg_flat : ∀ (ps : List Part) (k : Nat), 0 < k → (wg k ps).flatten = SG ps
  | [], _, _ => rfl
  | p :: r, k, hk => by
    show ((if p.1 < 0 then [[[45]]] else if 0 < k then [[[43]]] else []) ++ [partW p] ++ wg (k + 1) r).flatten = (sgnL p :: partW p) ++ SG r
    rw [List.flatten_append, List.flatten_append, wg_flat r (k + 1) (Nat.succ_pos k), if_pos hk]
    unfold sgnL
    split <;> simp
/-- the words of a good part: figures or a name -/
theorem word_of {p : Part} (h : PGood p) {l : List Nat} (hl : l ∈ partW p) : l = dig p.1.natAbs ∨ ∃ z, p.2 = some z ∧ l = cd z := by
  obtain ⟨t, n⟩ := p
  cases n with
  | none => exact .inl (List.mem_singleton.mp hl)
  | some z =>
    have hl' : l ∈ (if t.natAbs = 1 then [cd z] else [dig t.natAbs, cd z]) := hl
    split at hl'
    · exact .inr ⟨z, rfl, List.mem_singleton.mp hl'⟩
    · simp only [List.mem_cons, List.not_mem_nil, or_false] at hl'
      rcases hl' with e | e
      · exact .inl e
      · exact .inr ⟨z, rfl, e⟩
theorem word_ch {p : Part} (h : PGood p) {l : List Nat} (hl : l ∈ partW p) : l ≠ [] ∧ ∀ c ∈ l, (48 ≤ c ∧ c ≤ 57) ∨ (97 ≤ c ∧ c ≤ 122) := by
  rcases word_of h hl with e | ⟨z, ez, e⟩
  · subst e
    refine ⟨fun e => ?_, fun c hc => .inl (dig_fig hc)⟩
    have := dig_pos p.1.natAbs
    rw [e] at this
    exact absurd this (by decide)
  · subst e
    have hn := name_let (h.2 z ez).1
    exact ⟨fun e => by have := hn.2.1; rw [len_cd, e] at this; exact absurd this (by decide), fun c hc => .inr (hn.2.2 c hc)⟩
theorem word_no {p : Part} (h : PGood p) {l : List Nat} (hl : l ∈ partW p) : 32 ∉ l ∧ ¬ (l = [43] ∨ l = [45]) := by
  obtain ⟨_, hc⟩ := word_ch h hl
  refine ⟨fun e => by have := hc 32 e; omega, ?_⟩
  rintro (e | e)
  · have := hc 43 (by rw [e]; simp); omega
  · have := hc 45 (by rw [e]; simp); omega
theorem sg_words {ps : List Part} (h : ∀ p ∈ ps, PGood p) : ∀ l ∈ SG ps, 32 ∉ l := by
  intro l hl
  unfold SG at hl
  obtain ⟨g, hg, hl⟩ := List.mem_flatten.mp hl
  obtain ⟨p, hp, rfl⟩ := List.mem_map.mp hg
  rcases List.mem_cons.mp hl with e | e
  · rw [e]; unfold sgnL; split <;> decide
  · exact (word_no (h p hp) e).1
theorem fold_words : ∀ (ws : List (List Nat)) (gs : List (List (List Nat))) (g : List (List Nat)), (∀ l ∈ ws, ¬ (l = [43] ∨ l = [45])) → ws.foldl stepG (gs ++ [g]) = gs ++ [g ++ ws]
  | [], gs, g, _ => by rw [List.append_nil]; rfl
  | w :: r, gs, g, h => by
    show r.foldl stepG (stepG (gs ++ [g]) w) = _
    have e : stepG (gs ++ [g]) w = gs ++ [g ++ [w]] := by
      unfold stepG
      rw [if_neg (h w (by simp)), putLast_snoc]
    rw [e, fold_words r gs (g ++ [w]) fun l hl => h l (List.mem_cons_of_mem _ hl), List.append_assoc]
    rfl
theorem grp_sg : ∀ (ps : List Part), (∀ p ∈ ps, PGood p) → ∀ gs, (SG ps).foldl stepG gs = gs ++ ps.map fun p => sgnL p :: partW p
  | [], _, gs => by rw [List.map_nil, List.append_nil]; rfl
  | p :: r, h, gs => by
    show ((sgnL p :: partW p) ++ SG r).foldl stepG gs = _
    rw [List.foldl_append]
    have e1 : stepG gs (sgnL p) = gs ++ [[sgnL p]] := by
      unfold stepG
      rw [if_pos]
      unfold sgnL
      split
      · exact .inr rfl
      · exact .inl rfl
    have e2 : (sgnL p :: partW p).foldl stepG gs = gs ++ [sgnL p :: partW p] := by
      show (partW p).foldl stepG (stepG gs (sgnL p)) = _
      rw [e1, fold_words _ _ _ fun l hl => (word_no (h p (by simp)) hl).2]
      rfl
    rw [e2, grp_sg r (fun q hq => h q (List.mem_cons_of_mem _ hq)), List.append_assoc]
    rfl
theorem dig_no_name (m : Nat) : nameB (S (dig m)) = false := by
  cases hb : nameB (S (dig m)) with
  | false => rfl
  | true =>
    exfalso
    have hn := name_let hb
    have hp := dig_pos m
    cases e : dig m with
    | nil => rw [e] at hp; cases hp
    | cons c r =>
      have h1 := dig_fig (n := m) (c := c) (by rw [e]; simp)
      have h2 := hn.2.2 c (by rw [cd_S, e]; simp)
      omega
theorem num_abs {m : Nat} (h : m < 10 ^ 60) : numB (dig m) 60 = some (m : Int) := by
  have := numB_str (i := (m : Int)) (by omega)
  unfold numL at this
  rw [if_neg (by omega)] at this
  exact this
theorem part_round {p : Part} (h : PGood p) : partB (sgnL p) (partW p) = some p := by
  obtain ⟨t, n⟩ := p
  have ht : t.natAbs < 10 ^ 60 := h.1
  have eone : oneN (sgnL (t, n)) * (t.natAbs : Int) = t := by
    show oneN (if t < 0 then [45] else [43]) * _ = t
    by_cases c : t < 0
    · rw [if_pos c]; show (if ([45] : List Nat) = [45] then (-1 : Int) else 1) * _ = t; rw [if_pos rfl]; omega
    · rw [if_neg c]; show (if ([43] : List Nat) = [45] then (-1 : Int) else 1) * _ = t; rw [if_neg (by decide)]; omega
  cases n with
  | none =>
    have hl : lastN [dig t.natAbs] = none := by
      show (if nameB (S (dig t.natAbs)) = true then some (S (dig t.natAbs)) else none) = none
      rw [dig_no_name]; rfl
    have hnu : numsN [dig t.natAbs] = [dig t.natAbs] := by unfold numsN; rw [hl]; rfl
    show partB (sgnL (t, none)) [dig t.natAbs] = _
    unfold partB
    rw [hl, hnu, if_neg (by intro z; cases z.1)]
    show (match numB (dig t.natAbs) 60 with | none => none | some m => if m < least (sgnL (t, none)) none then none else some (oneN (sgnL (t, none)) * m, none)) = _
    rw [num_abs ht]
    have hle : ¬ (t.natAbs : Int) < least (sgnL (t, none)) none := by
      show ¬ (t.natAbs : Int) < (if (if t < 0 then [45] else [43]) = ([45] : List Nat) then 1 else 0)
      by_cases c : t < 0
      · rw [if_pos c, if_pos rfl]; omega
      · rw [if_neg c, if_neg (by decide)]; omega
    show (if (t.natAbs : Int) < least (sgnL (t, none)) none then none else some (oneN (sgnL (t, none)) * (t.natAbs : Int), none)) = _
    rw [if_neg hle, eone]
  | some z =>
    obtain ⟨hz, h0⟩ := h.2 z rfl
    have h0' : t ≠ 0 := h0
    by_cases c1 : t.natAbs = 1
    · have e : partW (t, some z) = [cd z] := if_pos c1
      rw [e]
      have hl : lastN [cd z] = some z := by
        show (if nameB (S (cd z)) = true then some (S (cd z)) else none) = some z
        rw [S_cd, if_pos hz]
      have hnu : numsN [cd z] = [] := by unfold numsN; rw [hl]; rfl
      unfold partB
      rw [hl, hnu, if_pos ⟨rfl, rfl⟩]
      have e1 : oneN (sgnL (t, some z)) = t := by
        have := eone
        rw [c1] at this
        simpa using this
      rw [e1]
    · have e : partW (t, some z) = [dig t.natAbs, cd z] := if_neg c1
      rw [e]
      have hl : lastN [dig t.natAbs, cd z] = some z := by
        show (if nameB (S (cd z)) = true then some (S (cd z)) else none) = some z
        rw [S_cd, if_pos hz]
      have hnu : numsN [dig t.natAbs, cd z] = [dig t.natAbs] := by unfold numsN; rw [hl]; rfl
      unfold partB
      rw [hl, hnu, if_neg (by intro z; exact absurd z.2 (by simp))]
      show (match numB (dig t.natAbs) 60 with | none => none | some m => if m < least (sgnL (t, some z)) (some z) then none else some (oneN (sgnL (t, some z)) * m, some z)) = _
      rw [num_abs ht]
      show (if (t.natAbs : Int) < 2 then none else some (oneN (sgnL (t, some z)) * (t.natAbs : Int), some z)) = _
      rw [if_neg (by omega), eone]
theorem sum_words {ps : List Part} (hne : ps ≠ []) (h : ∀ p ∈ ps, PGood p) : signedL (splitL (joinL [32] (elems 0 ps))) = SG ps := by
  cases ps with
  | nil => exact absurd rfl hne
  | cons p r =>
    rw [wg_map, joinL_flat (wg_ne _ _)]
    have hp := h p (by simp)
    have ew : (wg 0 (p :: r)).flatten = (if p.1 < 0 then [[45]] else []) ++ partW p ++ SG r := by
      show ((if p.1 < 0 then [[[45]]] else if 0 < 0 then [[[43]]] else []) ++ [partW p] ++ wg 1 r).flatten = _
      rw [List.flatten_append, List.flatten_append, wg_flat r 1 (by decide), if_neg (show ¬ 0 < 0 by decide)]
      split <;> simp
    have hnb : ∀ l ∈ (wg 0 (p :: r)).flatten, 32 ∉ l := by
      rw [ew]
      intro l hl
      rcases List.mem_append.mp hl with e | e
      · rcases List.mem_append.mp e with e | e
        · split at e
          · rw [List.mem_singleton.mp e]; decide
          · cases e
        · exact (word_no hp e).1
      · exact sg_words (fun q hq => h q (List.mem_cons_of_mem _ hq)) l e
    have hwn : (wg 0 (p :: r)).flatten ≠ [] := by
      rw [ew]
      intro e
      have := (List.append_eq_nil_iff.mp (List.append_eq_nil_iff.mp e).1).2
      exact partW_ne p this
    rw [splitL_of hwn hnb, ew]
    show signedL _ = (sgnL p :: partW p) ++ SG r
    unfold signedL sgnL
    by_cases c : p.1 < 0
    · rw [if_pos c, if_pos c]; exact if_pos rfl
    · rw [if_neg c, if_neg c]
      obtain ⟨a, b, eab⟩ : ∃ a b, partW p = a :: b := by
        cases e : partW p with
        | nil => exact absurd e (partW_ne p)
        | cons a b => exact ⟨a, b, rfl⟩
      have ha := (word_no hp (l := a) (by rw [eab]; simp)).2
      rw [eab]
      show (if some a = some [45] then _ else _) = _
      rw [if_neg (fun e => ha (.inr (Option.some.inj e)))]
      rfl
theorem map_some (ps : List Part) : (ps.map some).filterMap id = ps := by
  induction ps with
  | nil => rfl
  | cons a r ih => show a :: (r.map some).filterMap id = _; rw [ih]
theorem names_some (ps : List Part) : namesOf (ps.map some) = ps.filterMap (·.2) := by
  unfold namesOf
  rw [List.filterMap_map]
  rfl
theorem sum_round {ps : List Part} (hne : ps ≠ []) (hl : ps.length ≤ 12) (h : ∀ p ∈ ps, PGood p) (hn : (ps.filterMap (·.2)).Nodup) : sumB (joinL [32] (elems 0 ps)) = some ps := by
  have eo : optsB (joinL [32] (elems 0 ps)) = ps.map some := by
    unfold optsB
    rw [sum_words hne h]
    show (((SG ps).foldl stepG []).map _) = _
    rw [grp_sg ps h [], List.nil_append, List.map_map]
    exact List.map_congr_left fun p hp => part_round (h p hp)
  have hB : partsB (ps.map some) = true := by
    unfold partsB
    have e1 : (ps.map some).any Option.isNone = false := by
      rw [List.any_eq_false]
      intro o ho
      obtain ⟨p, _, rfl⟩ := List.mem_map.mp ho
      intro z; cases z
    rw [e1, List.length_map, decide_eq_true hl, names_some, unlike_strs, decide_eq_true hn, List.all_eq_true.mpr]
    · rfl
    · intro z hz
      obtain ⟨p, hp, e⟩ := List.mem_filterMap.mp hz
      exact ((h p hp).2 z e).1
  unfold sumB
  rw [eo, if_pos hB, map_some]
theorem elems_sum : ∀ (ps : List Part) (k : Nat), (∀ p ∈ ps, PGood p) → ((elems k ps).map List.length).sum ≤ 74 * ps.length
  | [], _, _ => Nat.le_refl _
  | p :: r, k, h => by
    have ih := elems_sum r (k + 1) fun q hq => h q (List.mem_cons_of_mem _ hq)
    have hp := part_len (h p (by simp))
    show (((if p.1 < 0 then [[45]] else if 0 < k then [[43]] else []) ++ [partS p] ++ elems (k + 1) r).map List.length).sum ≤ 74 * (r.length + 1)
    rw [List.map_append, List.map_append, List.sum_append, List.sum_append]
    have h1 : ((if p.1 < 0 then [[45]] else if 0 < k then [[43]] else ([] : List (List Nat))).map List.length).sum ≤ 1 := by split; (exact Nat.le_refl _); split <;> decide
    have h2 : (([partS p] : List (List Nat)).map List.length).sum = (partS p).length := by simp
    omega
theorem joinL_len (sep : List Nat) : ∀ ys : List (List Nat), (joinL sep ys).length ≤ (ys.map List.length).sum + ys.length * sep.length
  | [] => Nat.zero_le _
  | [x] => by show x.length ≤ x.length + 0 + 1 * sep.length; omega
  | x :: y :: r => by
    have := joinL_len sep (y :: r)
    show (x ++ sep ++ joinL sep (y :: r)).length ≤ x.length + ((y :: r).map List.length).sum + ((y :: r).length + 1) * sep.length
    rw [List.length_append, List.length_append, Nat.add_mul]
    omega
theorem mem_join {c : Nat} : ∀ {ps : List (List Nat)}, c ∈ joinL [32] ps → c = 32 ∨ ∃ p ∈ ps, c ∈ p
  | [x], h => .inr ⟨x, by simp, h⟩
  | x :: y :: r, h => by
    have h' : c ∈ x ++ [32] ++ joinL [32] (y :: r) := h
    rcases List.mem_append.mp h' with k | k
    · rcases List.mem_append.mp k with k | k
      · exact .inr ⟨x, by simp, k⟩
      · exact .inl (by simpa using k)
    · rcases mem_join k with e | ⟨p, hp, e⟩
      · exact .inl e
      · exact .inr ⟨p, List.mem_cons_of_mem _ hp, e⟩
theorem part_ch {p : Part} (h : PGood p) : ∀ c ∈ partS p, c < 1000 := by
  intro c hc
  rw [← partW_join] at hc
  rcases mem_join hc with e | ⟨l, hl, e⟩
  · omega
  · have := (word_ch h hl).2 c e; omega
theorem text_fine {ps : List Part} (hl : ps.length ≤ 12) (h : ∀ p ∈ ps, PGood p) : Fine 912 (S (joinL [32] (elems 0 ps))) := by
  refine ⟨?_, fun c hc => ?_⟩
  · rw [len_S]
    have h1 := joinL_len [32] (elems 0 ps)
    have h2 := elems_sum ps 0 h
    have h3 := elems_len ps 0
    rw [show ([32] : List Nat).length = 1 from rfl] at h1
    omega
  · rw [cd_S] at hc
    rcases mem_join hc with e | ⟨l, hl', e⟩
    · omega
    · rcases elems_mem ps 0 hl' with e' | e' | ⟨p, hp, e'⟩
      · rw [e'] at e; have := List.mem_singleton.mp e; omega
      · rw [e'] at e; have := List.mem_singleton.mp e; omega
      · rw [e'] at e; exact part_ch (h p hp) c e
end K12
set_option maxHeartbeats 1000000
namespace K12
open PySem L2
seal PE PT PW PA PS PSs PG PGs PI PO PSet OpR UnR CallR TruR IxR SlR PC PPs
local macro_rules | `(tactic| walk_at "rd1") => `(tactic| first
  | (refine And.intro rfl ?_)
  | (refine And.intro (by assumption) ?_)
  | (refine And.intro (fun _ e => e) ?_)
  | (refine And.intro (TyOf.str _) ?_) | (refine And.intro (TyOf.int _) ?_) | (refine And.intro (TyOf.bl _) ?_) | (refine And.intro TyOf.non ?_)
  | (refine iteT ?_) | (refine iteF ?_)
  | (apply Exists.intro))
local macro_rules | `(tactic| walk_at "rd") => `(tactic| repeat (walk_at "rd1"))

def spCell (K : PySem.W.Frag) : Sp := fun vs H Q _ => ∃ (a : Addr) (ns : List Int) (k : Int), vs = [.ref a, .int k] ∧ SqL K H a (ns.map V.int) ∧ 0 ≤ k ∧ (∀ n ∈ ns, ib n ≤ 1048576) ∧ ∀ n : Int, ib n ≤ 1048576 → Q (.int n) H
def spNames (K : PySem.W.Frag) : Sp := fun vs H Q _ => ∃ (a : Addr) (ns : List Int), vs = [.ref a] ∧ SqL K H a (ns.map V.int) ∧ (∀ n ∈ ns, ib n ≤ 1048576) ∧ ∀ (pn : Addr) (zs : List Str) (H' : Hp), zs.length = 12 → (∀ z ∈ zs, nameB z = true) → Same H H' → H' pn = some (.lst (zs.map V.str)) → Q (.ref pn) H'
def spNumber : Sp := fun vs H Q _ => ∃ n : Int, vs = [.int n] ∧ ib n ≤ 1048576 ∧ ∀ m : Int, m.natAbs < 10 ^ 60 → Q (.int m) H
def spPartL (K : PySem.W.Frag) : Sp := fun vs H Q _ => ∃ (c : Int) (pn pu : Addr) (zs : List Str) (us : List V), vs = [.int c, .ref pn, .ref pu] ∧ ib c ≤ 1048576 ∧ SqL K H pn (zs.map V.str) ∧ zs.length = 12 ∧ (∀ z ∈ zs, nameB z = true) ∧ SqL K H pu us ∧ us.all flatV = true ∧ ∀ x p H', Same H H' → PR K H' x p → PGood p → (∀ z, p.2 = some z → inV (.str z) us = false) → Q x H'
def one (b : List Nat) : List Str := b.map fun c => S [c]
theorem one_sum (b : List Nat) : ((one b).map (·.length)).sum = b.length := by
  induction b with
  | nil => rfl
  | cons c r ih =>
    show (S [c]).length + ((one r).map (·.length)).sum = _
    rw [ih, len_S, List.length_cons, List.length_cons, List.length_nil]; omega
theorem one_join (b : List Nat) : joinS "" (one b) = S b := by
  rw [joinS_is, show cd ("" : Str) = [] by decide +kernel]
  congr 1
  induction b with
  | nil => rfl
  | cons c r ih =>
    cases r with
    | nil => rfl
    | cons d r =>
      show [c] ++ [] ++ joinL [] ((one (d :: r)).map cd) = _
      rw [ih]; rfl
theorem one_map (b : List Nat) : (one b).map V.str = b.map fun c => V.str (S [c]) := by unfold one; rw [List.map_map]; rfl
abbrev KW : List Str := ["and", "each", "end", "is", "not", "or", "unless", "when"]
theorem inV_strs (z : Str) (ws : List Str) : inV (.str z) (ws.map V.str) = decide (z ∈ ws) := by
  unfold inV
  rw [List.any_map, Bool.eq_iff_iff, List.any_eq_true, decide_eq_true_iff]
  constructor
  · rintro ⟨y, hy, e⟩
    have : y = z := eq_of_beq e
    rw [← this]; exact hy
  · intro h; exact ⟨z, h, by show (z == z) = true; exact beq_self_eq_true z⟩
theorem name_of {l : List Nat} (h : l.length ≤ 12 ∧ 1 ≤ l.length ∧ ∀ c ∈ l, 97 ≤ c ∧ c ≤ 122) (k : S l ∉ KW) : nameB (S l) = true := by
  unfold nameB
  have e1 : inV (.str (S l)) kws = false := by
    show inV (.str (S l)) (KW.map V.str) = false
    rw [inV_strs]; exact decide_eq_false k
  have e2 : l.all inL = true := List.all_eq_true.mpr fun c hc => inL_of (h.2.2 c hc)
  rw [e1, len_S, cd_S, e2, decide_eq_true (by omega), decide_eq_true (by omega)]
  rfl
theorem kw_x : ∀ z ∈ KW, nameB (z ++ Str.ofString "x") = true := by decide +kernel
theorem kw_len : ∀ z ∈ KW, z.length ≤ 6 := by decide +kernel
theorem let_at (i : Int) (h0 : 0 ≤ i) (h1 : i < 26) : ∃ c, atI ("abcdefghijklmnopqrstuvwxyz" : Str).cps.toList i = some c ∧ 97 ≤ c ∧ c ≤ 122 := by
  have key : ∀ k : Nat, k < 26 → ("abcdefghijklmnopqrstuvwxyz" : Str).cps.toList[k]? = some (97 + k) := by decide +kernel
  refine ⟨97 + i.toNat, ?_, by omega, by omega⟩
  have := atI_nat (key i.toNat (by omega))
  rw [show ((i.toNat : Nat) : Int) = i by omega] at this
  exact this
theorem repN_mem : ∀ (k : Nat) {c : Nat}, c ∈ repN [101] k → c = 101
  | 0, c, h => by cases h
  | k + 1, c, h => by
    have h' : c ∈ [101] ++ repN [101] k ∨ c ∈ repN [101] k ++ [101] := by first | exact .inl h | exact .inr h
    rcases h' with h' | h' <;> rcases List.mem_append.mp h' with e | e
    · exact List.mem_singleton.mp e
    · exact repN_mem k e
    · exact repN_mem k e
    · exact List.mem_singleton.mp e
theorem ib_k {k : Int} (h0 : 0 ≤ k) (h : k < 100) : ib k ≤ 60000000 := Nat.le_trans (ib_small (by omega) (by omega)) (by decide)
section
variable {P : Program} {w : World} {K : PySem.W.Frag} {mg : Str → Option Value} {base : Heap} {A : Adr}
theorem ok_law_cell_at (T : Txt K mg A) : FnOk P w K mg base CX0 1 A.f_law_cell_at A.d_law_cell_at ["_law_script", "_law_k"] (spCell K) := by
  refine T.F_law_cell_at.ok sc_law_cell_at (fun vs H Q E h => ?_) (fun cdv A0 outer s H vs Q E hr h => ?_)
  · obtain ⟨a, ns, k, rfl, _⟩ := h
    rfl
  obtain ⟨a, ns, k, rfl, hS, hk, hb, q⟩ := h
  refine ⟨_, (pss_cons (ps_if (pt_cmpR op_lt (pv 1) (pe_callB call_len_seq (by rfl) T.n_len PySem.boot_len (pa_cons (pv 0) pa_nil)) (nomark _)) (pss_one (ps_ret (pe_ix ix_list (pv 0) (pv 1) (fun _ _ => rfl)))) pss_nil)
      (pss_one (ps_ret pe_int))), ?_⟩
  refine ⟨_, rfl, _, rfl, a, _, rfl, .inl hS, _, _, rfl, rfl, _, rfl, ?_⟩
  refine ite2 (fun c => ?_) (fun c => ?_)
  · have c' : k < ((ns.map V.int).length : Nat) := of_decide_eq_true c
    obtain ⟨v, hv, hv2⟩ := at_some (l := ns.map V.int) hk c'
    obtain ⟨n, hn, rfl⟩ := map_get hv2
    exact ⟨_, rfl, _, rfl, a, _, _, _, rfl, rfl, hS, hv, q _ (hb n (List.mem_of_getElem? hn))⟩
  · exact q _ (by decide)
theorem ok_law_names (T : Txt K mg A) : FnOk P w K mg base CX0 2 A.f_law_names A.d_law_names ["_law_script"] (spNames K) := by
  have G_law_cell_at := ok_law_cell_at (P := P) (w := w) (base := base) T
  refine T.F_law_names.ok sc_law_names (fun vs H Q E h => ?_) (fun cdv A0 outer s H vs' Q E hr h => ?_)
  · obtain ⟨a, ns, rfl, _⟩ := h
    rfl
  obtain ⟨a, ns, rfl, hS, hb, q⟩ := h
  refine ⟨_, (pss_cons (ps_set (i := 1) sc_law_names.nd rfl (by first | exact Or.inl rfl | exact Or.inr rfl) pe_str)
      (pss_cons (ps_set (i := 2) sc_law_names.nd rfl (by first | exact Or.inl rfl | exact Or.inr rfl) (pe_call G_law_cell_at (hr.mono (by decide)) rfl T.m_law_cell_at T.k_law_cell_at T.b_law_cell_at .nil pass0 (pa_cons (pv 0) (pa_cons pe_int pa_nil))))
      (pss_cons (ps_set (i := 3) sc_law_names.nd rfl (by first | exact Or.inl rfl | exact Or.inr rfl) (pe_op op_mod (pe_call G_law_cell_at (hr.mono (by decide)) rfl T.m_law_cell_at T.k_law_cell_at T.b_law_cell_at .nil pass0 (pa_cons (pv 0) (pa_cons pe_int pa_nil))) pe_int))
      (pss_cons (ps_set (i := 4) sc_law_names.nd rfl (by first | exact Or.inl rfl | exact Or.inr rfl) (pe_op op_add pe_int (pe_op op_mulB (pe_op op_mod (pv 2) pe_int) (pe_op op_sub pe_int (pv 3)))))
      (pss_cons (ps_set (i := 5) sc_law_names.nd rfl (by first | exact Or.inl rfl | exact Or.inr rfl) (pe_compR (compOk_of (x := "_law_j") (M := ["_law_script", "_law_letters", "_law_cell", "_law_way", "_law_size", "_law_base", "_law_at", "_law_names_here", "_law_k", "_law_name"]) rfl (by rfl)) rfl (pi_range1 rfl T.n_range (pa_cons (pv 4) pa_nil)) (fun _ _ _ _ => (pe_op op_mod (pe_op op_add (pe_op op_fdiv (pv 3) (pe_op op_add (pv 0) pe_int)) (pe_op op_mulB (pv 0) (pv 0))) pe_int))))
      (pss_cons (ps_set (i := 6) sc_law_names.nd rfl (by first | exact Or.inl rfl | exact Or.inr rfl) (pe_op op_mod (pe_op op_fdiv (pe_call G_law_cell_at (hr.mono (by decide)) rfl T.m_law_cell_at T.k_law_cell_at T.b_law_cell_at .nil pass0 (pa_cons (pv 0) (pa_cons pe_int pa_nil))) pe_int) (pv 4)))
      (pss_cons (ps_set (i := 7) sc_law_names.nd rfl (by first | exact Or.inl rfl | exact Or.inr rfl) (pe_lst pa_nil))
      (pss_cons (ps_forR PassesOwn.never rfl (pi_range1 rfl T.n_range (pa_cons pe_int pa_nil)) (pg_name (i := 8) sc_law_names.nd rfl (by first | exact Or.inl rfl | exact Or.inr rfl)) (pss_cons (ps_set (i := 9) sc_law_names.nd rfl (by first | exact Or.inl rfl | exact Or.inr rfl) (pe_bm PySem.F.plainAttrs_str PySem.F.slot_str_join PySem.F.type_str_join mt_join pe_str (pa_cons (pe_compR (compOk_of (x := "_law_j") (M := ["_law_script", "_law_letters", "_law_cell", "_law_way", "_law_size", "_law_base", "_law_at", "_law_names_here", "_law_k", "_law_name"]) rfl (by rfl)) rfl (pi_range1 rfl T.n_range (pa_cons (pv 4) pa_nil)) (fun _ _ _ _ => pe_eqv (by exact (pe_ix ix_str (pv 2) (pe_op op_mod (pe_op op_add (pe_ix ix_list (pv 6) (pv 0) (fun _ _ => rfl)) (pe_op op_mulB (pv 9) (pe_callTy call_int1 (by rfl) T.n_int Bt.int (pa_cons (pe_and (pe_cmpR op_eq (pv 4) pe_int (nomark _)) (pe_one (pe_cmpR op_eq (pv 0) (pv 7) (nomark _)))) pa_nil)))) pe_int) (fun _ _ => rfl))) (by dsimp only [compCx] <;> rfl))) pa_nil)))
      (pss_cons (ps_set (i := 9) sc_law_names.nd rfl (by first | exact Or.inl rfl | exact Or.inr rfl) (pe_op op_add_str (pv 9) (pe_op op_mul_str pe_str (pe_op op_mulB (pv 8) (pv 3)))))
      (pss_cons (ps_if (pt_cmpR op_in_seq (pv 9) (pe_lst (pa_cons pe_str (pa_cons pe_str (pa_cons pe_str (pa_cons pe_str (pa_cons pe_str (pa_cons pe_str (pa_cons pe_str (pa_cons pe_str pa_nil))))))))) (by rfl)) (pss_one (ps_set (i := 9) sc_law_names.nd rfl (by first | exact Or.inl rfl | exact Or.inr rfl) (pe_op op_add_str (pv 9) pe_str))) pss_nil)
      (pss_one (ps_expr (pe_bm PySem.F.plainAttrs_list PySem.F.slot_list_append PySem.F.type_list_append mt_append (pv 7) (pa_cons (pv 9) pa_nil))))))))
      (pss_one (ps_ret (pv 7))))))))))), ?_⟩
  refine ⟨_, rfl, a, ns, 0, rfl, hS, by decide, hb, fun c0 hc0 => ?_⟩
  refine ⟨_, rfl, a, ns, 1, rfl, hS, by decide, hb, fun c1 hc1 => ⟨_, _, rfl, rfl, (by show (0 : Int) < 2; decide), ?_⟩⟩
  have w0 : 0 ≤ c1 % 2 := Int.emod_nonneg _ (by decide)
  have w1 : c1 % 2 < 2 := Int.emod_lt_of_pos _ (by decide)
  have m0 : 0 ≤ c0 % 12 := Int.emod_nonneg _ (by decide)
  have m1 : c0 % 12 < 12 := Int.emod_lt_of_pos _ (by decide)
  refine ⟨_, rfl, _, _, rfl, rfl, (by show (0 : Int) < 12; decide), _, rfl, _, _, rfl, rfl, _, _, rfl, rfl, ⟨ib_k m0 (by omega), ib_k (by show 0 ≤ 1 - c1 % 2; omega) (by show 1 - c1 % 2 < 100; omega)⟩, _, _, rfl, rfl, ?_⟩
  obtain ⟨n, hn, hn1, hn2⟩ : ∃ n : Nat, 1 + c0 % 12 * (1 - c1 % 2) = (n : Int) ∧ 1 ≤ n ∧ (c1 % 2 = 0 → n ≤ 12) ∧ (c1 % 2 = 1 → n = 1) := by
    rcases (by omega : c1 % 2 = 0 ∨ c1 % 2 = 1) with e | e
    · rw [e]; exact ⟨(1 + c0 % 12).toNat, by omega, by omega, fun _ => by omega, fun z => (by cases z)⟩
    · rw [e]; exact ⟨1, by omega, by omega, fun z => (by cases z), fun _ => rfl⟩
  have hn12 : n ≤ 12 := by rcases (by omega : c1 % 2 = 0 ∨ c1 % 2 = 1) with e | e; (exact hn2.1 e); (have := hn2.2 e; omega)
  dsimp only
  rw [hn]
  refine ⟨_, rfl, _, rfl, (by omega), (by omega), ?_⟩
  rw [show ((n : Int)).toNat = n by omega]
  refine comp_rangeR (small_of (m := 12) hn12) (fun i ys H' => H = H' ∧ ∃ b : List Int, ys = b.map V.int ∧ ∀ c ∈ b, 0 ≤ c ∧ c < 26) ⟨rfl, [], rfl, fun c h => by cases h⟩ (fun i ys H' hi hl hw => ?_) (fun ys H' hl hw pb hpb => ?_)
  · obtain ⟨rfl, b, rfl, hc⟩ := hw
    refine ⟨_, rfl, _, rfl, _, _, rfl, rfl, _, _, rfl, rfl, ⟨by show (0 : Int) < 0 + (i : Nat) + 1; omega, by show (0 : Int) + (i : Nat) + 1 < 1073741824; omega⟩, ?_⟩
    refine ⟨_, rfl, _, rfl, _, _, rfl, rfl, ⟨ib_k (by omega) (by omega), ib_k (by omega) (by omega)⟩, _, _, rfl, rfl, _, _, rfl, rfl, (by show (0 : Int) < 26; decide), rfl, b ++ [_], (by rw [List.map_append]; rfl), fun k hk => ?_⟩
    rcases List.mem_append.mp hk with z | z
    · exact hc k z
    · rw [List.mem_singleton.mp z]; exact ⟨Int.emod_nonneg _ (by decide), Int.emod_lt_of_pos _ (by decide)⟩
  obtain ⟨rfl, b, rfl, hc⟩ := hw
  rw [List.length_map] at hl
  have sb := same_new hpb (.lst (b.map V.int))
  refine ⟨_, rfl, a, ns, 1, rfl, sb.seq hS, by decide, hb, fun c2 hc2 => ?_⟩
  refine ⟨_, _, rfl, rfl, ⟨by decide, by decide⟩, _, rfl, _, _, rfl, rfl, (by show (0 : Int) < (n : Nat); omega), ?_⟩
  refine ⟨(by show 0 ≤ sizeLine; decide), fun pn hpn => ?_⟩
  have sn := same_new hpn (.lst [])
  have hpn0 : H pn = none := by
    cases e : H pn with
    | none => rfl
    | some o => rw [sb pn o e] at hpn; cases hpn
  refine ⟨_, rfl, (by decide), (by decide), ?_⟩
  dsimp only
  generalize ht : c2 / 2 % ((n : Nat) : Int) = t
  have hw01 : c1 % 2 = 0 ∨ c1 % 2 = 1 := by omega
  generalize hwy : c1 % 2 = wy at hw01 hn2
  refine for_rangeR (n := 12) (fun i σ H' => (∃ u v, σ = [some (.ref a), some (.str (Str.ofString "abcdefghijklmnopqrstuvwxyz")), some (.int c0), some (.int wy), some (.int (n : Nat)), some (.ref pb), some (.int t), some (.ref pn), u, v]) ∧ Same H H' ∧ H' pb = some (.lst (b.map V.int)) ∧ ∃ zs : List Str, zs.length = i ∧ (∀ z ∈ zs, nameB z = true) ∧ H' pn = some (.lst (zs.map V.str))) ⟨⟨_, _, rfl⟩, sb.trans sn, sn _ _ upd_same, [], rfl, fun z h => (by cases h), upd_same⟩ (fun i σ H' hi hp => ?_) (fun σ H' hp => ?_)
  · obtain ⟨⟨u, v, rfl⟩, sH, hpb', zs, hzl, hzn, hpn'⟩ := hp
    refine ⟨rfl, _, rfl, _, rfl, (by omega), (by omega), ?_⟩
    rw [show ((n : Int)).toNat = n by omega]
    refine comp_rangeR (n := n) (small_of (m := 12) hn12) (fun j ys G => H' = G ∧ ∃ l : List Nat, ys = (l.map fun c => V.str (S [c])) ∧ ∀ c ∈ l, 97 ≤ c ∧ c ≤ 122) ⟨rfl, [], rfl, fun c h => by cases h⟩ (fun j ys G hj hl2 hw => ?_) (fun ys G hl2 hw p hpp => ?_)
    · obtain ⟨sG, l, rfl, hlc⟩ := hw
      subst sG
      have sG : H' = H' := rfl
      obtain ⟨x, hx1, hx2⟩ := at_some (l := b.map V.int) (i := (0 + (j : Int))) (by omega) (by rw [List.length_map]; omega)
      obtain ⟨bv, hbv, rfl⟩ := map_get hx2
      refine ⟨_, rfl, _, rfl, _, rfl, pb, _, _, _, rfl, rfl, SqL.of hpb', hx1, _, rfl, _, rfl, rfl, _, rfl, ite2 (fun _ => ?_) (fun _ => ?_)⟩
      · refine ⟨_, rfl, _, rfl, rfl, .inr ⟨_, rfl, _, _, rfl, rfl, ⟨ib_k (by omega) (by omega), by split <;> decide⟩, _, _, rfl, rfl, _, _, rfl, rfl, (by show (0 : Int) < 26; decide), ?_⟩⟩
        obtain ⟨c, hc1, hc2⟩ := let_at ((bv + (0 + (i : Int)) * (if (decide (V.int (0 + (j : Int)) = V.int t)) = true then 1 else 0)) % 26) (Int.emod_nonneg _ (by decide)) (Int.emod_lt_of_pos _ (by decide))
        refine ⟨_, _, c, rfl, rfl, (by decide +kernel), hc1, sG, l ++ [c], (by rw [List.map_append]; rfl), fun d hd => ?_⟩
        rcases List.mem_append.mp hd with z | z
        · exact hlc d z
        · rw [List.mem_singleton.mp z]; exact hc2
      · refine .inr ⟨_, rfl, _, _, rfl, rfl, ⟨ib_k (by omega) (by omega), by split <;> decide⟩, _, _, rfl, rfl, _, _, rfl, rfl, (by show (0 : Int) < 26; decide), ?_⟩
        obtain ⟨c, hc1, hc2⟩ := let_at ((bv + (0 + (i : Int)) * (if false = true then 1 else 0)) % 26) (Int.emod_nonneg _ (by decide)) (Int.emod_lt_of_pos _ (by decide))
        refine ⟨_, _, c, rfl, rfl, (by decide +kernel), hc1, sG, l ++ [c], (by rw [List.map_append]; rfl), fun d hd => ?_⟩
        rcases List.mem_append.mp hd with z | z
        · exact hlc d z
        · rw [List.mem_singleton.mp z]; exact hc2
    · obtain ⟨rfl, l, rfl, hlc⟩ := hw
      rw [List.length_map] at hl2
      have sp := same_new hpp (.lst (l.map fun c => V.str (S [c])))
      refine ⟨_, p, one l, rfl, rfl, .inl (SqL.of (by rw [upd_same, one_map])), (by rw [one_sum]; show _ + _ * 0 ≤ _; omega), ?_⟩
      rw [show joinS (Str.ofString "") (one l) = S l from one_join _]
      obtain ⟨m, hm, hm1, hm2⟩ : ∃ m : Nat, (0 + (i : Int)) * wy = (m : Int) ∧ n + m ≤ 12 ∧ m ≤ 12 := by
        rcases hw01 with e | e
        · exact ⟨0, by rw [e]; omega, by omega, by omega⟩
        · have := hn2.2 e
          exact ⟨i, by rw [e]; omega, by omega, by omega⟩
      have hwb : ib wy ≤ 60000000 := ib_k (by omega) (by omega)
      refine ⟨_, rfl, _, rfl, _, rfl, _, _, rfl, rfl, ⟨ib_k (by omega) (by omega), hwb⟩, ?_⟩
      dsimp only
      rw [hm]
      have ee : cd (Str.ofString "e") = [101] := by decide +kernel
      have el : (Str.ofString "e").length = 1 := by decide +kernel
      refine ⟨_, _, rfl, rfl, by omega, by omega, by rw [el]; omega, by rw [el]; decide, ?_⟩
      rw [ee, show ((m : Int)).toNat = m by omega]
      have hrl := repN_len [101] m
      rw [show ([101] : List Nat).length = 1 from rfl, Nat.mul_one] at hrl
      refine ⟨_, _, rfl, rfl, small_of (m := 100) (by rw [len_S, len_S]; omega), ?_⟩
      rw [S_app]
      generalize hL : l ++ repN [101] m = L
      have hLl : L.length = n + m := by rw [← hL, List.length_append]; omega
      have hLc : ∀ c ∈ L, 97 ≤ c ∧ c ≤ 122 := fun c hc => by
        rw [← hL] at hc
        rcases List.mem_append.mp hc with e | e
        · exact hlc c e
        · have := repN_mem m e; omega
      have s1 : Same H (upd H' p (.lst (l.map fun c => V.str (S [c])))) := sH.trans sp
      refine ⟨_, rfl, (by show 8 ≤ sizeLine; decide), fun p2 hp2 => ⟨p2, _, rfl, .inl (SqL.of upd_same), rfl, rfl, _, rfl, ?_⟩⟩
      have sp2 := same_new hp2 (.lst (KW.map V.str))
      have s2 := s1.trans sp2
      have hpb2 := sp2 _ _ (sp _ _ hpb')
      have hpn2 := sp2 _ _ (sp _ _ hpn')
      generalize hG : upd (upd H' p (.lst (l.map fun c => V.str (S [c])))) p2 (.lst (KW.map V.str)) = G at s2 hpb2 hpn2
      have hG' : upd (upd H' p (.lst (l.map fun c => V.str (S [c])))) p2 (.lst [V.str (Str.ofString "and"), V.str (Str.ofString "each"), V.str (Str.ofString "end"), V.str (Str.ofString "is"), V.str (Str.ofString "not"), V.str (Str.ofString "or"), V.str (Str.ofString "unless"), V.str (Str.ofString "when")]) = G := hG
      rw [hG']
      have fin : ∀ y : Str, nameB y = true → Same H (upd G pn (.lst (zs.map V.str ++ [.str y]))) ∧ upd G pn (.lst (zs.map V.str ++ [.str y])) pb = some (.lst (b.map V.int)) ∧ ∃ zs' : List Str, zs'.length = i + 1 ∧ (∀ z ∈ zs', nameB z = true) ∧ upd G pn (.lst (zs.map V.str ++ [.str y])) pn = some (.lst (zs'.map V.str)) := fun y hy => by
        refine ⟨fun x o ho => by rw [upd_ne (ne_of_none ho hpn0)]; exact s2 x o ho, ?_, zs ++ [y], by rw [List.length_append, hzl]; rfl, fun z hz => ?_, by rw [upd_same, List.map_append]; rfl⟩
        · have : pb ≠ pn := fun e => by rw [← e, upd_same] at hpn; cases hpn
          rw [upd_ne this]; exact hpb2
        · rcases List.mem_append.mp hz with e | e
          · exact hzn z e
          · rw [List.mem_singleton.mp e]; exact hy
      have hsz : (zs.map V.str).length < sizeLine := by
        have := small_of (n := 100) (m := 100) (Nat.le_refl _)
        rw [List.length_map]; omega
      show if (inV (.str (S L)) (KW.map V.str)) = true then _ else _
      rw [inV_strs]
      refine ite2 (fun c => ?_) (fun c => ?_)
      · have c' : S L ∈ KW := of_decide_eq_true c
        have hx := kw_x _ c'
        refine ⟨_, rfl, _, _, rfl, rfl, small_of (m := 100) (by have := kw_len _ c'; rw [show (Str.ofString "x").length = 1 by decide +kernel]; omega), ?_⟩
        obtain ⟨f1, f2, f3⟩ := fin _ hx
        exact ⟨_, rfl, Or.inl ⟨rfl, _, SqL.of hpn2⟩, _, rfl, pn, _, _, rfl, rfl, hpn2, hsz, ⟨_, _, rfl⟩, f1, f2, f3⟩
      · have hx : nameB (S L) = true := name_of ⟨by omega, by omega, hLc⟩ fun z => c (decide_eq_true z)
        obtain ⟨f1, f2, f3⟩ := fin _ hx
        exact ⟨_, rfl, Or.inl ⟨rfl, _, SqL.of hpn2⟩, _, rfl, pn, _, _, rfl, rfl, hpn2, hsz, ⟨_, _, rfl⟩, f1, f2, f3⟩
  · obtain ⟨⟨u, v, rfl⟩, sH, _, zs, hzl, hzn, hpn'⟩ := hp
    exact ⟨_, rfl, q pn zs _ hzl hzn sH hpn'⟩
end
end K12
set_option maxHeartbeats 1000000
namespace K12
open PySem L2
seal PE PT PW PA PS PSs PG PGs PI PO PSet OpR UnR CallR TruR IxR SlR PC PPs
local macro_rules | `(tactic| walk_at "rd1") => `(tactic| first
  | (refine And.intro rfl ?_)
  | (refine And.intro (by assumption) ?_)
  | (refine And.intro (fun _ e => e) ?_)
  | (refine And.intro (TyOf.str _) ?_) | (refine And.intro (TyOf.int _) ?_) | (refine And.intro (TyOf.bl _) ?_) | (refine And.intro TyOf.non ?_)
  | (refine iteT ?_) | (refine iteF ?_)
  | (apply Exists.intro))
local macro_rules | `(tactic| walk_at "rd") => `(tactic| repeat (walk_at "rd1"))

theorem ib_add7 {x : Int} {m : Nat} (h : ib x ≤ m) : ib (x + 7) ≤ m + 3 := by
  refine intBits_le_iff.mpr ?_
  have h1 : x.natAbs < 2 ^ m := intBits_le_iff.mp h
  have h2 : 0 < 2 ^ m := Nat.two_pow_pos m
  rw [Nat.pow_add]
  generalize 2 ^ m = y at h1 h2
  have : (2 : Nat) ^ 3 = 8 := by decide
  rw [this]
  omega
theorem ib_mul {a b : Int} {m k : Nat} (h : ib a ≤ m) (h' : ib b ≤ k) : ib (a * b) ≤ m + k := by
  refine intBits_le_iff.mpr ?_
  have h1 : a.natAbs < 2 ^ m := intBits_le_iff.mp h
  have h2 : b.natAbs < 2 ^ k := intBits_le_iff.mp h'
  rw [Int.natAbs_mul, Nat.pow_add]
  exact Nat.mul_lt_mul_of_lt_of_lt h1 h2
theorem ibc {x : Int} (h : x.natAbs < 2 ^ 256) : ib x ≤ 60000000 := Nat.le_trans (ib_big (m := 256) h) (by decide)
section
variable {P : Program} {w : World} {K : PySem.W.Frag} {mg : Str → Option Value} {base : Heap} {A : Adr}
theorem ok_law_number (T : Txt K mg A) : FnOk P w K mg base CX0 1 A.f_law_number A.d_law_number ["_law_cell"] spNumber := by
  refine T.F_law_number.ok sc_law_number (fun vs H Q E h => ?_) (fun cdv A0 outer s H vs Q E hr h => ?_)
  · obtain ⟨n, rfl, _⟩ := h
    rfl
  obtain ⟨n, rfl, hb, q⟩ := h
  refine ⟨_, (pss_cons (ps_if (pt_cmpR op_eq (pe_op op_mod (pv 0) pe_int) pe_int (nomark _)) (pss_one (ps_ret (pe_op op_sub (pe_op op_mod (pe_op op_fdiv (pv 0) pe_int) pe_int) pe_int))) pss_nil)
      (pss_cons (ps_if (pt_cmpR op_eq (pe_op op_mod (pv 0) pe_int) pe_int (nomark _)) (pss_one (ps_ret (pe_op op_sub (pe_op op_mod (pe_op op_mulB (pe_op op_fdiv (pv 0) pe_int) pe_int) (pe_op op_add (pe_op op_mulB pe_int (pe_op op_pow pe_int pe_int)) pe_int)) (pe_op op_pow pe_int pe_int)))) pss_nil)
      (pss_one (ps_ret (pe_op op_sub (pe_op op_mod (pe_op op_mulB (pe_op op_mulB (pe_op op_add (pe_op op_fdiv (pv 0) pe_int) pe_int) pe_int) (pe_op op_pow pe_int pe_int)) (pe_op op_add (pe_op op_mulB pe_int (pe_op op_pow pe_int pe_int)) pe_int)) (pe_op op_pow pe_int pe_int)))))), ?_⟩
  have hb3 : ib (n / 3) ≤ 1048576 := ib_div (by decide) hb
  have p60 : (1000 : Nat) < 10 ^ 60 := by decide +kernel
  refine ⟨_, rfl, _, _, rfl, rfl, (by show (0 : Int) < 3; decide), rfl, _, rfl, ite2 (fun _ => ?_) (fun _ => ?_)⟩
  · have r0 : 0 ≤ n / 3 % 25 := Int.emod_nonneg _ (by decide)
    have r1 : n / 3 % 25 < 25 := Int.emod_lt_of_pos _ (by decide)
    refine ⟨_, rfl, _, _, rfl, rfl, ⟨by decide, by decide⟩, _, _, rfl, rfl, (by show (0 : Int) < 25; decide), _, _, rfl, rfl, q _ ?_⟩
    show (n / 3 % 25 - 12).natAbs < 10 ^ 60
    omega
  refine ⟨_, rfl, _, _, rfl, rfl, (by show (0 : Int) < 3; decide), rfl, _, rfl, ite2 (fun _ => ?_) (fun _ => ?_)⟩
  · refine ⟨_, rfl, _, _, rfl, rfl, ⟨by decide, by decide⟩, _, _, rfl, rfl, ⟨Nat.le_trans hb3 (by decide), by decide⟩, ?_⟩
    refine ⟨_, _, rfl, rfl, ⟨by decide, by decide, by decide⟩, _, _, rfl, rfl, ⟨by decide, ibc (by decide +kernel)⟩, _, _, rfl, rfl, _, _, rfl, rfl, (by show (0 : Int) < 2 * 10 ^ (18 : Int).toNat + 1; decide +kernel), ?_⟩
    refine ⟨_, _, rfl, rfl, ⟨by decide, by decide, by decide⟩, _, _, rfl, rfl, q _ ?_⟩
    have r0 := Int.emod_nonneg (n / 3 * 69621) (b := 2 * 10 ^ (18 : Int).toNat + 1) (by decide +kernel)
    have r1 := Int.emod_lt_of_pos (n / 3 * 69621) (b := 2 * 10 ^ (18 : Int).toNat + 1) (by decide +kernel)
    show (n / 3 * 69621 % (2 * 10 ^ (18 : Int).toNat + 1) - 10 ^ (18 : Int).toNat).natAbs < 10 ^ 60
    have e18 : (10 : Int) ^ (18 : Int).toNat = 1000000000000000000 := by decide +kernel
    have b60 : (1000000000000000001 : Nat) < 10 ^ 60 := by decide +kernel
    rw [e18] at r0 r1 ⊢
    generalize n / 3 * 69621 % (2 * 1000000000000000000 + 1) = r at r0 r1
    omega
  · have h7 : ib (n / 3 + 7) ≤ 1048579 := ib_add7 hb3
    have h8 : ib ((n / 3 + 7) * 982451653) ≤ 60000000 := Nat.le_trans (ib_mul h7 (show ib (982451653 : Int) ≤ 64 from ib_small (by decide) (by decide))) (by decide)
    refine ⟨_, rfl, _, _, rfl, rfl, ⟨by decide, by decide⟩, _, _, rfl, rfl, _, _, rfl, rfl, ⟨Nat.le_trans h7 (by decide), by decide⟩, ?_⟩
    refine ⟨_, _, rfl, rfl, ⟨by decide, by decide, by decide⟩, _, _, rfl, rfl, ⟨h8, ibc (by decide +kernel)⟩, ?_⟩
    refine ⟨_, _, rfl, rfl, ⟨by decide, by decide, by decide⟩, _, _, rfl, rfl, ⟨by decide, ibc (by decide +kernel)⟩, _, _, rfl, rfl, _, _, rfl, rfl, (by show (0 : Int) < 2 * 10 ^ (59 : Int).toNat + 9; decide +kernel), ?_⟩
    refine ⟨_, _, rfl, rfl, ⟨by decide, by decide, by decide⟩, _, _, rfl, rfl, q _ ?_⟩
    have r0 := Int.emod_nonneg ((n / 3 + 7) * 982451653 * 10 ^ (42 : Int).toNat) (b := 2 * 10 ^ (59 : Int).toNat + 9) (by decide +kernel)
    have r1 := Int.emod_lt_of_pos ((n / 3 + 7) * 982451653 * 10 ^ (42 : Int).toNat) (b := 2 * 10 ^ (59 : Int).toNat + 9) (by decide +kernel)
    show ((n / 3 + 7) * 982451653 * 10 ^ (42 : Int).toNat % (2 * 10 ^ (59 : Int).toNat + 9) - 10 ^ (59 : Int).toNat).natAbs < 10 ^ 60
    generalize (n / 3 + 7) * 982451653 * 10 ^ (42 : Int).toNat % (2 * 10 ^ (59 : Int).toNat + 9) = r at r0 r1
    have hb1 : (10 : Int) ^ (59 : Int).toNat + 9 < ((10 ^ 60 : Nat) : Int) := by decide +kernel
    have hb2 : (0 : Int) < (10 : Int) ^ (59 : Int).toNat := by decide +kernel
    generalize (10 : Int) ^ (59 : Int).toNat = y at r1 hb1 hb2
    generalize (10 : Nat) ^ 60 = z at hb1
    omega
theorem ok_law_part (T : Txt K mg A) : FnOk P w K mg base CX0 2 A.f_law_part A.d_law_part ["_law_cell", "_law_names_here", "_law_used"] (spPartL K) := by
  have G_law_number := ok_law_number (P := P) (w := w) (base := base) T
  refine T.F_law_part.ok sc_law_part (fun vs H Q E h => ?_) (fun cdv A0 outer s H vs Q E hr h => ?_)
  · obtain ⟨c, pn, pu, zs, us, rfl, _⟩ := h
    rfl
  obtain ⟨c, pn, pu, zs, us, rfl, hb, hpn, hzl, hzn, hpu, hfl, q⟩ := h
  refine ⟨_, (pss_cons (ps_set (i := 3) sc_law_part.nd rfl (by first | exact Or.inl rfl | exact Or.inr rfl) (pe_ix ix_list (pv 1) (pe_op op_mod (pe_op op_mod (pe_op op_mulB (pv 0) pe_int) pe_int) pe_int) (fun _ _ => rfl)))
      (pss_cons (ps_set (i := 4) sc_law_part.nd rfl (by first | exact Or.inl rfl | exact Or.inr rfl) (pe_call G_law_number (hr.mono (by decide)) rfl T.m_law_number T.k_law_number T.b_law_number .nil pass0 (pa_cons (pe_op op_fdiv (pv 0) pe_int) pa_nil)))
      (pss_cons (ps_if (PW.pt (pw_or (pt_cmpR op_eq (pe_op op_mod (pv 0) pe_int) pe_int (nomark _)) (pw_or1 (pt_cmpR op_in_seq (pv 3) (pv 2) (by rfl))))) (pss_one (ps_ret (pe_tup (pa_cons (pv 4) (pa_cons pe_non pa_nil))))) pss_nil)
      (pss_cons (ps_if (pt_cmpR op_eq (pe_op op_mod (pv 0) pe_int) pe_int (nomark _)) (pss_one (ps_ret (pe_tup (pa_cons (pe_op op_sub pe_int (pe_op op_mulB (pe_op op_mod (pe_op op_fdiv (pv 0) pe_int) pe_int) pe_int)) (pa_cons (pv 3) pa_nil))))) pss_nil)
      (pss_cons (ps_if (pt_cmpR op_eq (pv 4) pe_int (nomark _)) (pss_one (ps_set (i := 4) sc_law_part.nd rfl (by first | exact Or.inl rfl | exact Or.inr rfl) pe_int)) pss_nil)
      (pss_one (ps_ret (pe_tup (pa_cons (pv 4) (pa_cons (pv 3) pa_nil)))))))))), ?_⟩
  have i0 : 0 ≤ c * 48271 % 2147483647 % 12 := Int.emod_nonneg _ (by decide)
  have i1 : c * 48271 % 2147483647 % 12 < 12 := Int.emod_lt_of_pos _ (by decide)
  obtain ⟨x, hx1, hx2⟩ := at_some (l := zs.map V.str) i0 (by rw [List.length_map, hzl]; exact i1)
  obtain ⟨z, hz, rfl⟩ := map_get hx2
  have hzn' := hzn z (List.mem_of_getElem? hz)
  refine ⟨_, rfl, _, rfl, _, _, rfl, rfl, ⟨Nat.le_trans hb (by decide), by decide⟩, _, _, rfl, rfl, (by show (0 : Int) < 2147483647; decide), _, _, rfl, rfl, (by show (0 : Int) < 12; decide), pn, _, _, _, rfl, rfl, hpn, hx1, ?_⟩
  refine ⟨_, rfl, _, _, rfl, rfl, ⟨by decide, by decide⟩, _, rfl, ib_div (by decide) hb, fun m hm => ?_⟩
  have p60 : (1000 : Nat) < 10 ^ 60 := by decide +kernel
  have non : ∀ (D : Ends), D.rt = Q → tRet (tTup (tCons (tVar 4) (tCons (tC .non) tNil))) D [some (.int c), some (.ref pn), some (.ref pu), some (.str z), some (.int m)] H := fun D eD => by
    refine ⟨_, rfl, (by show 2 ≤ sizeLine; decide), fun t ht => ?_⟩
    rw [eD]
    exact q _ (m, none) _ (same_new ht _) ⟨t, rfl, SqT.of upd_same⟩ ⟨hm, fun z e => by cases e⟩ (fun z e => by cases e)
  refine ⟨_, rfl, _, _, rfl, rfl, (by show (0 : Int) < 5; decide), rfl, _, rfl, ite2 (fun _ => ?_) (fun _ => ?_)⟩
  · exact iteT (non _ rfl)
  refine ⟨_, rfl, _, rfl, pu, _, rfl, .inl hpu, rfl, hfl, _, rfl, ite2 (fun _ => non _ rfl) (fun d => ?_)⟩
  have d' : inV (.str z) us = false := Bool.eq_false_iff.mpr d
  refine ⟨_, rfl, _, _, rfl, rfl, (by show (0 : Int) < 5; decide), rfl, _, rfl, ite2 (fun _ => ?_) (fun _ => ?_)⟩
  · have r0 : 0 ≤ c / 5 % 2 := Int.emod_nonneg _ (by decide)
    have r1 : c / 5 % 2 < 2 := Int.emod_lt_of_pos _ (by decide)
    refine ⟨_, rfl, _, _, rfl, rfl, ⟨by decide, by decide⟩, _, _, rfl, rfl, (by show (0 : Int) < 2; decide), _, _, rfl, rfl, ⟨ib_k r0 (by show c / 5 % 2 < 100; omega), by decide⟩, _, _, rfl, rfl, _, rfl, (by show 2 ≤ sizeLine; decide), fun t ht => ?_⟩
    refine q _ (1 - c / 5 % 2 * 2, some z) _ (same_new ht _) ⟨t, rfl, SqT.of upd_same⟩ ⟨?_, fun y e => ?_⟩ (fun y e => by cases e; exact d')
    · show (1 - c / 5 % 2 * 2).natAbs < 10 ^ 60
      omega
    · cases e
      refine ⟨hzn', ?_⟩
      show 1 - c / 5 % 2 * 2 ≠ 0
      omega
  · have fin : ∀ m' : Int, m'.natAbs < 10 ^ 60 → m' ≠ 0 → ∀ t, H t = none → Q (.ref t) (upd H t (.tup [.int m', .str z])) := fun m' h1 h2 t ht => q _ (m', some z) _ (same_new ht _) ⟨t, rfl, SqT.of upd_same⟩ ⟨h1, fun y e => by cases e; exact ⟨hzn', h2⟩⟩ (fun y e => by cases e; exact d')
    refine ⟨_, rfl, rfl, _, rfl, ite2 (fun _ => ?_) (fun e => ?_)⟩
    · exact ⟨_, rfl, _, rfl, (by show 2 ≤ sizeLine; decide), fin 2 (by omega) (by decide)⟩
    · exact ⟨_, rfl, _, rfl, (by show 2 ≤ sizeLine; decide), fin m hm (fun z => e (decide_eq_true (by rw [z])))⟩
end
end K12
set_option maxHeartbeats 1000000
namespace K12
open PySem L2
seal PE PT PW PA PS PSs PG PGs PI PO PSet OpR UnR CallR TruR IxR SlR PC PPs
local macro_rules | `(tactic| walk_at "rd1") => `(tactic| first
  | (refine And.intro rfl ?_)
  | (refine And.intro (by assumption) ?_)
  | (refine And.intro (fun _ e => e) ?_)
  | (refine And.intro (TyOf.str _) ?_) | (refine And.intro (TyOf.int _) ?_) | (refine And.intro (TyOf.bl _) ?_) | (refine And.intro TyOf.non ?_)
  | (refine iteT ?_) | (refine iteF ?_)
  | (apply Exists.intro))
local macro_rules | `(tactic| walk_at "rd") => `(tactic| repeat (walk_at "rd1"))

theorem tt_true {σ : St} {H : Hp} {a b : Hp → Prop} (h : a H) : tTrue σ H (fun c H3 => if c = true then a H3 else b H3) := by
  show if true = true then a H else b H
  rw [if_pos rfl]; exact h
theorem SqT.updL {K : PySem.W.Frag} {H : Hp} {a pl : Addr} {xs ys : List V} {o : HO} (h : SqT K H a xs) (hp : H pl = some (.lst ys)) : SqT K (upd H pl o) a xs := by
  rcases h with h | h
  · left
    rcases h with h | ⟨o', h⟩
    · exact .inl (by rw [upd_ne (ne_of h hp (by intro z; cases z))]; exact h)
    · exact .inr ⟨o', by rw [upd_ne (ne_of h hp (by intro z; cases z))]; exact h⟩
  · exact .inr h
theorem PsR.updL {K : PySem.W.Frag} {H : Hp} {pl : Addr} {xs ys : List V} {ps : List Part} {o : HO} (h : PsR K H xs ps) (hp : H pl = some (.lst ys)) : PsR K (upd H pl o) xs ps := by
  induction h with
  | nil => exact .nil
  | cons a _ ih => obtain ⟨b, e, hb⟩ := a; exact .cons ⟨b, e, SqT.updL hb hp⟩ ih
def spPartsBy (K : PySem.W.Frag) : Sp := fun vs H Q _ => ∃ (pc pn : Addr) (ms : List Int) (zs : List Str), vs = [.ref pc, .ref pn] ∧ SqL K H pc (ms.map V.int) ∧ ms.length ≤ 12 ∧ (∀ n ∈ ms, ib n ≤ 1048576) ∧ SqL K H pn (zs.map V.str) ∧ zs.length = 12 ∧ (∀ z ∈ zs, nameB z = true) ∧
  ∀ (pl : Addr) (xs : List V) (ps : List Part) (H' : Hp), Same H H' → H' pl = some (.lst xs) → PsR K H' xs ps → ps.length = ms.length → (∀ p ∈ ps, PGood p) → (ps.filterMap (·.2)).Nodup → Q (.ref pl) H'
theorem used_in {ps : List Part} {z : Str} (h : z ∈ ps.filterMap (·.2)) : inV (.str z) (ps.map fun p => nv p.2) = true := by
  obtain ⟨p, hp, e⟩ := List.mem_filterMap.mp h
  unfold inV
  rw [List.any_eq_true]
  refine ⟨nv p.2, List.mem_map.mpr ⟨p, hp, rfl⟩, ?_⟩
  rw [e]
  show (z == z) = true
  exact beq_self_eq_true z
theorem flat_nv (ps : List Part) : (ps.map fun p => nv p.2).all flatV = true := by
  rw [List.all_map, List.all_eq_true]
  intro p _
  show flatV (nv p.2) = true
  cases p.2 <;> rfl
section
variable {P : Program} {w : World} {K : PySem.W.Frag} {mg : Str → Option Value} {base : Heap} {A : Adr}
theorem ok_law_parts_by (T : Txt K mg A) : FnOk P w K mg base CX0 3 A.f_law_parts_by A.d_law_parts_by ["_law_cells", "_law_names_here"] (spPartsBy K) := by
  have G_law_part := ok_law_part (P := P) (w := w) (base := base) T
  refine T.F_law_parts_by.ok sc_law_parts_by (fun vs H Q E h => ?_) (fun cdv A0 outer s H vs' Q E hr h => ?_)
  · obtain ⟨pc, pn, ms, zs, rfl, _⟩ := h
    rfl
  obtain ⟨pc, pn, ms, zs, rfl, hpc, hm12, hbits, hpn, hzl, hzn, q⟩ := h
  refine ⟨_, (pss_cons (ps_set (i := 2) sc_law_parts_by.nd rfl (by first | exact Or.inl rfl | exact Or.inr rfl) (pe_lst pa_nil))
      (pss_cons (ps_forR PassesOwn.never rfl (pi_list (pv 0)) (pg_name (i := 3) sc_law_parts_by.nd rfl (by first | exact Or.inl rfl | exact Or.inr rfl)) (pss_one (ps_expr (pe_bm PySem.F.plainAttrs_list PySem.F.slot_list_append PySem.F.type_list_append mt_append (pv 2) (pa_cons (pe_call G_law_part (hr.mono (by decide)) rfl T.m_law_part T.k_law_part T.b_law_part .nil pass0 (pa_cons (pv 3) (pa_cons (pv 1) (pa_cons (pe_compT (compOk2_of (compOk_of (x := "_law_times") (M := ["_law_cells", "_law_names_here", "_law_parts", "_law_one"]) rfl (by rfl)) (by rfl) (by decide +kernel)) rfl (pi_list (pv 2)) (fun _ _ _ _ => pifs_nil) (fun _ _ _ _ => (pv 1))) pa_nil)))) pa_nil)))))
      (pss_one (ps_ret (pv 2))))), ?_⟩
  refine ⟨(by show 0 ≤ sizeLine; decide), fun pl hpl => ?_⟩
  have sl := same_new hpl (.lst [])
  refine ⟨_, rfl, pc, rfl, ⟨_, sl.seq hpc⟩, ?_⟩
  refine for_listR (xs := ms.map V.int) (fun i σ H' => (∃ u, σ = [some (.ref pc), some (.ref pn), some (.ref pl), u]) ∧ Same H H' ∧ ∃ (xs : List V) (ps : List Part), H' pl = some (.lst xs) ∧ PsR K H' xs ps ∧ ps.length = i ∧ (∀ p ∈ ps, PGood p) ∧ (ps.filterMap (·.2)).Nodup) ⟨⟨_, rfl⟩, sl, [], [], upd_same, .nil, rfl, fun p hp => (by cases hp), List.nodup_nil⟩ (fun i σ H' _ hh => hh.2.1.seq hpc) (fun i x σ H' hx hh => ?_) (fun σ H' hh => ?_)
  · obtain ⟨⟨u, rfl⟩, sH, xs, ps, hx1, hps, hpl', hgd, hnd⟩ := hh
    obtain ⟨c, hci, rfl⟩ := map_get hx
    have hil := (List.getElem?_eq_some_iff.mp hci).1
    refine ⟨_, rfl, Or.inl ⟨rfl, _, SqL.of hx1⟩, _, rfl, _, rfl, _, rfl, pl, rfl, ⟨_, SqL.of hx1⟩, ?_⟩
    refine comp_listT (xs := xs) (small_of (m := 100) (by rw [hps.len]; omega)) (fun j ys G => H' = G ∧ ys = (ps.take j).map fun p => nv p.2) ⟨rfl, rfl⟩ (fun j ys G hw => hw.1 ▸ SqL.of hx1) (fun j x ys G hxj _ hw => ?_) (fun ys G hw p2 hp2 => ?_)
    · obtain ⟨rfl, rfl⟩ := hw
      obtain ⟨p, hpj, a, rfl, ha⟩ := hps.at hxj
      refine ⟨a, _, _, rfl, ha, tt_true ?_⟩
      refine ⟨_, rfl, rfl, ?_⟩
      rw [List.take_succ, hpj, List.map_append]; rfl
    · obtain ⟨rfl, rfl⟩ := hw
      rw [hps.len, List.take_length]
      have s2 := same_new hp2 (.lst (ps.map fun p => nv p.2))
      refine ⟨c, pn, p2, zs, _, rfl, hbits c (List.mem_of_getElem? hci), (sH.trans s2).seq hpn, hzl, hzn, SqL.of upd_same, flat_nv ps, fun x p H3 s3 hpr hgp hnu => ?_⟩
      have s13 := s2.trans s3
      have hx3 : H3 pl = some (.lst xs) := s13 _ _ hx1
      refine ⟨pl, _, _, rfl, rfl, hx3, ?_, ⟨_, rfl⟩, ?_, xs ++ [x], ps ++ [p], upd_same, ?_, ?_, ?_, ?_⟩
      · have := small_of (n := 100) (m := 100) (Nat.le_refl _)
        rw [hps.len]; omega
      · intro b o hb
        rw [upd_ne (ne_of_none hb hpl)]; exact (sH.trans s13) b o hb
      · obtain ⟨a, e, ha⟩ := hpr
        exact paired_app (PsR.updL (hps.same s13) hx3) (.cons ⟨a, e, SqT.updL ha hx3⟩ .nil)
      · rw [List.length_append, hpl']; rfl
      · intro p' hp'
        rcases List.mem_append.mp hp' with e | e
        · exact hgd p' e
        · rw [List.mem_singleton.mp e]; exact hgp
      · rw [List.filterMap_append]
        obtain ⟨t, n⟩ := p
        cases n with
        | none => show (ps.filterMap (fun p : Part => p.2) ++ []).Nodup; rw [List.append_nil]; exact hnd
        | some z =>
          show (ps.filterMap (fun p : Part => p.2) ++ [z]).Nodup
          rw [List.nodup_append]
          refine ⟨hnd, by simp, fun a ha b hb e => ?_⟩
          rw [List.mem_singleton.mp hb] at e
          have h1 := used_in ha
          rw [e, hnu z rfl] at h1
          cases h1
  · obtain ⟨⟨u, rfl⟩, sH, xs, ps, hx1, hps, hpl', hgd, hnd⟩ := hh
    rw [List.length_map] at hpl'
    exact ⟨_, rfl, q pl xs ps _ sH hx1 hps hpl' hgd hnd⟩
theorem ok_law_body (T : Txt K mg A) : FnOk P w K mg base CX0 1 A.f_law_body A.d_law_body ["_law_times", "_law_name"] spPartS := by
  refine T.F_law_body.ok sc_law_body (fun vs H Q E h => ?_) (fun cdv A0 outer s H vs Q E hr h => ?_)
  · obtain ⟨p, rfl, _⟩ := h
    rfl
  obtain ⟨⟨t, n⟩, rfl, hg, q⟩ := h
  refine ⟨_, (pss_cons (ps_if (pt_cmpR op_isN (pv 1) pe_non (nomark _)) (pss_one (ps_ret (pe_callTy call_str_int (by rfl) T.n_str Bt.str (pa_cons (pe_callB call_abs (by rfl) T.n_abs Bt.abs (pa_cons (pv 0) pa_nil)) pa_nil)))) pss_nil)
      (pss_cons (ps_if (PW.pt (pw_or (pt_cmpR op_eq (pv 0) pe_int (nomark _)) (pw_or1 (pt_cmpR op_eq (pv 0) (pe_un un_neg pe_int) (nomark _))))) (pss_one (ps_ret (pv 1))) pss_nil)
      (pss_one (ps_ret (pe_op op_add_str (pe_op op_add_str (pe_callTy call_str_int (by rfl) T.n_str Bt.str (pa_cons (pe_callB call_abs (by rfl) T.n_abs Bt.abs (pa_cons (pv 0) pa_nil)) pa_nil)) pe_str) (pv 1)))))), ?_⟩
  have hlog : (((t.natAbs : Nat) : Int)).natAbs.log2 < 1920 := logOk (Nat.lt_trans (show (((t.natAbs : Nat) : Int)).natAbs < 10 ^ 60 by have := hg.1; omega) (by decide +kernel))
  cases n with
  | none =>
    refine ⟨_, rfl, rfl, _, rfl, iteT ?_⟩
    refine ⟨_, rfl, _, rfl, ?_⟩
    rw [abs_is]
    refine ⟨_, rfl, hlog, ?_⟩
    rw [num_dig]
    exact q
  | some z =>
    have hz := (hg.2 z rfl).1
    have fz := name_fine hz
    have hd : (dig t.natAbs).length ≤ 60 := dig_len (k := 60) (by decide) hg.1
    have q : Q (.str (S (if t.natAbs = 1 then cd z else dig t.natAbs ++ [32] ++ cd z))) H := q
    refine ⟨_, rfl, rfl, _, rfl, iteF ?_⟩
    refine ⟨_, rfl, rfl, _, rfl, ite2 (fun c => ?_) (fun c => ?_)⟩
    · have c' : t = 1 := V.int.inj (of_decide_eq_true c)
      rw [if_pos (by omega), S_cd] at q
      exact iteT ⟨_, rfl, q⟩
    · have c' : ¬ t = 1 := fun e => c (decide_eq_true (by rw [e]))
      refine ⟨_, rfl, _, rfl, rfl, _, rfl, ite2 (fun d => ?_) (fun d => ?_)⟩
      · have d' : t = -1 := V.int.inj (of_decide_eq_true d)
        rw [if_pos (by omega), S_cd] at q
        exact ⟨_, rfl, q⟩
      · have d' : ¬ t = -1 := fun e => d (decide_eq_true (by rw [e]))
        rw [if_neg (by omega)] at q
        refine ⟨_, rfl, t, rfl, ?_⟩
        rw [abs_is]
        refine ⟨_, rfl, hlog, ?_⟩
        rw [num_dig]
        refine ⟨_, _, rfl, rfl, small_of (m := 1000) (by rw [len_S]; show _ + 1 ≤ 1000; omega), ?_⟩
        have e : S (dig t.natAbs) ++ Str.ofString " " = S (dig t.natAbs ++ [32]) := by rw [show Str.ofString " " = S [32] by decide +kernel, S_app]
        rw [e]
        refine ⟨_, rfl, _, _, rfl, rfl, small_of (m := 1000) (by rw [len_S, List.length_append]; show _ + 1 + _ ≤ 1000; have := fz.len; omega), ?_⟩
        have e2 : S (dig t.natAbs ++ [32]) ++ z = S (dig t.natAbs ++ [32] ++ cd z) := (congrArg (fun y => S (dig t.natAbs ++ [32]) ++ y) (S_cd z).symm).trans (S_app _ _)
        rw [e2]
        exact q
end
end K12
set_option maxHeartbeats 1000000
namespace K12
open PySem L2
seal PE PT PW PA PS PSs PG PGs PI PO PSet OpR UnR CallR TruR IxR SlR PC PPs
local macro_rules | `(tactic| walk_at "rd1") => `(tactic| first
  | (refine And.intro rfl ?_)
  | (refine And.intro (by assumption) ?_)
  | (refine And.intro (fun _ e => e) ?_)
  | (refine And.intro (TyOf.str _) ?_) | (refine And.intro (TyOf.int _) ?_) | (refine And.intro (TyOf.bl _) ?_) | (refine And.intro TyOf.non ?_)
  | (refine iteT ?_) | (refine iteF ?_)
  | (apply Exists.intro))
local macro_rules | `(tactic| walk_at "rd") => `(tactic| repeat (walk_at "rd1"))

def spText (K : PySem.W.Frag) : Sp := fun vs H Q _ => ∃ (pl : Addr) (xs : List V) (ps : List Part), vs = [.ref pl] ∧ SqL K H pl xs ∧ PsR K H xs ps ∧ ps.length ≤ 12 ∧ (∀ p ∈ ps, PGood p) ∧ Q (.str (S (joinL [32] (elems 0 ps)))) H
theorem PsR.nth {K : PySem.W.Frag} {H : Hp} {xs : List V} {ps : List Part} (h : PsR K H xs ps) {i : Nat} (hi : i < ps.length) : ∃ a p, xs[i]? = some (.ref a) ∧ ps[i]? = some p ∧ SqT K H a [.int p.1, nv p.2] := by
  have hl := h.len
  have hx : xs[i]? = some xs[i] := List.getElem?_eq_getElem (by omega)
  obtain ⟨p, hp, a, e, ha⟩ := h.at hx
  exact ⟨a, p, by rw [hx, e], hp, ha⟩
/-- one more part -/
theorem text_step {E : List (List Nat)} {sg pt : List Nat} : joinL [32] ([] ++ ([sg] ++ [pt])) = [] ++ (sg ++ [32]) ++ pt ∧ (E ≠ [] → joinL [32] (E ++ ([sg] ++ [pt])) = (joinL [32] E ++ [32]) ++ (sg ++ [32]) ++ pt) := by
  refine ⟨rfl, fun h => ?_⟩
  rw [joinL_app h (by simp)]
  show joinL [32] E ++ [32] ++ (sg ++ [32] ++ pt) = _
  simp [List.append_assoc]
section
variable {P : Program} {w : World} {K : PySem.W.Frag} {mg : Str → Option Value} {base : Heap} {A : Adr}
theorem ok_law_text (T : Txt K mg A) : FnOk P w K mg base CX0 2 A.f_law_text A.d_law_text ["_law_parts"] (spText K) := by
  have G_law_body := ok_law_body (P := P) (w := w) (base := base) T
  refine T.F_law_text.ok sc_law_text (fun vs H Q E h => ?_) (fun cdv A0 outer s H vs Q E hr h => ?_)
  · obtain ⟨pl, xs, ps, rfl, _⟩ := h
    rfl
  obtain ⟨pl, xs, ps, rfl, hl, hp, h12, hg, q⟩ := h
  refine ⟨_, (pss_cons (ps_set (i := 1) sc_law_text.nd rfl (by first | exact Or.inl rfl | exact Or.inr rfl) pe_str)
      (pss_cons (ps_forR PassesOwn.never rfl (pi_range1 rfl T.n_range (pa_cons (pe_callB call_len_seq (by rfl) T.n_len PySem.boot_len (pa_cons (pv 0) pa_nil)) pa_nil)) (pg_name (i := 2) sc_law_text.nd rfl (by first | exact Or.inl rfl | exact Or.inr rfl)) (pss_cons (ps_if (pt_cmpR op_gt (pv 2) pe_int (nomark _)) (pss_one (ps_set (i := 1) sc_law_text.nd rfl (by first | exact Or.inl rfl | exact Or.inr rfl) (pe_op op_add_str (pv 1) pe_str))) pss_nil)
      (pss_cons (ps_if (pt_cmpR op_lt (pe_ix ix_tup (pe_ix ix_list (pv 0) (pv 2) (fun _ _ => rfl)) pe_int (fun _ _ => rfl)) pe_int (nomark _)) (pss_one (ps_set (i := 1) sc_law_text.nd rfl (by first | exact Or.inl rfl | exact Or.inr rfl) (pe_op op_add_str (pv 1) pe_str))) (pss_one (ps_if (pt_cmpR op_gt (pv 2) pe_int (nomark _)) (pss_one (ps_set (i := 1) sc_law_text.nd rfl (by first | exact Or.inl rfl | exact Or.inr rfl) (pe_op op_add_str (pv 1) pe_str))) pss_nil)))
      (pss_one (ps_set (i := 1) sc_law_text.nd rfl (by first | exact Or.inl rfl | exact Or.inr rfl) (pe_op op_add_str (pv 1) (pe_call G_law_body (hr.mono (by decide)) rfl T.m_law_body T.k_law_body T.b_law_body .nil pass0 (pa_cons (pe_ix ix_tup (pe_ix ix_list (pv 0) (pv 2) (fun _ _ => rfl)) pe_int (fun _ _ => rfl)) (pa_cons (pe_ix ix_tup (pe_ix ix_list (pv 0) (pv 2) (fun _ _ => rfl)) pe_int (fun _ _ => rfl)) pa_nil)))))))))
      (pss_one (ps_ret (pv 1))))), ?_⟩
  refine ⟨_, rfl, pl, _, rfl, .inl hl, _, rfl, (by rw [hp.len]; omega), (by rw [hp.len]; omega), ?_⟩
  rw [hp.len, show ((ps.length : Int)).toNat = ps.length by omega]
  refine for_rangeR (fun i σ H' => H = H' ∧ ∃ u, σ = [some (.ref pl), some (.str (S (joinL [32] (elems 0 (ps.take i))))), u]) ⟨rfl, _, by rw [List.take_zero]; rfl⟩ (fun i σ H' hi hh => ?_) (fun σ H' hh => ?_)
  · obtain ⟨rfl, u, rfl⟩ := hh
    obtain ⟨a, p, hxi, hpi, ha⟩ := hp.nth hi
    have hgp := hg p (List.mem_of_getElem? hpi)
    have hat : atI xs (0 + (i : Int)) = some (.ref a) := by rw [Int.zero_add]; exact atI_nat hxi
    have ha0 : atI [V.int p.1, nv p.2] ((0 : Nat) : Int) = some (V.int p.1) := atI_nat rfl
    have ha1 : atI [V.int p.1, nv p.2] ((1 : Nat) : Int) = some (nv p.2) := atI_nat rfl
    have et : ps.take (i + 1) = ps.take i ++ [p] := by rw [List.take_succ, hpi]; rfl
    have htl : (ps.take i).length = i := by rw [List.length_take]; omega
    have es := elems_snoc (ps.take i) 0 p
    rw [← et, htl, Nat.zero_add] at es
    have fl := text_fine (ps := ps.take i) (by rw [htl]; omega) (fun p hp => hg p (List.mem_of_mem_take hp))
    have hE : 0 < i → elems 0 (ps.take i) ≠ [] := fun h0 e => by
      cases hq : ps.take i with
      | nil => rw [hq] at htl; simp at htl; omega
      | cons q0 r0 =>
        rw [hq] at e
        have e' : (_ ++ [partS q0]) ++ elems 1 r0 = [] := e
        simp at e'
    have fp : Fine 73 (S (partS p)) := ⟨by rw [len_S]; exact part_len hgp, fun c hc => by rw [cd_S] at hc; exact part_ch hgp c hc⟩
    generalize hX : joinL [32] (elems 0 (ps.take i)) = X at fl
    -- the blank
    refine seq_mid (fun σ' H2 => H2 = H ∧ ∃ Y : List Nat, σ' = [some (.ref pl), some (.str (S Y)), some (.int (0 + (i : Int)))] ∧ Y = (if 0 < i then X ++ [32] else X) ∧ Fine 913 (S Y)) ?k1 ?m1
    case m1 =>
      intro key
      refine ⟨_, rfl, _, _, rfl, rfl, _, rfl, ite2 (fun c => ?_) (fun c => ?_)⟩
      · have c' : 0 < i := by have := of_decide_eq_true c; omega
        have fb : Fine 1 (Str.ofString " ") := ⟨by decide +kernel, by decide +kernel⟩
        refine ⟨_, rfl, _, _, rfl, rfl, small_of (m := 1000) (by have := fl.len; have := fb.len; omega), ?_⟩
        have e : S X ++ Str.ofString " " = S (X ++ [32]) := by rw [show Str.ofString " " = S [32] by decide +kernel, S_app]
        have f2 := fl.app fb
        rw [e] at f2 ⊢
        exact key _ _ ⟨rfl, X ++ [32], rfl, (if_pos c').symm, f2⟩
      · have c' : ¬ 0 < i := fun h => c (decide_eq_true (show (0 : Int) < 0 + (i : Int) by omega))
        exact key _ _ ⟨rfl, X, rfl, (if_neg c').symm, fl.mono (by decide)⟩
    case k1 =>
      rintro σ' H2 ⟨rfl, Y, rfl, hY, fY⟩
      refine seq_mid (fun σ' H3 => H3 = H2 ∧ ∃ Z : List Nat, σ' = [some (.ref pl), some (.str (S Z)), some (.int (0 + (i : Int)))] ∧ Z = Y ++ (if p.1 < 0 then [45, 32] else if 0 < i then [43, 32] else []) ∧ Fine 915 (S Z)) ?k2 ?m2
      case m2 =>
        intro key
        refine ⟨_, rfl, _, rfl, pl, _, _, _, rfl, rfl, hl, hat, a, _, _, _, rfl, rfl, ha, ha0, _, _, rfl, rfl, _, rfl, ite2 (fun c => ?_) (fun c => ?_)⟩
        · have c' : p.1 < 0 := of_decide_eq_true c
          have fb : Fine 2 (Str.ofString "- ") := ⟨by decide +kernel, by decide +kernel⟩
          refine ⟨_, rfl, _, _, rfl, rfl, small_of (m := 1000) (by have := fY.len; have := fb.len; omega), ?_⟩
          have e : S Y ++ Str.ofString "- " = S (Y ++ [45, 32]) := by rw [show Str.ofString "- " = S [45, 32] by decide +kernel, S_app]
          have f2 := fY.app fb
          rw [e] at f2 ⊢
          exact key _ _ ⟨rfl, _, rfl, by rw [if_pos c'], f2⟩
        · have c' : ¬ p.1 < 0 := fun h => c (decide_eq_true h)
          refine ⟨_, rfl, _, _, rfl, rfl, _, rfl, ite2 (fun d => ?_) (fun d => ?_)⟩
          · have d' : 0 < i := by have := of_decide_eq_true d; omega
            have fb : Fine 2 (Str.ofString "+ ") := ⟨by decide +kernel, by decide +kernel⟩
            refine ⟨_, rfl, _, _, rfl, rfl, small_of (m := 1000) (by have := fY.len; have := fb.len; omega), ?_⟩
            have e : S Y ++ Str.ofString "+ " = S (Y ++ [43, 32]) := by rw [show Str.ofString "+ " = S [43, 32] by decide +kernel, S_app]
            have f2 := fY.app fb
            rw [e] at f2 ⊢
            exact key _ _ ⟨rfl, _, rfl, by rw [if_neg c', if_pos d'], f2⟩
          · have d' : ¬ 0 < i := fun h => d (decide_eq_true (show (0 : Int) < 0 + (i : Int) by omega))
            exact key _ _ ⟨rfl, Y, rfl, by rw [if_neg c', if_neg d', List.append_nil], fY.mono (by decide)⟩
      case k2 =>
        rintro σ' H3 ⟨rfl, Z, rfl, hZ, fZ⟩
        refine ⟨_, rfl, _, rfl, _, rfl, pl, _, _, _, rfl, rfl, hl, hat, a, _, _, _, rfl, rfl, ha, ha0, ?_⟩
        refine ⟨_, rfl, _, rfl, pl, _, _, _, rfl, rfl, hl, hat, a, _, _, _, rfl, rfl, ha, ha1, ?_⟩
        refine ⟨p, rfl, hgp, _, _, rfl, rfl, small_of (m := 1000) (by have := fZ.len; have := fp.len; omega), rfl, some (.int (0 + (i : Int))), ?_⟩
        rw [S_app]
        have : Z ++ partS p = joinL [32] (elems 0 (ps.take (i + 1))) := by
          rw [hZ, hY, es]
          obtain ⟨t1, t2⟩ := text_step (E := elems 0 (ps.take i)) (sg := if p.1 < 0 then [45] else [43]) (pt := partS p)
          by_cases hi0 : 0 < i
          · rw [if_pos hi0, if_pos hi0]
            have t3 := t2 (hE hi0)
            rw [hX] at t3
            by_cases c : p.1 < 0
            · rw [if_pos c] at t3; rw [if_pos c, if_pos c, t3]; rfl
            · rw [if_neg c] at t3; rw [if_neg c, if_neg c, if_pos hi0, t3]; rfl
          · have i0 : i = 0 := by omega
            subst i0
            rw [if_neg hi0, if_neg hi0]
            have hX0 : X = [] := by rw [← hX, List.take_zero]; rfl
            rw [hX0]
            by_cases c : p.1 < 0
            · rw [if_pos c, if_pos c, List.take_zero]; rfl
            · rw [if_neg c, if_neg c, List.take_zero]; rfl
        rw [this]
        rfl
  · obtain ⟨rfl, u, rfl⟩ := hh
    rw [List.take_length]
    exact ⟨_, rfl, q⟩
end
end K12
set_option maxHeartbeats 1000000
namespace K12
open PySem L2
seal PE PT PW PA PS PSs PG PGs PI PO PSet OpR UnR CallR TruR IxR SlR PC PPs
local macro_rules | `(tactic| walk_at "rd1") => `(tactic| first
  | (refine And.intro rfl ?_)
  | (refine And.intro (by assumption) ?_)
  | (refine And.intro (fun _ e => e) ?_)
  | (refine And.intro (TyOf.str _) ?_) | (refine And.intro (TyOf.int _) ?_) | (refine And.intro (TyOf.bl _) ?_) | (refine And.intro TyOf.non ?_)
  | (refine iteT ?_) | (refine iteF ?_)
  | (apply Exists.intro))
local macro_rules | `(tactic| walk_at "rd") => `(tactic| repeat (walk_at "rd1"))

def Wd (ps : List Part) : List (List Nat) := (wg 0 ps).flatten
theorem Wd_text (ps : List Part) : joinL [32] (elems 0 ps) = joinL [32] (Wd ps) := by rw [wg_map, joinL_flat (wg_ne _ _)]; rfl
theorem Wd_cons (p : Part) (r : List Part) : Wd (p :: r) = (if p.1 < 0 then [[45]] else []) ++ partW p ++ SG r := by
  show ((if p.1 < 0 then [[[45]]] else if 0 < 0 then [[[43]]] else []) ++ [partW p] ++ wg 1 r).flatten = _
  rw [List.flatten_append, List.flatten_append, wg_flat r 1 (by decide), if_neg (show ¬ 0 < 0 by decide)]
  split <;> simp
theorem Wd_ne {ps : List Part} (h : ps ≠ []) : Wd ps ≠ [] := by
  cases ps with
  | nil => exact absurd rfl h
  | cons p r =>
    rw [Wd_cons]
    intro e
    exact partW_ne p (List.append_eq_nil_iff.mp (List.append_eq_nil_iff.mp e).1).2
theorem Wd_nb {ps : List Part} (h : ∀ p ∈ ps, PGood p) : ∀ l ∈ Wd ps, 32 ∉ l := by
  cases ps with
  | nil => intro l hl; cases hl
  | cons p r =>
    rw [Wd_cons]
    intro l hl
    rcases List.mem_append.mp hl with e | e
    · rcases List.mem_append.mp e with e | e
      · split at e
        · rw [List.mem_singleton.mp e]; decide
        · cases e
      · exact (word_no (h p (by simp)) e).1
    · exact sg_words (fun q hq => h q (List.mem_cons_of_mem _ hq)) l e
theorem signed_app {ps : List Part} (hne : ps ≠ []) (h : ∀ p ∈ ps, PGood p) (Y : List (List Nat)) : signedL (Wd ps ++ Y) = SG ps ++ Y := by
  cases ps with
  | nil => exact absurd rfl hne
  | cons p r =>
    rw [Wd_cons]
    show _ = ((sgnL p :: partW p) ++ SG r) ++ Y
    unfold signedL sgnL
    by_cases c : p.1 < 0
    · rw [if_pos c, if_pos c]; exact if_pos rfl
    · rw [if_neg c, if_neg c]
      obtain ⟨a, b, eab⟩ : ∃ a b, partW p = a :: b := by
        cases e : partW p with
        | nil => exact absurd e (partW_ne p)
        | cons a b => exact ⟨a, b, rfl⟩
      have ha := (word_no (h p (by simp)) (l := a) (by rw [eab]; simp)).2
      rw [eab]
      show (if some a = some [45] then _ else _) = _
      rw [if_neg (fun e => ha (.inr (Option.some.inj e)))]
      rfl
/-- groups ahead stay -/
theorem grp_pre : ∀ (ws : List (List Nat)) (gs : List (List (List Nat))) (g : List (List Nat)), ∃ hs, ws.foldl stepG (gs ++ [g]) = gs ++ hs ∧ hs ≠ []
  | [], gs, g => ⟨[g], rfl, by simp⟩
  | w :: r, gs, g => by
    show ∃ hs, r.foldl stepG (stepG (gs ++ [g]) w) = gs ++ hs ∧ hs ≠ []
    by_cases c : w = [43] ∨ w = [45]
    · have e1 : stepG (gs ++ [g]) w = gs ++ [g] ++ [[w]] := if_pos c
      rw [e1]
      obtain ⟨hs, e, hn⟩ := grp_pre r (gs ++ [g]) [w]
      exact ⟨[g] ++ hs, by rw [e, List.append_assoc], by simp⟩
    · have e1 : stepG (gs ++ [g]) w = gs ++ [g ++ [w]] := (if_neg c).trans (putLast_snoc _ _ _)
      rw [e1]
      exact grp_pre r gs (g ++ [w])
theorem grp_has {A : List Part} (hA : ∀ p ∈ A, PGood p) {sg : List Nat} (hs : sg = [43] ∨ sg = [45]) {W C : List (List Nat)} (hW : ∀ l ∈ W, ¬ (l = [43] ∨ l = [45])) (hC : C = [] ∨ ∃ c r, C = c :: r ∧ (c = [43] ∨ c = [45])) :
    (sg :: W) ∈ grpL (SG A ++ (sg :: W) ++ C) := by
  unfold grpL
  rw [List.foldl_append, List.foldl_append, grp_sg A hA []]
  have e2 : (sg :: W).foldl stepG ([] ++ A.map fun p => sgnL p :: partW p) = ([] ++ A.map fun p => sgnL p :: partW p) ++ [sg :: W] := by
    show W.foldl stepG (stepG _ sg) = _
    have e1 : ∀ gs, stepG gs sg = gs ++ [[sg]] := fun gs => by unfold stepG; rw [if_pos hs]
    rw [e1, fold_words _ _ _ hW]
    rfl
  rw [e2]
  rcases hC with e | ⟨c, r, e, hc⟩
  · subst e; simp
  · subst e
    show (sg :: W) ∈ r.foldl stepG (stepG _ c)
    have e1 : ∀ gs, stepG gs c = gs ++ [[c]] := fun gs => by unfold stepG; rw [if_pos hc]
    rw [e1]
    obtain ⟨hs', e, _⟩ := grp_pre r ((([] ++ A.map fun p => sgnL p :: partW p)) ++ [sg :: W]) [c]
    rw [e]
    simp
theorem none_of {l : List Nat} {A : List Part} (hA : ∀ p ∈ A, PGood p) {sg : List Nat} (hs : sg = [43] ∨ sg = [45]) {W C : List (List Nat)} (hW : ∀ l ∈ W, ¬ (l = [43] ∨ l = [45])) (hC : C = [] ∨ ∃ c r, C = c :: r ∧ (c = [43] ∨ c = [45]))
    (e : signedL (splitL l) = SG A ++ (sg :: W) ++ C) (hB : partB sg W = none) : sumB l = none := by
  have hm := grp_has hA hs hW hC
  have ho : none ∈ optsB l := by
    unfold optsB
    rw [e]
    exact List.mem_map.mpr ⟨_, hm, hB⟩
  unfold sumB
  rw [if_neg]
  unfold partsB
  have : (optsB l).any Option.isNone = true := List.any_eq_true.mpr ⟨none, ho, rfl⟩
  rw [this]
  intro z; cases z
theorem SG_hd (R : List Part) : SG R = [] ∨ ∃ c r, SG R = c :: r ∧ (c = [43] ∨ c = [45]) := by
  cases R with
  | nil => exact .inl rfl
  | cons p r => exact .inr ⟨sgnL p, partW p ++ SG r, rfl, by unfold sgnL; split; (exact .inr rfl); exact .inl rfl⟩
/-- parts behind -/
def tailT (R : List Part) : List Nat := (R.map fun r => [32] ++ sgnL r ++ [32] ++ partS r).flatten
theorem tail_join : ∀ (R : List Part) {X : List (List Nat)}, X ≠ [] → joinL [32] X ++ tailT R = joinL [32] (X ++ SG R)
  | [], X, _ => by show joinL [32] X ++ [] = joinL [32] (X ++ []); rw [List.append_nil, List.append_nil]
  | p :: r, X, h => by
    show joinL [32] X ++ (([32] ++ sgnL p ++ [32] ++ partS p) ++ tailT r) = joinL [32] (X ++ ((sgnL p :: partW p) ++ SG r))
    rw [← List.append_assoc X, ← tail_join r (X := X ++ (sgnL p :: partW p)) (by simp [h]), joinL_app h (by simp)]
    have e : joinL [32] (sgnL p :: partW p) = sgnL p ++ [32] ++ partS p := by
      rw [show sgnL p :: partW p = [sgnL p] ++ partW p from rfl, joinL_app (by simp) (partW_ne p), partW_join]; rfl
    rw [e]
    simp [List.append_assoc]
def sgM (m : Bool) : List Nat := if m = true then [45] else [43]
def spoilT (A : List Part) (m : Bool) (b : List Nat) (R : List Part) : List Nat :=
  (if A = [] then (if m = true then [45, 32] else []) else joinL [32] (elems 0 A) ++ ([32] ++ sgM m ++ [32])) ++ b ++ tailT R
theorem spoil_none {A R : List Part} (hA : ∀ p ∈ A, PGood p) (hR : ∀ p ∈ R, PGood p) {m : Bool} {W : List (List Nat)} (hWn : W ≠ []) (hWb : ∀ l ∈ W, 32 ∉ l)
    (h : ((∀ l ∈ W, ¬ (l = [43] ∨ l = [45])) ∧ (A = [] → m = false → partB [43] W = none) ∧ partB (sgM m) W = none) ∨ W = [[45]]) : sumB (spoilT A m (joinL [32] W) R) = none := by
  have hsm : sgM m = [43] ∨ sgM m = [45] := by unfold sgM; split; (exact .inr rfl); exact .inl rfl
  have hb32 : 32 ∉ sgM m := by unfold sgM; split <;> decide
  have sgR := sg_words hR
  unfold spoilT
  by_cases hA0 : A = []
  · rw [if_pos hA0]
    cases m with
    | true =>
      rw [if_pos rfl]
      have et : [45, 32] ++ joinL [32] W ++ tailT R = joinL [32] ([45] :: W ++ SG R) := by
        rw [← tail_join R (X := [45] :: W) (by simp)]
        rw [show [45] :: W = [[45]] ++ W from rfl, joinL_app (by simp) hWn]
        rfl
      rw [et]
      have es : splitL (joinL [32] ([45] :: W ++ SG R)) = [45] :: W ++ SG R := splitL_of (by simp) fun l hl => by
        rcases List.mem_append.mp hl with e | e
        · rcases List.mem_cons.mp e with e | e
          · rw [e]; decide
          · exact hWb l e
        · exact sgR l e
      rcases h with ⟨h1, _, h3⟩ | e
      · refine none_of (A := []) (fun p hp => by cases hp) (sg := [45]) (.inr rfl) h1 (SG_hd R) ?_ h3
        rw [es]; exact if_pos rfl
      · subst e
        refine none_of (A := []) (fun p hp => by cases hp) (sg := [45]) (.inr rfl) (W := []) (C := [45] :: SG R) (fun l hl => by cases hl) (.inr ⟨_, _, rfl, .inr rfl⟩) ?_ rfl
        rw [es]; exact if_pos rfl
    | false =>
      rw [if_neg (by decide), List.nil_append, tail_join R hWn]
      have es : splitL (joinL [32] (W ++ SG R)) = W ++ SG R := splitL_of (by simp [hWn]) fun l hl => by
        rcases List.mem_append.mp hl with e | e
        · exact hWb l e
        · exact sgR l e
      rcases h with ⟨h1, h2, _⟩ | e
      · refine none_of (A := []) (fun p hp => by cases hp) (sg := [43]) (.inl rfl) h1 (SG_hd R) ?_ (h2 hA0 rfl)
        rw [es]
        obtain ⟨a, b, eab⟩ : ∃ a b, W = a :: b := by
          cases e : W with
          | nil => exact absurd e hWn
          | cons a b => exact ⟨a, b, rfl⟩
        have ha := h1 a (by rw [eab]; simp)
        rw [eab]
        show (if some a = some [45] then _ else _) = _
        rw [if_neg (fun e => ha (.inr (Option.some.inj e)))]
        rfl
      · subst e
        refine none_of (A := []) (fun p hp => by cases hp) (sg := [45]) (.inr rfl) (W := []) (fun l hl => by cases hl) (SG_hd R) ?_ rfl
        rw [es]; exact if_pos rfl
  · rw [if_neg hA0, Wd_text]
    have et : joinL [32] (Wd A) ++ ([32] ++ sgM m ++ [32]) ++ joinL [32] W ++ tailT R = joinL [32] (Wd A ++ (sgM m :: W) ++ SG R) := by
      rw [← tail_join R (X := Wd A ++ (sgM m :: W)) (by simp), joinL_app (Wd_ne hA0) (by simp), show sgM m :: W = [sgM m] ++ W from rfl, joinL_app (by simp) hWn]
      show _ = joinL [32] (Wd A) ++ [32] ++ (sgM m ++ [32] ++ joinL [32] W) ++ tailT R
      simp [List.append_assoc]
    rw [et]
    have es : splitL (joinL [32] (Wd A ++ (sgM m :: W) ++ SG R)) = Wd A ++ (sgM m :: W) ++ SG R := splitL_of (by simp) fun l hl => by
      rcases List.mem_append.mp hl with e | e
      · rcases List.mem_append.mp e with e | e
        · exact Wd_nb hA l e
        · rcases List.mem_cons.mp e with e | e
          · rw [e]; exact hb32
          · exact hWb l e
      · exact sgR l e
    rcases h with ⟨h1, _, h3⟩ | e
    · refine none_of hA hsm h1 (SG_hd R) ?_ h3
      rw [es, List.append_assoc, signed_app hA0 hA, ← List.append_assoc]
    · subst e
      refine none_of hA hsm (W := []) (C := [45] :: SG R) (fun l hl => by cases hl) (.inr ⟨_, _, rfl, .inr rfl⟩) ?_ rfl
      rw [es, List.append_assoc, signed_app hA0 hA]
      simp [List.append_assoc]
/-- text and more words -/
theorem more_words {ps : List Part} (hne : ps ≠ []) (h : ∀ p ∈ ps, PGood p) {Y : List (List Nat)} (hY : Y ≠ []) (hYb : ∀ l ∈ Y, 32 ∉ l) : signedL (splitL (joinL [32] (elems 0 ps) ++ [32] ++ joinL [32] Y)) = SG ps ++ Y := by
  rw [Wd_text, ← joinL_app (Wd_ne hne) hY, splitL_of (by simp [hY]), signed_app hne h]
  intro l hl
  rcases List.mem_append.mp hl with e | e
  · exact Wd_nb h l e
  · exact hYb l e
theorem plus_ahead {ps : List Part} (hne : ps ≠ []) (h : ∀ p ∈ ps, PGood p) : sumB ([43, 32] ++ joinL [32] (elems 0 ps)) = none := by
  have et : [43, 32] ++ joinL [32] (elems 0 ps) = joinL [32] ([43] :: Wd ps) := by
    rw [Wd_text, show [43] :: Wd ps = [[43]] ++ Wd ps from rfl, joinL_app (by simp) (Wd_ne hne)]; rfl
  have es : splitL (joinL [32] ([43] :: Wd ps)) = [43] :: Wd ps := splitL_of (by simp) fun l hl => by
    rcases List.mem_cons.mp hl with e | e
    · rw [e]; decide
    · exact Wd_nb h l e
  refine none_of (A := []) (fun p hp => by cases hp) (sg := [43]) (.inl rfl) (W := []) (C := [43] :: Wd ps) (fun l hl => by cases hl) (.inr ⟨_, _, rfl, .inl rfl⟩) ?_ rfl
  rw [et, es]
  unfold signedL
  rw [if_neg (by show ¬ some [43] = some [45]; decide)]
  rfl
theorem plus_behind {ps : List Part} (hne : ps ≠ []) (h : ∀ p ∈ ps, PGood p) : sumB (joinL [32] (elems 0 ps) ++ [32, 43]) = none := by
  refine none_of h (sg := [43]) (.inl rfl) (W := []) (C := []) (fun l hl => by cases hl) (.inl rfl) ?_ rfl
  have := more_words hne h (Y := [[43]]) (by simp) (fun l hl => by rw [List.mem_singleton.mp hl]; decide)
  rw [show joinL [32] (elems 0 ps) ++ [32, 43] = joinL [32] (elems 0 ps) ++ [32] ++ joinL [32] [[43]] by rw [List.append_assoc]; rfl, this, List.append_nil]
theorem SG_app (a b : List Part) : SG (a ++ b) = SG a ++ SG b := by unfold SG; rw [List.map_append, List.flatten_append]
theorem part_blank (sg : List Nat) (p : Part) : partB sg (partW p ++ [[]]) = none := by
  have hl : lastN (partW p ++ [[]]) = none := by
    unfold lastN
    rw [List.getLast?_append]
    show (if nameB (S []) = true then some (S []) else none) = none
    rw [show nameB (S []) = false by decide +kernel]; rfl
  obtain ⟨a, b, eab⟩ : ∃ a b, partW p = a :: b := by
    cases e : partW p with
    | nil => exact absurd e (partW_ne p)
    | cons a b => exact ⟨a, b, rfl⟩
  have hn : numN (numsN (partW p ++ [[]])) = none := by
    unfold numsN
    rw [hl, if_neg (by decide), eab]
    cases b with
    | nil => rfl
    | cons c d => rfl
  unfold partB
  rw [hl, if_neg (by intro z; cases z.1), hn]
theorem blank_behind {ps : List Part} (hne : ps ≠ []) (h : ∀ p ∈ ps, PGood p) : sumB (joinL [32] (elems 0 ps) ++ [32]) = none := by
  have hw := more_words hne h (Y := [[]]) (by simp) (fun l hl => by rw [List.mem_singleton.mp hl]; decide)
  rcases List.eq_nil_or_concat ps with e | ⟨r, p, e⟩
  · exact absurd e hne
  rw [List.concat_eq_append] at e
  subst e
  have hr : ∀ q ∈ r, PGood q := fun q hq => h q (by simp [hq])
  have hp := h p (by simp)
  have e : joinL [32] (elems 0 (r ++ [p])) ++ [32] = joinL [32] (elems 0 (r ++ [p])) ++ [32] ++ joinL [32] [[]] := by show _ = _ ++ []; rw [List.append_nil]
  refine none_of hr (sg := sgnL p) (by unfold sgnL; split; (exact .inr rfl); exact .inl rfl) (W := partW p ++ [[]]) (C := []) (fun l hl => ?_) (.inl rfl) ?_ (part_blank _ p)
  · rcases List.mem_append.mp hl with e | e
    · exact (word_no hp e).2
    · rw [List.mem_singleton.mp e]; decide
  · rw [e, hw, SG_app]
    show SG r ++ ((sgnL p :: partW p) ++ []) ++ [[]] = SG r ++ (sgnL p :: (partW p ++ [[]])) ++ []
    simp
theorem more_parts {ps qs : List Part} (hne : ps ≠ []) (hq : qs ≠ []) (h : ∀ p ∈ ps, PGood p) (hg : ∀ p ∈ qs, PGood p) : optsB (joinL [32] (elems 0 ps) ++ tailT qs) = (ps ++ qs).map some := by
  unfold optsB
  rw [Wd_text, tail_join qs (Wd_ne hne), splitL_of (by simp [Wd_ne hne]), signed_app hne h, ← SG_app]
  · show (((SG (ps ++ qs)).foldl stepG []).map _) = _
    have hpq : ∀ p ∈ ps ++ qs, PGood p := fun p hp => by
      rcases List.mem_append.mp hp with e | e
      · exact h p e
      · exact hg p e
    rw [grp_sg _ hpq [], List.nil_append, List.map_map]
    exact List.map_congr_left fun p hp => part_round (hpq p hp)
  · intro l hl
    rcases List.mem_append.mp hl with e | e
    · exact Wd_nb h l e
    · exact sg_words hg l e
theorem twice_none {ps : List Part} (hne : ps ≠ []) (h : ∀ p ∈ ps, PGood p) {z : Str} (hz : z ∈ ps.filterMap (·.2)) : sumB (joinL [32] (elems 0 ps) ++ tailT [(-3, some z)]) = none := by
  obtain ⟨p, hp, e⟩ := List.mem_filterMap.mp hz
  have hzn := ((h p hp).2 z e).1
  have hg : ∀ q ∈ [((-3 : Int), some z)], PGood q := fun q hq => by
    rw [List.mem_singleton.mp hq]
    exact ⟨(by show (-3 : Int).natAbs < 10 ^ 60; decide +kernel), fun y ey => by cases ey; exact ⟨hzn, (by show (-3 : Int) ≠ 0; decide)⟩⟩
  unfold sumB
  rw [more_parts hne (by simp) h hg, if_neg]
  unfold partsB
  have hu : unlikeB ((namesOf ((ps ++ [((-3 : Int), some z)]).map some)).map V.str) = false := by
    rw [names_some, unlike_strs, List.filterMap_append]
    have : ¬ (ps.filterMap (fun p : Part => p.2) ++ [((-3 : Int), some z)].filterMap (fun p : Part => p.2)).Nodup := by
      show ¬ (ps.filterMap (fun p : Part => p.2) ++ [z]).Nodup
      rw [List.nodup_append]
      rintro ⟨_, _, hd⟩
      exact hd z hz z (by simp) rfl
    rw [decide_eq_false this, Bool.and_false]
  rw [hu, Bool.and_false]
  decide
theorem many_none {ps : List Part} (hne : ps ≠ []) (h : ∀ p ∈ ps, PGood p) : sumB (joinL [32] (elems 0 ps) ++ tailT (List.replicate 12 (7, none))) = none := by
  have hg : ∀ q ∈ List.replicate 12 ((7 : Int), (none : Option Str)), PGood q := fun q hq => by
    rw [List.eq_of_mem_replicate hq]
    exact ⟨by decide +kernel, fun y ey => by cases ey⟩
  unfold sumB
  rw [more_parts hne (by simp) h hg, if_neg]
  unfold partsB
  have : ¬ ((ps ++ List.replicate 12 ((7 : Int), (none : Option Str))).map some).length ≤ 12 := by
    rw [List.length_map, List.length_append, List.length_replicate]
    cases ps with
    | nil => exact absurd rfl hne
    | cons a r => rw [List.length_cons]; omega
  rw [decide_eq_false this, Bool.and_false]
  intro z; cases z
end K12
set_option maxHeartbeats 1000000
namespace K12
open PySem L2
seal PE PT PW PA PS PSs PG PGs PI PO PSet OpR UnR CallR TruR IxR SlR PC PPs
local macro_rules | `(tactic| walk_at "rd1") => `(tactic| first
  | (refine And.intro rfl ?_)
  | (refine And.intro (by assumption) ?_)
  | (refine And.intro (fun _ e => e) ?_)
  | (refine And.intro (TyOf.str _) ?_) | (refine And.intro (TyOf.int _) ?_) | (refine And.intro (TyOf.bl _) ?_) | (refine And.intro TyOf.non ?_)
  | (refine iteT ?_) | (refine iteF ?_)
  | (apply Exists.intro))
local macro_rules | `(tactic| walk_at "rd") => `(tactic| repeat (walk_at "rd1"))

def badWs (nm : List Nat) : List (List (List Nat)) := [[[48], nm], [[49], nm], [[48, 48, 55]], [[45, 51]], [[65, 98]], [nm, nm], [[101, 110, 100]], [[97, 98, 99, 100, 101, 102, 103, 104, 105, 106, 107, 108, 109]], [49 :: repN [48] 60], [[]], [[50], [51]], [nm, [50]], [[50], [42], nm], [[50], [], nm], [[45]], [nm ++ [10]]]
theorem pb_name {sg nm : List Nat} (hn : nameB (S nm) = true) {r : List (List Nat)} (hr : r ≠ []) (h : ∀ m, numN r = some m → m < 2) : partB sg (r ++ [nm]) = none := by
  have hl : lastN (r ++ [nm]) = some (S nm) := by
    unfold lastN
    rw [List.getLast?_append]
    show (if nameB (S nm) = true then some (S nm) else none) = _
    rw [if_pos hn]
  have hnu : numsN (r ++ [nm]) = r := by unfold numsN; rw [hl]; show (r ++ [nm]).dropLast = r; simp
  unfold partB
  rw [hl, hnu, if_neg (by intro z; exact hr (List.length_eq_zero_iff.mp z.2))]
  cases e : numN r with
  | none => rfl
  | some m =>
    show (if m < least sg (some (S nm)) then none else _) = none
    exact if_pos (h m e)
theorem pb_last {sg l : List Nat} (hn : nameB (S l) = false) {r : List (List Nat)} (h : ∀ m, numN (r ++ [l]) = some m → m < 0) : partB sg (r ++ [l]) = none := by
  have hl : lastN (r ++ [l]) = none := by
    unfold lastN
    rw [List.getLast?_append]
    show (if nameB (S l) = true then some (S l) else none) = _
    rw [hn]; rfl
  have hnu : numsN (r ++ [l]) = r ++ [l] := by unfold numsN; rw [hl]; rfl
  unfold partB
  rw [hl, hnu, if_neg (by intro z; cases z.1)]
  cases e : numN (r ++ [l]) with
  | none => rfl
  | some m =>
    show (if m < least sg none then none else _) = none
    refine if_pos ?_
    have := h m e
    have : 0 ≤ least sg none := by show 0 ≤ (if sg = [45] then 1 else 0 : Int); split <;> decide
    omega
theorem pb_lit {l : List Nat} (hn : nameB (S l) = false) (hb : numB l 60 = none) (sg : List Nat) : partB sg [l] = none := pb_last (r := []) hn fun m hm => by
  have hm : numB l 60 = some m := hm
  rw [hb] at hm; cases hm
theorem pb_neg (sg : List Nat) : partB sg [[45, 51]] = none := pb_last (r := []) (by decide +kernel) fun m hm => by
  have h3 : numB [45, 51] 60 = some (-3) := by decide +kernel
  have hm : numB [45, 51] 60 = some m := hm
  rw [h3] at hm; cases hm; decide
theorem bad_ok {nm : List Nat} (hn : nameB (S nm) = true) {W : List (List Nat)} (h : W ∈ badWs nm) : W ≠ [] ∧ (∀ l ∈ W, 32 ∉ l) ∧ (((∀ l ∈ W, ¬ (l = [43] ∨ l = [45])) ∧ ∀ sg, partB sg W = none) ∨ W = [[45]]) := by
  have hl := name_let hn
  rw [len_S, cd_S] at hl
  have nb : 32 ∉ nm := fun e => by have := hl.2.2 32 e; omega
  have ns : ¬ (nm = [43] ∨ nm = [45]) := by
    rintro (e | e)
    · have := hl.2.2 43 (by rw [e]; simp); omega
    · have := hl.2.2 45 (by rw [e]; simp); omega
  have hhd : ∀ d, nm.head? = some d → d ≠ 45 := fun d hd e => by have := hl.2.2 d (List.mem_of_mem_head? hd); omega
  obtain ⟨c0, r0, e0⟩ : ∃ c r, nm = c :: r := by
    cases e : nm with
    | nil => rw [e] at hl; exact absurd hl.2.1 (by decide)
    | cons c r => exact ⟨c, r, rfl⟩
  have hc0 := hl.2.2 c0 (by rw [e0]; simp)
  have nnum : numB nm 60 = none := bad_of hhd (c := c0) (by rw [e0]; simp) (by omega)
  have hhd2 : ∀ d, (nm ++ [10]).head? = some d → d ≠ 45 := fun d hd => hhd d (by rw [e0] at hd ⊢; exact hd)
  have two : ∀ {P Q : Prop}, P → Q → P ∧ Q := fun a b => ⟨a, b⟩
  simp only [badWs, List.mem_cons, List.not_mem_nil, or_false] at h
  rcases h with e | e | e | e | e | e | e | e | e | e | e | e | e | e | e | e <;> subst e
  · refine ⟨by simp, fun l hl => ?_, .inl ⟨fun l hl => ?_, fun sg => pb_name (r := [[48]]) hn (by simp) (fun m hm => ?_)⟩⟩
    · rcases List.mem_cons.mp hl with e | e
      · rw [e]; decide
      · rw [List.mem_singleton.mp e]; exact nb
    · rcases List.mem_cons.mp hl with e | e
      · rw [e]; decide
      · rw [List.mem_singleton.mp e]; exact ns
    · have : numB [48] 60 = some 0 := by decide +kernel
      have hm : numB [48] 60 = some m := hm
      rw [this] at hm; cases hm; decide
  · refine ⟨by simp, fun l hl => ?_, .inl ⟨fun l hl => ?_, fun sg => pb_name (r := [[49]]) hn (by simp) (fun m hm => ?_)⟩⟩
    · rcases List.mem_cons.mp hl with e | e
      · rw [e]; decide
      · rw [List.mem_singleton.mp e]; exact nb
    · rcases List.mem_cons.mp hl with e | e
      · rw [e]; decide
      · rw [List.mem_singleton.mp e]; exact ns
    · have : numB [49] 60 = some 1 := by decide +kernel
      have hm : numB [49] 60 = some m := hm
      rw [this] at hm; cases hm; decide
  · exact ⟨by simp, by decide, .inl ⟨by decide, pb_lit (by decide +kernel) (by decide +kernel)⟩⟩
  · exact ⟨by simp, by decide, .inl ⟨by decide, pb_neg⟩⟩
  · exact ⟨by simp, by decide, .inl ⟨by decide, pb_lit (by decide +kernel) (by decide +kernel)⟩⟩
  · refine ⟨by simp, fun l hl => ?_, .inl ⟨fun l hl => ?_, fun sg => pb_name (r := [nm]) hn (by simp) (fun m hm => ?_)⟩⟩
    · rcases List.mem_cons.mp hl with e | e
      · rw [e]; exact nb
      · rw [List.mem_singleton.mp e]; exact nb
    · rcases List.mem_cons.mp hl with e | e
      · rw [e]; exact ns
      · rw [List.mem_singleton.mp e]; exact ns
    · have hm : numB nm 60 = some m := hm
      rw [nnum] at hm; cases hm
  · exact ⟨by simp, by decide, .inl ⟨by decide, pb_lit (by decide +kernel) (by decide +kernel)⟩⟩
  · exact ⟨by simp, by decide, .inl ⟨by decide, pb_lit (by decide +kernel) (by decide +kernel)⟩⟩
  · exact ⟨by simp, by decide +kernel, .inl ⟨by decide +kernel, pb_lit (by decide +kernel) (by decide +kernel)⟩⟩
  · exact ⟨by simp, by decide, .inl ⟨by decide, pb_lit (by decide +kernel) (by decide +kernel)⟩⟩
  · exact ⟨by simp, by decide, .inl ⟨by decide, fun sg => pb_last (r := [[50]]) (by decide +kernel) (fun m hm => by cases hm)⟩⟩
  · refine ⟨by simp, fun l hl => ?_, .inl ⟨fun l hl => ?_, fun sg => pb_last (r := [nm]) (by decide +kernel) (fun m hm => by cases hm)⟩⟩
    · rcases List.mem_cons.mp hl with e | e
      · rw [e]; exact nb
      · rw [List.mem_singleton.mp e]; decide
    · rcases List.mem_cons.mp hl with e | e
      · rw [e]; exact ns
      · rw [List.mem_singleton.mp e]; decide
  · refine ⟨by simp, fun l hl => ?_, .inl ⟨fun l hl => ?_, fun sg => pb_name (r := [[50], [42]]) hn (by simp) (fun m hm => by cases hm)⟩⟩
    · simp only [List.mem_cons, List.not_mem_nil, or_false] at hl
      rcases hl with e | e | e
      · rw [e]; decide
      · rw [e]; decide
      · rw [e]; exact nb
    · simp only [List.mem_cons, List.not_mem_nil, or_false] at hl
      rcases hl with e | e | e
      · rw [e]; decide
      · rw [e]; decide
      · rw [e]; exact ns
  · refine ⟨by simp, fun l hl => ?_, .inl ⟨fun l hl => ?_, fun sg => pb_name (r := [[50], []]) hn (by simp) (fun m hm => by cases hm)⟩⟩
    · simp only [List.mem_cons, List.not_mem_nil, or_false] at hl
      rcases hl with e | e | e
      · rw [e]; decide
      · rw [e]; decide
      · rw [e]; exact nb
    · simp only [List.mem_cons, List.not_mem_nil, or_false] at hl
      rcases hl with e | e | e
      · rw [e]; decide
      · rw [e]; decide
      · rw [e]; exact ns
  · exact ⟨by simp, by decide, .inr rfl⟩
  · have hbad : nameB (S (nm ++ [10])) = false := by
      cases e : nameB (S (nm ++ [10])) with
      | false => rfl
      | true =>
        have h2 := name_let e
        rw [cd_S] at h2
        have := h2.2.2 10 (by simp)
        omega
    have hnum : numB (nm ++ [10]) 60 = none := bad_of hhd2 (c := 10) (by simp) (by omega)
    refine ⟨by simp, fun l hl => ?_, .inl ⟨fun l hl => ?_, fun sg => pb_last (r := []) hbad (fun m hm => ?_)⟩⟩
    · rw [List.mem_singleton.mp hl]; simp [nb]
    · rw [List.mem_singleton.mp hl]
      rintro (e | e)
      · have := congrArg List.length e; rw [e0] at this; simp at this
      · have := congrArg List.length e; rw [e0] at this; simp at this
    · have hm : numB (nm ++ [10]) 60 = some m := hm
      rw [hnum] at hm; cases hm
theorem zero_ok : partB [45] [[48]] = none := by decide +kernel
end K12
set_option maxHeartbeats 1000000
namespace K12
open PySem L2
seal PE PT PW PA PS PSs PG PGs PI PO PSet OpR UnR CallR TruR IxR SlR PC PPs
local macro_rules | `(tactic| walk_at "rd1") => `(tactic| first
  | (refine And.intro rfl ?_)
  | (refine And.intro (by assumption) ?_)
  | (refine And.intro (fun _ e => e) ?_)
  | (refine And.intro (TyOf.str _) ?_) | (refine And.intro (TyOf.int _) ?_) | (refine And.intro (TyOf.bl _) ?_) | (refine And.intro TyOf.non ?_)
  | (refine iteT ?_) | (refine iteF ?_)
  | (apply Exists.intro))
local macro_rules | `(tactic| walk_at "rd") => `(tactic| repeat (walk_at "rd1"))

def spRefused (K : PySem.W.Frag) : Sp := fun vs H Q _ => ∃ x, vs = [x] ∧ ((∃ z, x = .str z ∧ Fine 990 z ∧ sumB (cd z) = none) ∨ (∃ t, TyE K H x t ∧ PySem.W.kitOne K t (.type "str") = some false)) ∧ ∀ H', Same H H' → Q (.bl true) H'
def spBad : Sp := fun vs H Q _ => ∃ (c : Int) (z : Str), vs = [.int c, .str z] ∧ nameB z = true ∧ ∀ W H', W ∈ badWs (cd z) → Same H H' → Q (.str (S (joinL [32] W))) H'
def spSpoiled (K : PySem.W.Frag) : Sp := fun vs H Q _ => ∃ (pl : Addr) (xs : List V) (ps : List Part) (k : Nat) (b : List Nat) (m : Bool), vs = [.ref pl, .int (k : Nat), .str (S b), .bl m] ∧ SqL K H pl xs ∧ PsR K H xs ps ∧ ps.length ≤ 11 ∧ (∀ p ∈ ps, PGood p) ∧ k ≤ ps.length ∧ Fine 70 (S b) ∧
  ∀ H', Same H H' → Fine 990 (S (spoilT (ps.take k) m b (ps.drop k))) → Q (.str (S (spoilT (ps.take k) m b (ps.drop k)))) H'
theorem cut_takeV (xs : List V) (k : Nat) (h : k ≤ xs.length) : cutV xs none (some (k : Int)) = xs.take k := by
  unfold cutV
  have e1 : HT.sIx xs.length 0 none = 0 := rfl
  have e2 : HT.sIx xs.length xs.length (some (k : Int)) = k := by
    show (if (k : Int) < 0 then ((k : Int) + (xs.length : Nat)).toNat else min (k : Int).toNat xs.length) = _
    rw [if_neg (by omega)]; omega
  rw [e1, e2, List.drop_zero, Nat.sub_zero]
theorem cut_dropV (xs : List V) (k : Nat) (h : k ≤ xs.length) : cutV xs (some (k : Int)) none = xs.drop k := by
  unfold cutV
  have e1 : HT.sIx xs.length 0 (some (k : Int)) = k := by
    show (if (k : Int) < 0 then ((k : Int) + (xs.length : Nat)).toNat else min (k : Int).toNat xs.length) = _
    rw [if_neg (by omega)]; omega
  have e2 : HT.sIx xs.length xs.length none = xs.length := rfl
  rw [e1, e2, List.take_of_length_le (by rw [List.length_drop]; omega)]
theorem psr_take {K : PySem.W.Frag} {H : Hp} : ∀ {xs : List V} {ps : List Part}, PsR K H xs ps → ∀ k, PsR K H (xs.take k) (ps.take k)
  | _, _, h, 0 => by rw [List.take_zero, List.take_zero]; exact .nil
  | _, _, .nil, k + 1 => .nil
  | _, _, .cons a r, k + 1 => .cons a (psr_take r k)
theorem psr_drop {K : PySem.W.Frag} {H : Hp} : ∀ {xs : List V} {ps : List Part}, PsR K H xs ps → ∀ k, PsR K H (xs.drop k) (ps.drop k)
  | _, _, h, 0 => h
  | _, _, .nil, k + 1 => .nil
  | _, _, .cons a r, k + 1 => psr_drop r k
theorem text_len {ps : List Part} (h : ∀ p ∈ ps, PGood p) : (joinL [32] (elems 0 ps)).length ≤ 76 * ps.length := by
  have h1 := joinL_len [32] (elems 0 ps)
  have h2 := elems_sum ps 0 h
  have h3 := elems_len ps 0
  rw [show ([32] : List Nat).length = 1 from rfl] at h1
  omega
theorem sgnL_len (p : Part) : (sgnL p).length = 1 := by unfold sgnL; split <;> rfl
theorem tail_len : ∀ {R : List Part}, (∀ p ∈ R, PGood p) → (tailT R).length ≤ 76 * R.length
  | [], _ => Nat.le_refl _
  | p :: r, h => by
    have ih := tail_len (R := r) fun q hq => h q (List.mem_cons_of_mem _ hq)
    have hp := part_len (h p (by simp))
    show (([32] ++ sgnL p ++ [32] ++ partS p) ++ tailT r).length ≤ 76 * (r.length + 1)
    rw [List.length_append, List.length_append, List.length_append, List.length_append, sgnL_len]
    show 1 + 1 + 1 + _ + _ ≤ _
    omega
theorem tail_snoc (R : List Part) (p : Part) : tailT (R ++ [p]) = tailT R ++ ([32] ++ sgnL p ++ [32] ++ partS p) := by
  unfold tailT; rw [List.map_append, List.flatten_append]; simp
theorem tail_ch {R : List Part} (h : ∀ p ∈ R, PGood p) : ∀ c ∈ tailT R, c < 1000 := by
  intro c hc
  obtain ⟨l, hl, hc⟩ := List.mem_flatten.mp hc
  obtain ⟨p, hp, rfl⟩ := List.mem_map.mp hl
  rcases List.mem_append.mp hc with e | e
  · rcases List.mem_append.mp e with e | e
    · rcases List.mem_append.mp e with e | e
      · have := List.mem_singleton.mp e; omega
      · unfold sgnL at e; split at e <;> (have := List.mem_singleton.mp e; omega)
    · have := List.mem_singleton.mp e; omega
  · exact part_ch (h p hp) c e
section
variable {P : Program} {w : World} {K : PySem.W.Frag} {mg : Str → Option Value} {base : Heap} {A : Adr}
theorem ok_law_refused (T : Txt K mg A) : FnOk P w K mg base CX0 6 A.f_law_refused A.d_law_refused ["_law_words"] (spRefused K) := by
  have G_read_sum := ok_read_sum (P := P) (w := w) (base := base) T
  refine T.F_law_refused.ok sc_law_refused (fun vs H Q E h => ?_) (fun cdv A0 outer s H vs Q E hr h => ?_)
  · obtain ⟨x, rfl, _⟩ := h
    rfl
  obtain ⟨x, rfl, hx, q⟩ := h
  refine ⟨_, (pss_cons (ps_set (i := 1) sc_law_refused.nd rfl (by first | exact Or.inl rfl | exact Or.inr rfl) pe_non)
      (pss_cons (ps_tryAs (j := 2) sc_law_refused.nd rfl rfl rfl rfl rfl (psx_one (psx_expr (pex_call G_read_sum (hr.mono (by decide)) rfl T.m_read_sum T.k_read_sum T.b_read_sum .nil (pa_cons (pv 0) pa_nil)))) rfl T.m_AskError (fun _ => (pss_one (ps_set (i := 1) sc_law_refused.nd rfl (by first | exact Or.inl rfl | exact Or.inr rfl) (pv 2)))))
      (pss_cons (ps_if (pt_val (pe_callB call_isiT (by rfl) T.n_isinstance Bt.isinstance (pa_cons (pv 1) (pa_cons (pe_tup (pa_cons (pe_gv rfl T.v_NoAnswer) (pa_cons (pe_gv rfl T.v_NoKind) (pa_cons (pe_gv rfl T.v_NoNumber) (pa_cons (pe_gv rfl T.v_NoRow) (pa_cons (pe_gv rfl T.v_NoSaying) (pa_cons (pe_gv rfl T.v_WrongKind) pa_nil))))))) pa_nil)))) (pss_one (ps_ret pe_bl)) pss_nil)
      (pss_one (ps_ret (pe_and (pe_callB call_isi (by rfl) T.n_isinstance Bt.isinstance (pa_cons (pv 1) (pa_cons (pe_gv rfl T.v_NoSum) pa_nil))) (pe_one (pe_callB call_isi (by rfl) T.n_isinstance Bt.isinstance (pa_cons (pv 1) (pa_cons (pe_bltn (v := .ty "ValueError") rfl T.n_ValueError Bt.ValueError rfl) pa_nil)))))))))), ?_⟩
  have ec := T.ec_NoSum
  refine ⟨_, rfl, x, rfl, ?_⟩
  rcases hx with ⟨z, rfl, hz, hn⟩ | ⟨t, ty, kt⟩
  · refine .inl ⟨z, rfl, hz, (fun ps e => (by rw [hn] at e; cases e)), fun _ H1 s1 => ?_⟩
    refine ⟨_, rfl, T.em_NoSum_AskError, fun ea hea => ?_⟩
    refine ⟨_, rfl, _, rfl, (by show 6 ≤ sizeLine; decide), fun p2 hp2 => ?_⟩
    have k2 : PySem.W.kitAny K (.ref A.c_NoSum) [.ref A.c_NoAnswer, .ref A.c_NoKind, .ref A.c_NoNumber, .ref A.c_NoRow, .ref A.c_NoSaying, .ref A.c_WrongKind] = some false := kitAny_no T.kr_NoSum_NoAnswer (kitAny_no T.kr_NoSum_NoKind (kitAny_no T.kr_NoSum_NoNumber (kitAny_no T.kr_NoSum_NoRow (kitAny_no T.kr_NoSum_NoSaying (kitAny_no T.kr_NoSum_WrongKind kitAny_nil)))))
    have he := same_new hp2 (.tup [.ref A.c_NoAnswer, .ref A.c_NoKind, .ref A.c_NoNumber, .ref A.c_NoRow, .ref A.c_NoSaying, .ref A.c_WrongKind]) _ _ (upd_same (H := H1) (a := ea) (o := excO ea A.c_NoSum))
    refine ⟨_, p2, _, _, _, rfl, upd_same, rfl, .exc he ec, k2, _, rfl, iteF ?_⟩
    refine ⟨_, rfl, _, _, _, _, rfl, rfl, .exc he ec, T.kr_NoSum_NoSum, _, rfl, iteT ?_⟩
    exact ⟨_, rfl, _, _, _, _, rfl, rfl, .exc he ec, T.krt_NoSum_ValueError, q _ (s1.trans ((same_new hea _).trans (same_new hp2 _)))⟩
  · refine .inr ⟨t, ty, kt, fun H1 s1 => ?_⟩
    refine ⟨_, rfl, T.em_NoSum_AskError, fun ea hea => ?_⟩
    refine ⟨_, rfl, _, rfl, (by show 6 ≤ sizeLine; decide), fun p2 hp2 => ?_⟩
    have k2 : PySem.W.kitAny K (.ref A.c_NoSum) [.ref A.c_NoAnswer, .ref A.c_NoKind, .ref A.c_NoNumber, .ref A.c_NoRow, .ref A.c_NoSaying, .ref A.c_WrongKind] = some false := kitAny_no T.kr_NoSum_NoAnswer (kitAny_no T.kr_NoSum_NoKind (kitAny_no T.kr_NoSum_NoNumber (kitAny_no T.kr_NoSum_NoRow (kitAny_no T.kr_NoSum_NoSaying (kitAny_no T.kr_NoSum_WrongKind kitAny_nil)))))
    have he := same_new hp2 (.tup [.ref A.c_NoAnswer, .ref A.c_NoKind, .ref A.c_NoNumber, .ref A.c_NoRow, .ref A.c_NoSaying, .ref A.c_WrongKind]) _ _ (upd_same (H := H1) (a := ea) (o := excO ea A.c_NoSum))
    refine ⟨_, p2, _, _, _, rfl, upd_same, rfl, .exc he ec, k2, _, rfl, iteF ?_⟩
    refine ⟨_, rfl, _, _, _, _, rfl, rfl, .exc he ec, T.kr_NoSum_NoSum, _, rfl, iteT ?_⟩
    exact ⟨_, rfl, _, _, _, _, rfl, rfl, .exc he ec, T.krt_NoSum_ValueError, q _ (s1.trans ((same_new hea _).trans (same_new hp2 _)))⟩
theorem ok_law_bad (T : Txt K mg A) : FnOk P w K mg base CX0 1 A.f_law_bad A.d_law_bad ["_law_cell", "_law_name"] spBad := by
  refine T.F_law_bad.ok sc_law_bad (fun vs H Q E h => ?_) (fun cdv A0 outer s H vs Q E hr h => ?_)
  · obtain ⟨c, z, rfl, _⟩ := h
    rfl
  obtain ⟨c, z, rfl, hz, q⟩ := h
  refine ⟨_, (pss_cons (ps_set (i := 2) sc_law_bad.nd rfl (by first | exact Or.inl rfl | exact Or.inr rfl) (pe_lst (pa_cons (pe_op op_add_str pe_str (pv 1)) (pa_cons (pe_op op_add_str pe_str (pv 1)) (pa_cons pe_str (pa_cons pe_str (pa_cons pe_str (pa_cons (pe_op op_add_str (pe_op op_add_str (pv 1) pe_str) (pv 1)) (pa_cons pe_str (pa_cons pe_str pa_nil))))))))))
      (pss_cons (ps_set (i := 2) sc_law_bad.nd rfl (by first | exact Or.inl rfl | exact Or.inr rfl) (pe_op op_cat (pv 2) (pe_lst (pa_cons (pe_op op_add_str pe_str (pe_op op_mul_str pe_str pe_int)) (pa_cons pe_str (pa_cons pe_str (pa_cons (pe_op op_add_str (pv 1) pe_str) (pa_cons (pe_op op_add_str pe_str (pv 1)) (pa_cons (pe_op op_add_str pe_str (pv 1)) (pa_cons pe_str (pa_cons (pe_op op_add_str (pv 1) pe_str) pa_nil)))))))))))
      (pss_one (ps_ret (pe_ix ix_list (pv 2) (pe_op op_mod (pv 0) pe_int) (fun _ _ => rfl)))))), ?_⟩
  have hzl := (name_let hz).1
  have l1 : (Str.ofString "0 ").length = 2 := by decide +kernel
  have l2 : (Str.ofString "1 ").length = 2 := by decide +kernel
  have l3 : (Str.ofString " ").length = 1 := by decide +kernel
  have l4 : (Str.ofString " 2").length = 2 := by decide +kernel
  have l5 : (Str.ofString "2 * ").length = 4 := by decide +kernel
  have l6 : (Str.ofString "2  ").length = 3 := by decide +kernel
  have l7 : (Str.ofString "\n").length = 1 := by decide +kernel
  have l8 : (Str.ofString "1").length = 1 := by decide +kernel
  have l9 : (Str.ofString "0").length = 1 := by decide +kernel
  have lz : (z ++ Str.ofString " ").length = z.length + 1 := by rw [len_cd, cd_app, List.length_append, ← len_cd]; rfl
  refine ⟨_, rfl, _, _, rfl, rfl, small_of (m := 100) (by omega), _, rfl, _, _, rfl, rfl, small_of (m := 100) (by omega), _, rfl, _, _, rfl, rfl, small_of (m := 100) (by omega), _, rfl, _, _, rfl, rfl, small_of (m := 100) (by omega), ?_⟩
  have mem : ∀ v ∈ ([V.str (Str.ofString "0 " ++ z), V.str (Str.ofString "1 " ++ z), V.str (Str.ofString "007"), V.str (Str.ofString "-3"), V.str (Str.ofString "Ab"), V.str (z ++ Str.ofString " " ++ z), V.str (Str.ofString "end"), V.str (Str.ofString "abcdefghijklm")] ++ [V.str (Str.ofString "1" ++ S (repN (cd (Str.ofString "0")) (60 : Int).toNat)), V.str (Str.ofString ""), V.str (Str.ofString "2 3"), V.str (z ++ Str.ofString " 2"), V.str (Str.ofString "2 * " ++ z), V.str (Str.ofString "2  " ++ z), V.str (Str.ofString "-"), V.str (z ++ Str.ofString "\n")] : List V), ∃ W ∈ badWs (cd z), v = V.str (S (joinL [32] W)) := by
    intro v hv
    rw [List.mem_append] at hv
    simp only [List.mem_cons, List.not_mem_nil, or_false] at hv
    rcases hv with (e | e | e | e | e | e | e | e) | (e | e | e | e | e | e | e | e)
    · exact ⟨[[48], cd z], by simp [badWs], e.trans (congrArg V.str (cd_inj ((cd_app _ _).trans (by rw [show cd (Str.ofString "0 ") = [48, 32] by decide +kernel]; rfl))))⟩
    · exact ⟨[[49], cd z], by simp [badWs], e.trans (congrArg V.str (cd_inj ((cd_app _ _).trans (by rw [show cd (Str.ofString "1 ") = [49, 32] by decide +kernel]; rfl))))⟩
    · exact ⟨[[48, 48, 55]], by simp [badWs], e.trans (congrArg V.str (cd_inj (by decide +kernel)))⟩
    · exact ⟨[[45, 51]], by simp [badWs], e.trans (congrArg V.str (cd_inj (by decide +kernel)))⟩
    · exact ⟨[[65, 98]], by simp [badWs], e.trans (congrArg V.str (cd_inj (by decide +kernel)))⟩
    · exact ⟨[cd z, cd z], by simp [badWs], e.trans (congrArg V.str (cd_inj ((cd_app _ _).trans (by rw [cd_app, show cd (Str.ofString " ") = [32] by decide +kernel]; rfl))))⟩
    · exact ⟨[[101, 110, 100]], by simp [badWs], e.trans (congrArg V.str (cd_inj (by decide +kernel)))⟩
    · exact ⟨[[97, 98, 99, 100, 101, 102, 103, 104, 105, 106, 107, 108, 109]], by simp [badWs], e.trans (congrArg V.str (cd_inj (by decide +kernel)))⟩
    · exact ⟨[49 :: repN [48] 60], by simp [badWs], e.trans (congrArg V.str (cd_inj ((cd_app _ _).trans (by rw [cd_S, show cd (Str.ofString "0") = [48] by decide +kernel, show cd (Str.ofString "1") = [49] by decide +kernel]; rfl))))⟩
    · exact ⟨[[]], by simp [badWs], e.trans (congrArg V.str (cd_inj (by decide +kernel)))⟩
    · exact ⟨[[50], [51]], by simp [badWs], e.trans (congrArg V.str (cd_inj (by decide +kernel)))⟩
    · exact ⟨[cd z, [50]], by simp [badWs], e.trans (congrArg V.str (cd_inj ((cd_app _ _).trans (by rw [show cd (Str.ofString " 2") = [32] ++ [50] by decide +kernel, ← List.append_assoc]; rfl))))⟩
    · exact ⟨[[50], [42], cd z], by simp [badWs], e.trans (congrArg V.str (cd_inj ((cd_app _ _).trans (by rw [show cd (Str.ofString "2 * ") = [50, 32, 42, 32] by decide +kernel]; rfl))))⟩
    · exact ⟨[[50], [], cd z], by simp [badWs], e.trans (congrArg V.str (cd_inj ((cd_app _ _).trans (by rw [show cd (Str.ofString "2  ") = [50, 32, 32] by decide +kernel]; rfl))))⟩
    · exact ⟨[[45]], by simp [badWs], e.trans (congrArg V.str (cd_inj (by decide +kernel)))⟩
    · exact ⟨[cd z ++ [10]], by simp [badWs], e.trans (congrArg V.str (cd_inj ((cd_app _ _).trans (by rw [show cd (Str.ofString "\n") = [10] by decide +kernel]; rfl))))⟩
  refine ⟨(by show 8 ≤ sizeLine; decide), fun p1 hp1 => ?_⟩
  have lr : (S (repN (cd (Str.ofString "0")) (60 : Int).toNat)).length = 60 := by decide +kernel
  refine ⟨_, rfl, _, _, rfl, rfl, by decide, by decide, by rw [l9]; decide, by rw [l9]; decide, _, _, rfl, rfl, small_of (m := 100) (by rw [lr, l8]; decide), ?_⟩
  refine ⟨_, rfl, _, _, rfl, rfl, small_of (m := 100) (by omega), _, rfl, _, _, rfl, rfl, small_of (m := 100) (by omega), _, rfl, _, _, rfl, rfl, small_of (m := 100) (by omega), _, rfl, _, _, rfl, rfl, small_of (m := 100) (by omega), (by show 8 ≤ sizeLine; decide), fun p2 hp2 => ?_⟩
  have s1 := same_new hp1 (.lst [V.str (Str.ofString "0 " ++ z), V.str (Str.ofString "1 " ++ z), V.str (Str.ofString "007"), V.str (Str.ofString "-3"), V.str (Str.ofString "Ab"), V.str (z ++ Str.ofString " " ++ z), V.str (Str.ofString "end"), V.str (Str.ofString "abcdefghijklm")])
  have s2 := same_new hp2 (.lst [V.str (Str.ofString "1" ++ S (repN (cd (Str.ofString "0")) (60 : Int).toNat)), V.str (Str.ofString ""), V.str (Str.ofString "2 3"), V.str (z ++ Str.ofString " 2"), V.str (Str.ofString "2 * " ++ z), V.str (Str.ofString "2  " ++ z), V.str (Str.ofString "-"), V.str (z ++ Str.ofString "\n")])
  refine ⟨p1, p2, _, _, rfl, rfl, s2 _ _ upd_same, upd_same, (by show 16 ≤ sizeLine; decide), fun p3 hp3 => ?_⟩
  have i0 : 0 ≤ c % 16 := Int.emod_nonneg _ (by decide)
  have i1 : c % 16 < 16 := Int.emod_lt_of_pos _ (by decide)
  obtain ⟨v, hv, hv2⟩ := at_some (l := ([V.str (Str.ofString "0 " ++ z), V.str (Str.ofString "1 " ++ z), V.str (Str.ofString "007"), V.str (Str.ofString "-3"), V.str (Str.ofString "Ab"), V.str (z ++ Str.ofString " " ++ z), V.str (Str.ofString "end"), V.str (Str.ofString "abcdefghijklm")] ++ [V.str (Str.ofString "1" ++ S (repN (cd (Str.ofString "0")) (60 : Int).toNat)), V.str (Str.ofString ""), V.str (Str.ofString "2 3"), V.str (z ++ Str.ofString " 2"), V.str (Str.ofString "2 * " ++ z), V.str (Str.ofString "2  " ++ z), V.str (Str.ofString "-"), V.str (z ++ Str.ofString "\n")] : List V)) (i := c % 16) i0 (by show c % 16 < 16; exact i1)
  obtain ⟨W, hW, rfl⟩ := mem v (List.mem_of_getElem? hv2)
  exact ⟨_, rfl, _, rfl, _, _, rfl, rfl, (by show (0 : Int) < 16; decide), p3, _, _, _, rfl, rfl, SqL.of upd_same, hv, q W _ hW (s1.trans (s2.trans (same_new hp3 _)))⟩
end
end K12
set_option maxHeartbeats 1000000
namespace K12
open PySem L2
seal PE PT PW PA PS PSs PG PGs PI PO PSet OpR UnR CallR TruR IxR SlR PC PPs
local macro_rules | `(tactic| walk_at "rd1") => `(tactic| first
  | (refine And.intro rfl ?_)
  | (refine And.intro (by assumption) ?_)
  | (refine And.intro (fun _ e => e) ?_)
  | (refine And.intro (TyOf.str _) ?_) | (refine And.intro (TyOf.int _) ?_) | (refine And.intro (TyOf.bl _) ?_) | (refine And.intro TyOf.non ?_)
  | (refine iteT ?_) | (refine iteF ?_)
  | (apply Exists.intro))
local macro_rules | `(tactic| walk_at "rd") => `(tactic| repeat (walk_at "rd1"))

theorem sg_txt (m : Bool) : atI [V.str (Str.ofString " + "), V.str (Str.ofString " - ")] (if m = true then 1 else 0) = some (V.str (S ([32] ++ sgM m ++ [32]))) := by
  cases m <;> decide +kernel
theorem sg_txt2 (m : Bool) : atI [V.str (Str.ofString ""), V.str (Str.ofString "- ")] (if m = true then 1 else 0) = some (V.str (S (if m = true then [45, 32] else []))) := by
  cases m <;> decide +kernel
theorem sgM_is (p : Part) : sgM (decide (p.1 < 0)) = sgnL p := by
  unfold sgM sgnL
  by_cases c : p.1 < 0
  · rw [decide_eq_true c, if_pos rfl, if_pos c]
  · rw [decide_eq_false c, if_neg (by decide), if_neg c]
theorem fineL {l : List Nat} {n : Nat} (h : l.length ≤ n) (hc : ∀ c ∈ l, c < 1000) : Fine n (S l) := ⟨by rw [len_S]; exact h, fun c hc' => by rw [cd_S] at hc'; exact hc c hc'⟩
theorem pre_len {A : List Part} (h : ∀ p ∈ A, PGood p) (m : Bool) : (if A = [] then (if m = true then [45, 32] else []) else joinL [32] (elems 0 A) ++ ([32] ++ sgM m ++ [32])).length ≤ 76 * A.length + 3 ∧ ∀ c ∈ (if A = [] then (if m = true then [45, 32] else []) else joinL [32] (elems 0 A) ++ ([32] ++ sgM m ++ [32])), c < 1000 := by
  by_cases e : A = []
  · rw [if_pos e]
    cases m with
    | true => exact ⟨by rw [if_pos rfl]; show 2 ≤ _; omega, by rw [if_pos rfl]; decide⟩
    | false => exact ⟨by rw [if_neg (by decide)]; exact Nat.zero_le _, by rw [if_neg (by decide)]; intro c hc; cases hc⟩
  · rw [if_neg e]
    have h1 := text_len h
    have h2 : ([32] ++ sgM m ++ [32]).length = 3 := by unfold sgM; split <;> rfl
    refine ⟨by rw [List.length_append, h2]; omega, fun c hc => ?_⟩
    rcases List.mem_append.mp hc with e' | e'
    · rcases mem_join e' with z | ⟨l, hl, z⟩
      · omega
      · rcases elems_mem A 0 hl with y | y | ⟨p, hp, y⟩
        · rw [y] at z; have := List.mem_singleton.mp z; omega
        · rw [y] at z; have := List.mem_singleton.mp z; omega
        · rw [y] at z; exact part_ch (h p hp) c z
    · have key : ∀ m : Bool, ∀ c ∈ [32] ++ sgM m ++ [32], c < 1000 := by decide
      exact key m c e'
section
variable {P : Program} {w : World} {K : PySem.W.Frag} {mg : Str → Option Value} {base : Heap} {A : Adr}
theorem ok_law_spoiled (T : Txt K mg A) : FnOk P w K mg base CX0 3 A.f_law_spoiled A.d_law_spoiled ["_law_parts", "_law_at", "_law_bad_here", "_law_minus"] (spSpoiled K) := by
  have G_law_text := ok_law_text (P := P) (w := w) (base := base) T
  have G_law_body := ok_law_body (P := P) (w := w) (base := base) T
  refine T.F_law_spoiled.ok sc_law_spoiled (fun vs H Q E h => ?_) (fun cdv A0 outer s H vs Q E hr h => ?_)
  · obtain ⟨pl, xs, ps, k, b, m, rfl, _⟩ := h
    rfl
  obtain ⟨pl, xs, ps, k, b, m, rfl, hl, hp, h11, hg, hk, fb, q⟩ := h
  refine ⟨_, (pss_cons (ps_set (i := 4) sc_law_spoiled.nd rfl (by first | exact Or.inl rfl | exact Or.inr rfl) (pe_call G_law_text (hr.mono (by decide)) rfl T.m_law_text T.k_law_text T.b_law_text .nil pass0 (pa_cons (pe_slice sl_list (pv 0) po_none (po_some (pv 1))) pa_nil)))
      (pss_cons (ps_if (pt_cmpR op_gt (pv 1) pe_int (nomark _)) (pss_one (ps_set (i := 4) sc_law_spoiled.nd rfl (by first | exact Or.inl rfl | exact Or.inr rfl) (pe_op op_add_str (pe_op op_add_str (pv 4) (pe_ix ix_list (pe_lst (pa_cons pe_str (pa_cons pe_str pa_nil))) (pe_callTy call_int1 (by rfl) T.n_int Bt.int (pa_cons (pv 3) pa_nil)) (fun _ _ => rfl))) (pv 2)))) (pss_one (ps_set (i := 4) sc_law_spoiled.nd rfl (by first | exact Or.inl rfl | exact Or.inr rfl) (pe_op op_add_str (pe_ix ix_list (pe_lst (pa_cons pe_str (pa_cons pe_str pa_nil))) (pe_callTy call_int1 (by rfl) T.n_int Bt.int (pa_cons (pv 3) pa_nil)) (fun _ _ => rfl)) (pv 2)))))
      (pss_cons (ps_forR PassesOwn.never rfl (pi_list (pe_slice sl_list (pv 0) (po_some (pv 1)) po_none)) (pg_tup rfl (pgs_cons (pg_name (i := 5) sc_law_spoiled.nd rfl (by first | exact Or.inl rfl | exact Or.inr rfl)) (pgs_cons (pg_name (i := 6) sc_law_spoiled.nd rfl (by first | exact Or.inl rfl | exact Or.inr rfl)) pgs_nil))) (pss_one (ps_set (i := 4) sc_law_spoiled.nd rfl (by first | exact Or.inl rfl | exact Or.inr rfl) (pe_op op_add_str (pe_op op_add_str (pv 4) (pe_ix ix_list (pe_lst (pa_cons pe_str (pa_cons pe_str pa_nil))) (pe_callTy call_int1 (by rfl) T.n_int Bt.int (pa_cons (pe_cmpR op_lt (pv 5) pe_int (nomark _)) pa_nil)) (fun _ _ => rfl))) (pe_call G_law_body (hr.mono (by decide)) rfl T.m_law_body T.k_law_body T.b_law_body .nil pass0 (pa_cons (pv 5) (pa_cons (pv 6) pa_nil)))))))
      (pss_one (ps_ret (pv 4)))))), ?_⟩
  have hxl := hp.len
  have hgA : ∀ p ∈ ps.take k, PGood p := fun p hp => hg p (List.mem_of_mem_take hp)
  have hgR : ∀ p ∈ ps.drop k, PGood p := fun p hp => hg p (List.mem_of_mem_drop hp)
  have hAl : (ps.take k).length = k := by rw [List.length_take]; omega
  have hRl : (ps.drop k).length = ps.length - k := List.length_drop
  refine ⟨_, rfl, _, rfl, _, rfl, pl, _, rfl, hl, fun pc hpc => ?_⟩
  rw [cut_takeV xs k (by omega)]
  have s1 := same_new hpc (.lst (xs.take k))
  refine ⟨pc, _, ps.take k, rfl, SqL.of upd_same, PsR.same s1 (psr_take hp k), by omega, hgA, ?_⟩
  dsimp only [gName]
  obtain ⟨pre1, pre2⟩ := pre_len hgA m
  have fbl := fb.len
  rw [len_S] at fbl
  have fbc := fb.cod
  rw [cd_S] at fbc
  refine seq_mid (fun σ' H2 => Same H H2 ∧ σ' = [some (.ref pl), some (.int (k : Nat)), some (.str (S b)), some (.bl m), some (.str (S ((if ps.take k = [] then (if m = true then [45, 32] else []) else joinL [32] (elems 0 (ps.take k)) ++ ([32] ++ sgM m ++ [32])) ++ b))), none, none]) ?k1 ?m1
  case m1 =>
    intro key
    refine ⟨_, rfl, _, _, rfl, rfl, _, rfl, ite2 (fun c => ?_) (fun c => ?_)⟩
    · have c' : 0 < k := by have := of_decide_eq_true c; omega
      have hne : ps.take k ≠ [] := fun e => by rw [e] at hAl; simp at hAl; omega
      rw [if_neg hne] at key pre1
      have hx : (joinL [32] (elems 0 (ps.take k)) ++ ([32] ++ sgM m ++ [32])).length = (joinL [32] (elems 0 (ps.take k))).length + ([32] ++ sgM m ++ [32]).length := List.length_append
      refine ⟨_, rfl, (by show 2 ≤ sizeLine; decide), fun p2 hp2 => ?_⟩
      refine ⟨_, rfl, .inr ⟨_, rfl, p2, _, _, _, rfl, rfl, SqL.of upd_same, sg_txt m, _, _, rfl, rfl, small_of (m := 1000) (by rw [len_S, len_S]; omega), ?_⟩⟩
      rw [S_app]
      refine ⟨_, rfl, _, _, rfl, rfl, small_of (m := 1000) (by rw [len_S, len_S]; omega), ?_⟩
      rw [S_app]
      exact key _ _ ⟨s1.trans (same_new hp2 _), rfl⟩
    · have c' : k = 0 := by
        by_cases h0 : 0 < k
        · exact absurd (decide_eq_true (show (0 : Int) < (k : Nat) by omega)) c
        · omega
      have hne : ps.take k = [] := by rw [c']; rfl
      rw [if_pos hne] at key pre1
      refine ⟨(by show 2 ≤ sizeLine; decide), fun p2 hp2 => ?_⟩
      refine ⟨_, rfl, .inr ⟨_, rfl, p2, _, _, _, rfl, rfl, SqL.of upd_same, sg_txt2 m, _, rfl, _, _, rfl, rfl, small_of (m := 1000) (by rw [len_S, len_S]; omega), ?_⟩⟩
      rw [S_app]
      exact key _ _ ⟨s1.trans (same_new hp2 _), rfl⟩
  case k1 =>
    rintro σ' H2 ⟨s2, rfl⟩
    generalize hY : (if ps.take k = [] then (if m = true then [45, 32] else []) else joinL [32] (elems 0 (ps.take k)) ++ ([32] ++ sgM m ++ [32])) ++ b = Y
    have hYl : Y.length ≤ 76 * k + 73 := by rw [← hY, List.length_append]; omega
    have hYc : ∀ c ∈ Y, c < 1000 := fun c hc => by
      rw [← hY] at hc
      rcases List.mem_append.mp hc with e | e
      · exact pre2 c e
      · exact fbc c e
    refine ⟨_, rfl, _, rfl, _, rfl, pl, _, rfl, s2.seq hl, fun pd hpd => ?_⟩
    rw [cut_dropV xs k (by omega)]
    have s3 := same_new hpd (.lst (xs.drop k))
    have s23 := s2.trans s3
    refine ⟨pd, rfl, ⟨_, SqL.of upd_same⟩, ?_⟩
    have hpR := psr_drop hp k
    refine for_listR (xs := xs.drop k) (fun i σ H' => Same (upd H2 pd (.lst (xs.drop k))) H' ∧ ∃ u v, σ = [some (.ref pl), some (.int (k : Nat)), some (.str (S b)), some (.bl m), some (.str (S (Y ++ tailT ((ps.drop k).take i)))), u, v]) ⟨Same.refl _, _, _, by rw [List.take_zero]; show _ = [_, _, _, _, some (V.str (S (Y ++ []))), _, _]; rw [List.append_nil]⟩ (fun i σ H' _ hh => SqL.of (hh.1 _ _ upd_same)) (fun i x σ H' hx hh => ?_) (fun σ H' hh => ?_)
    · obtain ⟨sH, u, v, rfl⟩ := hh
      obtain ⟨p, hpi, hpr⟩ := hpR.at hx
      obtain ⟨a, rfl, ha⟩ := hpr.same (s23.trans sH)
      have hgp := hgR p (List.mem_of_getElem? hpi)
      have hil := (List.getElem?_eq_some_iff.mp hpi).1
      have hT := tail_len (R := (ps.drop k).take i) (fun p hp => hgR p (List.mem_of_mem_take hp))
      have hTl : ((ps.drop k).take i).length = i := by rw [List.length_take]; omega
      rw [hTl] at hT
      have hpl := part_len hgp
      have et : (ps.drop k).take (i + 1) = (ps.drop k).take i ++ [p] := by rw [List.take_succ, hpi]; rfl
      have h3 : ([32] ++ sgM (decide (p.1 < 0)) ++ [32]).length = 3 := by rw [sgM_is, List.length_append, List.length_append, sgnL_len]; rfl
      refine ⟨a, _, rfl, ha, rfl, _, _, rfl, _, _, rfl, rfl, ?_⟩
      refine ⟨_, rfl, (by show 2 ≤ sizeLine; decide), fun p2 hp2 => ?_⟩
      refine ⟨_, rfl, _, _, rfl, rfl, .inr ⟨_, rfl, p2, _, _, _, rfl, rfl, SqL.of upd_same, sg_txt _, _, _, rfl, rfl, small_of (m := 1000) (by rw [len_S, len_S, List.length_append, h3]; omega), ?_⟩⟩
      rw [S_app]
      refine ⟨_, rfl, _, rfl, p, rfl, hgp, _, _, rfl, rfl, small_of (m := 1000) (by rw [len_S, len_S, List.length_append, List.length_append, h3]; omega), sH.trans (same_new hp2 _), some (.int p.1), some (nv p.2), ?_⟩
      rw [S_app, et, tail_snoc, sgM_is]
      show [_, _, _, _, some (V.str (S (Y ++ tailT ((ps.drop k).take i) ++ ([32] ++ sgnL p ++ [32]) ++ partS p))), _, _] = _
      simp [List.append_assoc]
    · obtain ⟨sH, u, v, rfl⟩ := hh
      rw [show (xs.drop k).length = (ps.drop k).length from hpR.len, List.take_length]
      have et : spoilT (ps.take k) m b (ps.drop k) = Y ++ tailT (ps.drop k) := by unfold spoilT; rw [hY]
      have hT := tail_len hgR
      rw [hRl] at hT
      have := q _ (s23.trans sH) (by
        rw [et]
        refine fineL (by rw [List.length_append]; omega) fun c hc => ?_
        rcases List.mem_append.mp hc with e | e
        · exact hYc c e
        · exact tail_ch hgR c e)
      rw [et] at this
      exact ⟨_, rfl, this⟩
end
end K12
set_option maxHeartbeats 1000000
namespace K12
open PySem L2
seal PE PT PW PA PS PSs PG PGs PI PO PSet OpR UnR CallR TruR IxR SlR PC PPs
local macro_rules | `(tactic| walk_at "rd1") => `(tactic| first
  | (refine And.intro rfl ?_)
  | (refine And.intro (by assumption) ?_)
  | (refine And.intro (fun _ e => e) ?_)
  | (refine And.intro (TyOf.str _) ?_) | (refine And.intro (TyOf.int _) ?_) | (refine And.intro (TyOf.bl _) ?_) | (refine And.intro TyOf.non ?_)
  | (refine iteT ?_) | (refine iteF ?_)
  | (apply Exists.intro))
local macro_rules | `(tactic| walk_at "rd") => `(tactic| repeat (walk_at "rd1"))

def sp_law (K : PySem.W.Frag) : Sp := fun vs H Q _ => ∃ (a : Addr) (ns : List Int), vs = [.ref a] ∧ SqL K H a (ns.map V.int) ∧ ns.length ≤ 63 ∧ (∀ n ∈ ns, ib n ≤ 1048576) ∧ ∀ H', Q (.bl true) H'
theorem rep7 : repN (cd (Str.ofString " + 7")) (12 : Int).toNat = tailT (List.replicate 12 (7, none)) := by decide +kernel
theorem tail3 (z : Str) : tailT [(-3, some z)] = [32, 45, 32, 51, 32] ++ cd z := by
  have h : dig 3 = [51] := by decide +kernel
  show ([32] ++ sgnL (-3, some z) ++ [32] ++ (if (-3 : Int).natAbs = 1 then cd z else dig (-3 : Int).natAbs ++ [32] ++ cd z)) ++ [] = _
  rw [if_neg (by decide), show (-3 : Int).natAbs = 3 from rfl, h, List.append_nil]
  rfl
theorem bad_fine {nm : List Nat} (hn : nameB (S nm) = true) {W : List (List Nat)} (h : W ∈ badWs nm) : Fine 70 (S (joinL [32] W)) := by
  have hl := name_let hn
  rw [len_S, cd_S] at hl
  have hc : ∀ c ∈ nm, c < 1000 := fun c hc => by have := hl.2.2 c hc; omega
  have key : ∀ l ∈ W, (∀ c ∈ l, c < 1000) := by
    have hd : ∀ l ∈ ([[48], [49], [48, 48, 55], [45, 51], [65, 98], [101, 110, 100], [97, 98, 99, 100, 101, 102, 103, 104, 105, 106, 107, 108, 109], 49 :: repN [48] 60, [], [50], [51], [42], [45]] : List (List Nat)), ∀ c ∈ l, c < 1000 := by decide +kernel
    intro l hl' c hcl
    simp only [badWs, List.mem_cons, List.not_mem_nil, or_false] at h
    have : l = nm ∨ l = nm ++ [10] ∨ l ∈ ([[48], [49], [48, 48, 55], [45, 51], [65, 98], [101, 110, 100], [97, 98, 99, 100, 101, 102, 103, 104, 105, 106, 107, 108, 109], 49 :: repN [48] 60, [], [50], [51], [42], [45]] : List (List Nat)) := by
      rcases h with e | e | e | e | e | e | e | e | e | e | e | e | e | e | e | e <;> subst e <;> simp only [List.mem_cons, List.not_mem_nil, or_false] at hl' ⊢ <;> (first | (rcases hl' with e | e | e <;> simp [e]) | (rcases hl' with e | e <;> simp [e]) | simp [hl'])
    rcases this with e | e | e
    · rw [e] at hcl; exact hc c hcl
    · rw [e] at hcl
      rcases List.mem_append.mp hcl with z | z
      · exact hc c z
      · have := List.mem_singleton.mp z; omega
    · exact hd l e c hcl
  refine ⟨?_, fun c hcc => ?_⟩
  · rw [len_S]
    simp only [badWs, List.mem_cons, List.not_mem_nil, or_false] at h
    rcases h with e | e | e | e | e | e | e | e | e | e | e | e | e | e | e | e <;> subst e
    · show ([48] ++ [32] ++ nm).length ≤ 70; simp; omega
    · show ([49] ++ [32] ++ nm).length ≤ 70; simp; omega
    · decide
    · decide
    · decide
    · show (nm ++ [32] ++ nm).length ≤ 70; simp; omega
    · decide
    · decide
    · decide +kernel
    · decide
    · decide
    · show (nm ++ [32] ++ [50]).length ≤ 70; simp; omega
    · show ([50] ++ [32] ++ ([42] ++ [32] ++ nm)).length ≤ 70; simp; omega
    · show ([50] ++ [32] ++ ([] ++ [32] ++ nm)).length ≤ 70; simp; omega
    · decide
    · show (nm ++ [10]).length ≤ 70; simp; omega
  · rw [cd_S] at hcc
    rcases mem_join hcc with e | ⟨l, hl', e⟩
    · omega
    · exact key l hl' c e
end K12
set_option maxHeartbeats 1000000
namespace K12
open PySem L2
seal PE PT PW PA PS PSs PG PGs PI PO PSet OpR UnR CallR TruR IxR SlR PC PPs
local macro_rules | `(tactic| walk_at "rd1") => `(tactic| first
  | (refine And.intro rfl ?_)
  | (refine And.intro (by assumption) ?_)
  | (refine And.intro (fun _ e => e) ?_)
  | (refine And.intro (TyOf.str _) ?_) | (refine And.intro (TyOf.int _) ?_) | (refine And.intro (TyOf.bl _) ?_) | (refine And.intro TyOf.non ?_)
  | (refine iteT ?_) | (refine iteF ?_)
  | (apply Exists.intro))
local macro_rules | `(tactic| walk_at "rd") => `(tactic| repeat (walk_at "rd1"))

section
variable {P : Program} {w : World} {K : PySem.W.Frag} {mg : Str → Option Value} {base : Heap} {A : Adr}
theorem ok_law (T : Txt K mg A) : FnOk P w K mg base CX0 7 A.f_law A.d_law ["_law_script"] (sp_law K) := by
  have G_law_cell_at := ok_law_cell_at (P := P) (w := w) (base := base) T
  have G_law_names := ok_law_names (P := P) (w := w) (base := base) T
  have G_law_parts_by := ok_law_parts_by (P := P) (w := w) (base := base) T
  have G_law_bad := ok_law_bad (P := P) (w := w) (base := base) T
  have G_law_refused := ok_law_refused (P := P) (w := w) (base := base) T
  have G_law_spoiled := ok_law_spoiled (P := P) (w := w) (base := base) T
  have G_law_text := ok_law_text (P := P) (w := w) (base := base) T
  have G_read_sum := ok_read_sum (P := P) (w := w) (base := base) T
  refine T.F_law.ok sc_law (fun vs H Q E h => ?_) (fun cdv A0 outer s H vs Q E hr h => ?_)
  · obtain ⟨a, ns, rfl, _⟩ := h
    rfl
  obtain ⟨a, ns, rfl, hS, hlen, hbits, q⟩ := h
  refine ⟨_, (pss_cons (ps_set (i := 1) sc_law.nd rfl (by first | exact Or.inl rfl | exact Or.inr rfl) (pe_call G_law_names (hr.mono (by decide)) rfl T.m_law_names T.k_law_names T.b_law_names .nil pass0 (pa_cons (pv 0) pa_nil)))
      (pss_cons (ps_set (i := 2) sc_law.nd rfl (by first | exact Or.inl rfl | exact Or.inr rfl) (pe_ix ix_list (pv 1) (pe_op op_mod (pe_call G_law_cell_at (hr.mono (by decide)) rfl T.m_law_cell_at T.k_law_cell_at T.b_law_cell_at .nil pass0 (pa_cons (pv 0) (pa_cons pe_int pa_nil))) pe_int) (fun _ _ => rfl)))
      (pss_cons (ps_set (i := 3) sc_law.nd rfl (by first | exact Or.inl rfl | exact Or.inr rfl) (pe_call G_law_parts_by (hr.mono (by decide)) rfl T.m_law_parts_by T.k_law_parts_by T.b_law_parts_by .nil pass0 (pa_cons (pe_slice sl_list (pv 0) (po_some pe_int) (po_some pe_int)) (pa_cons (pv 1) pa_nil))))
      (pss_cons (ps_set (i := 4) sc_law.nd rfl (by first | exact Or.inl rfl | exact Or.inr rfl) (pe_op op_mod (pe_call G_law_cell_at (hr.mono (by decide)) rfl T.m_law_cell_at T.k_law_cell_at T.b_law_cell_at .nil pass0 (pa_cons (pv 0) (pa_cons pe_int pa_nil))) (pe_op op_add (pe_callB call_len_seq (by rfl) T.n_len PySem.boot_len (pa_cons (pv 3) pa_nil)) pe_int)))
      (pss_cons (ps_set (i := 5) sc_law.nd rfl (by first | exact Or.inl rfl | exact Or.inr rfl) (pe_cmpR op_eq (pe_op op_mod (pe_call G_law_cell_at (hr.mono (by decide)) rfl T.m_law_cell_at T.k_law_cell_at T.b_law_cell_at .nil pass0 (pa_cons (pv 0) (pa_cons pe_int pa_nil))) pe_int) pe_int (nomark _)))
      (pss_cons (ps_set (i := 6) sc_law.nd rfl (by first | exact Or.inl rfl | exact Or.inr rfl) (pe_call G_law_bad (hr.mono (by decide)) rfl T.m_law_bad T.k_law_bad T.b_law_bad .nil pass0 (pa_cons (pe_call G_law_cell_at (hr.mono (by decide)) rfl T.m_law_cell_at T.k_law_cell_at T.b_law_cell_at .nil pass0 (pa_cons (pv 0) (pa_cons pe_int pa_nil))) (pa_cons (pv 2) pa_nil))))
      (pss_cons (ps_if (PW.pt (pw_or (pt_not (pt_val (pe_call G_law_refused (hr.mono (by decide)) rfl T.m_law_refused T.k_law_refused T.b_law_refused .nil pass0 (pa_cons (pe_call G_law_spoiled (hr.mono (by decide)) rfl T.m_law_spoiled T.k_law_spoiled T.b_law_spoiled .nil pass0 (pa_cons (pv 3) (pa_cons (pv 4) (pa_cons (pv 6) (pa_cons (pv 5) pa_nil))))) pa_nil)))) (pw_or1 (pt_not (pt_val (pe_call G_law_refused (hr.mono (by decide)) rfl T.m_law_refused T.k_law_refused T.b_law_refused .nil pass0 (pa_cons (pe_call G_law_spoiled (hr.mono (by decide)) rfl T.m_law_spoiled T.k_law_spoiled T.b_law_spoiled .nil pass0 (pa_cons (pv 3) (pa_cons (pv 4) (pa_cons pe_str (pa_cons pe_bl pa_nil))))) pa_nil))))))) (pss_one (ps_ret pe_bl)) pss_nil)
      (pss_cons (ps_if (pt_cmpR (op_eqJ (hu20 hr)) (pv 3) (pe_lst pa_nil) (nomark _)) (pss_one (ps_set (i := 3) sc_law.nd rfl (by first | exact Or.inl rfl | exact Or.inr rfl) (pe_lst (pa_cons (pe_tup (pa_cons pe_int (pa_cons (pv 2) pa_nil))) pa_nil)))) pss_nil)
      (pss_cons (ps_set (i := 7) sc_law.nd rfl (by first | exact Or.inl rfl | exact Or.inr rfl) (pe_call G_law_text (hr.mono (by decide)) rfl T.m_law_text T.k_law_text T.b_law_text .nil pass0 (pa_cons (pv 3) pa_nil)))
      (pss_cons (ps_if (PW.pt (pw_or (pt_not (pt_val (pe_call G_law_refused (hr.mono (by decide)) rfl T.m_law_refused T.k_law_refused T.b_law_refused .nil pass0 (pa_cons (pe_op op_add_str pe_str (pv 7)) pa_nil)))) (pw_or (pt_not (pt_val (pe_call G_law_refused (hr.mono (by decide)) rfl T.m_law_refused T.k_law_refused T.b_law_refused .nil pass0 (pa_cons (pe_op op_add_str (pv 7) pe_str) pa_nil)))) (pw_or1 (pt_not (pt_val (pe_call G_law_refused (hr.mono (by decide)) rfl T.m_law_refused T.k_law_refused T.b_law_refused .nil pass0 (pa_cons (pe_op op_add_str (pv 7) pe_str) pa_nil)))))))) (pss_one (ps_ret pe_bl)) pss_nil)
      (pss_cons (ps_forR PassesOwn.never rfl (pi_list (pv 3)) (pg_tup rfl (pgs_cons (pg_name (i := 8) sc_law.nd rfl (by first | exact Or.inl rfl | exact Or.inr rfl)) (pgs_cons (pg_name (i := 9) sc_law.nd rfl (by first | exact Or.inl rfl | exact Or.inr rfl)) pgs_nil))) (pss_one (ps_if (PW.pt (pw_and (pt_cmpR op_notN (pv 9) pe_non (nomark _)) (pw_and1 (pt_not (pt_val (pe_call G_law_refused (hr.mono (by decide)) rfl T.m_law_refused T.k_law_refused T.b_law_refused .nil pass0 (pa_cons (pe_op op_add_str (pe_op op_add_str (pv 7) pe_str) (pv 9)) pa_nil))))))) (pss_one (ps_ret pe_bl)) pss_nil)))
      (pss_cons (ps_if (pt_not (pt_val (pe_call G_law_refused (hr.mono (by decide)) rfl T.m_law_refused T.k_law_refused T.b_law_refused .nil pass0 (pa_cons (pe_op op_add_str (pv 7) (pe_op op_mul_str pe_str pe_int)) pa_nil)))) (pss_one (ps_ret pe_bl)) pss_nil)
      (pss_cons (ps_forR PassesOwn.never rfl (pi_list (pe_lst (pa_cons pe_non (pa_cons pe_int (pa_cons pe_bl (pa_cons (pe_lst (pa_cons pe_str pa_nil)) (pa_cons (pe_tup (pa_cons pe_int (pa_cons (pv 2) pa_nil))) (pa_cons pe_dnewK (pa_cons (pv 3) pa_nil))))))))) (pg_name (i := 10) sc_law.nd rfl (by first | exact Or.inl rfl | exact Or.inr rfl)) (pss_one (ps_if (pt_not (pt_val (pe_call G_law_refused (hr.mono (by decide)) rfl T.m_law_refused T.k_law_refused T.b_law_refused .nil pass0 (pa_cons (pv 10) pa_nil)))) (pss_one (ps_ret pe_bl)) pss_nil)))
      (pss_one (ps_ret (pe_cmpR (op_eqJ (hu20 hr)) (pe_call G_read_sum (hr.mono (by decide)) rfl T.m_read_sum T.k_read_sum T.b_read_sum .nil passW0 (pa_cons (pv 7) pa_nil)) (pv 3) (nomark _))))))))))))))))), ?_⟩
  refine ⟨_, rfl, a, ns, rfl, hS, hbits, fun pn zs H1 hzl hzn s1 hpn => ?_⟩
  refine ⟨_, rfl, _, rfl, a, ns, 2, rfl, s1.seq hS, by decide, hbits, fun c2 hc2 => ?_⟩
  have i0 : 0 ≤ c2 % 12 := Int.emod_nonneg _ (by decide)
  have i1 : c2 % 12 < 12 := Int.emod_lt_of_pos _ (by decide)
  obtain ⟨x, hx1, hx2⟩ := at_some (l := zs.map V.str) i0 (by rw [List.length_map, hzl]; exact i1)
  obtain ⟨z, hz, rfl⟩ := map_get hx2
  have hzn' := hzn z (List.mem_of_getElem? hz)
  refine ⟨_, _, rfl, rfl, (by show (0 : Int) < 12; decide), pn, _, _, _, rfl, rfl, SqL.of hpn, hx1, ?_⟩
  refine ⟨_, rfl, _, rfl, _, rfl, a, _, rfl, s1.seq hS, fun pc hpc => ?_⟩
  have hcut : ∃ ms : List Int, cutV (ns.map V.int) (some 5) (some 16) = ms.map V.int ∧ (∀ m ∈ ms, m ∈ ns) ∧ ms.length ≤ 11 := by
    obtain ⟨ms, em, hm, _⟩ := cutV_map V.int ns (some 5) (some 16)
    refine ⟨ms, em, hm, ?_⟩
    have hl := congrArg List.length em
    rw [List.length_map] at hl
    rw [← hl]
    unfold cutV
    have e1 : HT.sIx (ns.map V.int).length 0 (some 5) = min 5 (ns.map V.int).length := by
      show (if (5 : Int) < 0 then ((5 : Int) + ((ns.map V.int).length : Nat)).toNat else min (5 : Int).toNat (ns.map V.int).length) = _
      rw [if_neg (by decide)]; rfl
    have e2 : HT.sIx (ns.map V.int).length (ns.map V.int).length (some 16) = min 16 (ns.map V.int).length := by
      show (if (16 : Int) < 0 then ((16 : Int) + ((ns.map V.int).length : Nat)).toNat else min (16 : Int).toNat (ns.map V.int).length) = _
      rw [if_neg (by decide)]; rfl
    rw [e1, e2, List.length_take]
    omega
  obtain ⟨ms, em, hm, hm11⟩ := hcut
  rw [em]
  have sc := same_new hpc (.lst (ms.map V.int))
  refine ⟨_, rfl, pc, pn, ms, zs, rfl, SqL.of upd_same, by omega, fun n hn => hbits n (hm n hn), SqL.of (sc _ _ hpn), hzl, hzn, fun pl xs ps H2 s2 hpl hps hpsl hg hnd => ?_⟩
  have s12 := s1.trans (sc.trans s2)
  have h11 : ps.length ≤ 11 := by omega
  refine ⟨_, rfl, a, ns, 3, rfl, s12.seq hS, by decide, hbits, fun c3 hc3 => ⟨_, rfl, pl, _, rfl, .inl (SqL.of hpl), _, _, rfl, rfl, ?_⟩⟩
  rw [hps.len]
  have k0 : 0 ≤ c3 % ((ps.length : Int) + 1) := Int.emod_nonneg _ (by omega)
  have k1 : c3 % ((ps.length : Int) + 1) < (ps.length : Int) + 1 := Int.emod_lt_of_pos _ (by omega)
  obtain ⟨k, ek⟩ : ∃ k : Nat, c3 % ((ps.length : Int) + 1) = (k : Int) := ⟨(c3 % ((ps.length : Int) + 1)).toNat, by omega⟩
  refine ⟨_, _, rfl, rfl, (by show (0 : Int) < (ps.length : Int) + 1; omega), ?_⟩
  dsimp only
  rw [ek]
  refine ⟨_, rfl, a, ns, 4, rfl, s12.seq hS, by decide, hbits, fun c4 hc4 => ⟨_, _, rfl, rfl, (by show (0 : Int) < 2; decide), rfl, ?_⟩⟩
  generalize hmn : decide (V.int (c4 % 2) = V.int 1) = mn
  dsimp only
  refine ⟨_, rfl, a, ns, 2, rfl, s12.seq hS, by decide, hbits, fun c2' hc2' => ⟨_, rfl, c2', z, rfl, hzn', fun W H3 hW s3 => ?_⟩⟩
  have hznS : nameB (S (cd z)) = true := by rw [S_cd]; exact hzn'
  obtain ⟨b1, b2, b3⟩ := bad_ok hznS hW
  have fW := bad_fine hznS hW
  have hpl3 := s3 _ _ hpl
  have hps3 := hps.same s3
  have hgA : ∀ p ∈ ps.take k, PGood p := fun p hp => hg p (List.mem_of_mem_take hp)
  have hgR : ∀ p ∈ ps.drop k, PGood p := fun p hp => hg p (List.mem_of_mem_drop hp)
  have hkl : k ≤ ps.length := by omega
  refine ⟨_, rfl, _, rfl, _, rfl, _, rfl, pl, xs, ps, k, joinL [32] W, mn, rfl, SqL.of hpl3, hps3, h11, hg, hkl, fW, fun H4 s4 fT => ?_⟩
  refine ⟨_, rfl, .inl ⟨_, rfl, fT, ?_⟩, fun H5 s5 => ⟨_, rfl, iteF ?_⟩⟩
  · rw [cd_S]
    refine spoil_none hgA hgR b1 b2 ?_
    rcases b3 with ⟨c1, c2⟩ | e
    · exact .inl ⟨c1, fun _ _ => c2 _, c2 _⟩
    · exact .inr e
  have s35 := s4.trans s5
  have f0 : Fine 70 (S [48]) := ⟨by decide, by rw [cd_S]; decide⟩
  refine ⟨_, rfl, _, rfl, pl, xs, ps, k, [48], true, ?_, SqL.of (s35 _ _ hpl3), hps3.same s35, h11, hg, hkl, f0, fun H6 s6 fT2 => ?_⟩
  · rw [show Str.ofString "0" = S [48] by decide +kernel]; rfl
  refine ⟨_, rfl, .inl ⟨_, rfl, fT2, ?_⟩, fun H7 s7 => ⟨_, rfl, iteF ?_⟩⟩
  · rw [cd_S]
    exact spoil_none (W := [[48]]) hgA hgR (by simp) (by decide) (.inl ⟨by decide, fun _ e => (by cases e), zero_ok⟩)
  have s37 := s35.trans (s6.trans s7)
  have s07 := s12.trans (s3.trans s37)
  have hpl7 := s37 _ _ hpl3
  have hps7 := hps3.same s37
  have hpn7 : H7 pn = some (.lst (zs.map V.str)) := s37 _ _ (s3 _ _ (s2 _ _ (sc _ _ hpn)))
  -- good is not empty from here on
  dsimp only [tNext]
  refine seq_mid (fun σ' H' => Same H H' ∧ ∃ (pg : Addr) (ys : List V) (gs : List Part), σ' = [some (.ref a), some (.ref pn), some (.str z), some (.ref pg), some (.int (k : Nat)), some (.bl mn), some (.str (S (joinL [32] W))), none, none, none, none] ∧ H' pg = some (.lst ys) ∧ PsR K H' ys gs ∧ gs ≠ [] ∧ gs.length ≤ 11 ∧ (∀ p ∈ gs, PGood p) ∧ (gs.filterMap (·.2)).Nodup) ?kk ?mm
  case mm =>
    intro key
    refine ⟨_, rfl, (by show 0 ≤ sizeLine; decide), fun p0 hp0 => ?_⟩
    have s8 := same_new hp0 (.lst [])
    by_cases he : ps = []
    · subst he
      have hxs : xs = [] := by have := hps.len; exact List.length_eq_zero_iff.mp this
      subst hxs
      refine ⟨_, eqj_lists (n := 19) (e := fun _ => true) (SqL.of (s8 _ _ hpl7)) (SqL.of upd_same) rfl (fun j x y hx => by simp at hx), _, rfl, iteT ?_⟩
      refine ⟨_, rfl, (by show 2 ≤ sizeLine; decide), fun t ht => ⟨(by show 1 ≤ sizeLine; decide), fun p1 hp1 => ?_⟩⟩
      have s9 := same_new ht (.tup [.int 1, .str z])
      have s10 := same_new hp1 (.lst [.ref t])
      refine key _ _ ⟨s07.trans (s8.trans (s9.trans s10)), p1, [.ref t], [(1, some z)], rfl, upd_same, .cons ⟨t, rfl, SqT.of (s10 _ _ upd_same)⟩ .nil, by simp, (by show 1 ≤ 11; decide), fun p hp => ?_, by show ([z] : List Str).Nodup; simp⟩
      rw [List.mem_singleton.mp hp]
      exact ⟨(by show (1 : Int).natAbs < 10 ^ 60; decide +kernel), fun y ey => by cases ey; exact ⟨hzn', (by show (1 : Int) ≠ 0; decide)⟩⟩
    · have hxl : xs.length ≠ ([] : List V).length := fun e => he (by have := hps.len; rw [e] at this; exact List.length_eq_zero_iff.mp this.symm)
      refine ⟨_, eqj_lists_len (n := 19) (SqL.of (s8 _ _ hpl7)) (SqL.of upd_same) hxl, _, rfl, iteF ?_⟩
      exact key _ _ ⟨s07.trans s8, pl, xs, ps, rfl, s8 _ _ hpl7, hps7.same s8, he, h11, hg, hnd⟩
  case kk =>
    rintro σ' H8 ⟨s08, pg, ys, gs, rfl, hpg, hgs, hne, hg11, hgg, hgn⟩
    have hX := text_len hgg
    have fX := text_fine (ps := gs) (by omega) hgg
    have hround := sum_round hne (by omega) hgg hgn
    refine ⟨_, rfl, pg, ys, gs, rfl, SqL.of hpg, hgs, by omega, hgg, ?_⟩
    generalize hXX : joinL [32] (elems 0 gs) = X at hX fX hround
    have hXl : X.length ≤ 836 := by omega
    have hXc : ∀ c ∈ X, c < 1000 := fun c hc => fX.cod c (by rw [cd_S]; exact hc)
    have fin : ∀ Y : List Nat, Y.length ≤ 150 → (∀ c ∈ Y, c < 1000) → Fine 990 (S (X ++ Y)) := fun Y h1 h2 => fineL (by rw [List.length_append]; omega) fun c hc => by
      rcases List.mem_append.mp hc with e | e
      · exact hXc c e
      · exact h2 c e
    have e1 : Str.ofString "+ " ++ S X = S ([43, 32] ++ X) := by rw [show Str.ofString "+ " = S [43, 32] by decide +kernel, S_app]
    have e2 : S X ++ Str.ofString " +" = S (X ++ [32, 43]) := by rw [show Str.ofString " +" = S [32, 43] by decide +kernel, S_app]
    have e3 : S X ++ Str.ofString " " = S (X ++ [32]) := by rw [show Str.ofString " " = S [32] by decide +kernel, S_app]
    refine ⟨_, rfl, _, _, rfl, rfl, small_of (m := 1000) (by rw [len_S, show (Str.ofString "+ ").length = 2 by decide +kernel]; omega), ?_⟩
    rw [e1]
    refine ⟨_, rfl, .inl ⟨_, rfl, fineL (by rw [List.length_append]; show 2 + _ ≤ 990; omega) (fun c hc => ?_), by rw [cd_S, ← hXX]; exact plus_ahead hne hgg⟩, fun H9 s9 => ⟨_, rfl, iteF ?_⟩⟩
    · rcases List.mem_append.mp hc with e | e
      · clear hc; revert c; decide
      · exact hXc c e
    refine ⟨_, rfl, _, _, rfl, rfl, small_of (m := 1000) (by rw [len_S, show (Str.ofString " +").length = 2 by decide +kernel]; omega), ?_⟩
    rw [e2]
    refine ⟨_, rfl, .inl ⟨_, rfl, fin _ (by decide) (by decide), by rw [cd_S, ← hXX]; exact plus_behind hne hgg⟩, fun H10 s10 => ⟨_, rfl, iteF ?_⟩⟩
    refine ⟨_, rfl, _, _, rfl, rfl, small_of (m := 1000) (by rw [len_S, show (Str.ofString " ").length = 1 by decide +kernel]; omega), ?_⟩
    rw [e3]
    refine ⟨_, rfl, .inl ⟨_, rfl, fin _ (by decide) (by decide), by rw [cd_S, ← hXX]; exact blank_behind hne hgg⟩, fun H11 s11 => ⟨_, rfl, iteF ?_⟩⟩
    have s811 := s9.trans (s10.trans s11)
    have hpg11 := s811 _ _ hpg
    have hgs11 := hgs.same s811
    -- each name once more
    refine ⟨_, rfl, pg, rfl, ⟨_, SqL.of hpg11⟩, ?_⟩
    refine for_listR (xs := ys) (fun i σ H' => Same H11 H' ∧ ∃ u v, σ = [some (.ref a), some (.ref pn), some (.str z), some (.ref pg), some (.int (k : Nat)), some (.bl mn), some (.str (S (joinL [32] W))), some (.str (S X)), u, v, none]) ⟨Same.refl _, _, _, rfl⟩ (fun i σ H' _ hh => SqL.of (hh.1 _ _ hpg11)) (fun i x σ H' hx hh => ?_) (fun σ H' hh => ?_)
    · obtain ⟨sH, u, v, rfl⟩ := hh
      obtain ⟨p, hpi, hpr⟩ := hgs11.at hx
      obtain ⟨b, rfl, hb⟩ := hpr.same sH
      refine ⟨b, _, rfl, hb, rfl, _, _, rfl, _, _, rfl, rfl, ?_⟩
      refine ⟨_, rfl, rfl, _, rfl, ?_⟩
      have hgp := hgg p (List.mem_of_getElem? hpi)
      obtain ⟨t, n⟩ := p
      cases n with
      | none => exact iteF (iteF ⟨sH, _, _, rfl⟩)
      | some y =>
        have hyn := (hgp.2 y rfl).1
        have hyl := name_let hyn
        have hyy := hyl.1
        rw [len_cd] at hyy
        have e4 : S X ++ Str.ofString " - 3 " = S (X ++ [32, 45, 32, 51, 32]) := by rw [show Str.ofString " - 3 " = S [32, 45, 32, 51, 32] by decide +kernel, S_app]
        have e5 : S (X ++ [32, 45, 32, 51, 32]) ++ y = S (X ++ tailT [(-3, some y)]) := by
          rw [tail3]
          refine (congrArg (fun q => S (X ++ [32, 45, 32, 51, 32]) ++ q) (S_cd y).symm).trans ?_
          show S (X ++ [32, 45, 32, 51, 32]) ++ S (cd y) = _
          rw [S_app, List.append_assoc]
        refine iteT ⟨_, rfl, _, _, rfl, rfl, small_of (m := 1000) (by rw [len_S, show (Str.ofString " - 3 ").length = 5 by decide +kernel]; omega), ?_⟩
        rw [e4]
        refine ⟨_, rfl, _, _, rfl, rfl, small_of (m := 1000) (by rw [len_S, List.length_append, len_cd]; show _ + 5 + _ ≤ 1000; omega), ?_⟩
        rw [e5]
        refine ⟨_, rfl, .inl ⟨_, rfl, fin _ ?_ ?_, ?_⟩, fun H12 s12 => ⟨_, rfl, iteF ⟨sH.trans s12, _, _, rfl⟩⟩⟩
        · rw [tail3, List.length_append]; show 5 + _ ≤ 150; omega
        · rw [tail3]
          intro c hc
          rcases List.mem_append.mp hc with e | e
          · clear hc; revert c; decide
          · have := hyl.2.2 c e; omega
        · rw [cd_S, ← hXX]
          exact twice_none hne hgg (List.mem_filterMap.mpr ⟨(t, some y), List.mem_of_getElem? hpi, rfl⟩)
    · obtain ⟨sH, u, v, rfl⟩ := hh
      have s8H := s811.trans sH
      have l7 : (Str.ofString " + 7").length = 4 := by decide +kernel
      have lr : (S (repN (cd (Str.ofString " + 7")) (12 : Int).toNat)).length = 48 := by decide +kernel
      have lt : (tailT (List.replicate 12 ((7 : Int), (none : Option Str)))).length = 48 := by decide +kernel
      refine ⟨_, rfl, _, _, rfl, rfl, by decide, by decide, by rw [l7]; decide, by rw [l7]; decide, _, _, rfl, rfl, small_of (m := 1000) (by rw [lr, len_S]; omega), ?_⟩
      rw [rep7, S_app]
      refine ⟨_, rfl, .inl ⟨_, rfl, fin _ (by rw [lt]; decide) (by decide +kernel), by rw [cd_S, ← hXX]; exact many_none hne hgg⟩, fun H12 s12 => ⟨_, rfl, iteF ?_⟩⟩
      have s8c := s8H.trans s12
      refine ⟨(by show 1 ≤ sizeLine; decide), fun q1 hq1 => ?_⟩
      have t1 := same_new hq1 (.lst [.str (Str.ofString "a")])
      refine ⟨_, rfl, (by show 2 ≤ sizeLine; decide), fun q2 hq2 => ?_⟩
      have t2 := same_new hq2 (.tup [.int 1, .str z])
      refine fun d hd => ?_
      have t3 := same_new hd (.dK [])
      refine ⟨_, rfl, (by show 7 ≤ sizeLine; decide), fun q3 hq3 => ?_⟩
      have t4 := same_new hq3 (.lst [.non, .int 3, .bl true, .ref q1, .ref q2, .ref d, .ref pg])
      have t14 := t1.trans (t2.trans (t3.trans t4))
      refine ⟨q3, rfl, ⟨_, SqL.of upd_same⟩, ?_⟩
      have hpgT := t14 _ _ (s8c _ _ hpg)
      have hgsT := (hgs.same s8c).same t14
      have d1 := t2.trans (t3.trans t4) _ _ (upd_same (H := H12) (a := q1) (o := .lst [.str (Str.ofString "a")]))
      have d2 := (t3.trans t4) _ _ (upd_same (H := upd H12 q1 (.lst [.str (Str.ofString "a")])) (a := q2) (o := .tup [.int 1, .str z]))
      have d3 := t4 _ _ (upd_same (H := upd (upd H12 q1 (.lst [.str (Str.ofString "a")])) q2 (.tup [.int 1, .str z])) (a := d) (o := .dK []))
      refine for_listR (xs := [.non, .int 3, .bl true, .ref q1, .ref q2, .ref d, .ref pg]) (fun i σ H' => Same (upd (upd (upd (upd H12 q1 (.lst [.str (Str.ofString "a")])) q2 (.tup [.int 1, .str z])) d (.dK [])) q3 (.lst [.non, .int 3, .bl true, .ref q1, .ref q2, .ref d, .ref pg])) H' ∧ ∃ u', σ = [some (.ref a), some (.ref pn), some (.str z), some (.ref pg), some (.int (k : Nat)), some (.bl mn), some (.str (S (joinL [32] W))), some (.str (S X)), u, v, u']) ⟨Same.refl _, _, rfl⟩ (fun i σ H' _ hh => SqL.of (hh.1 _ _ upd_same)) (fun i x σ H' hx hh => ?_) (fun σ H' hh => ?_)
      · obtain ⟨sH2, u', rfl⟩ := hh
        have hx' := List.mem_of_getElem? hx
        have ty : ∃ t, TyE K H' x t ∧ PySem.W.kitOne K t (.type "str") = some false := by
          simp only [List.mem_cons, List.not_mem_nil, or_false] at hx'
          rcases hx' with e | e | e | e | e | e | e <;> subst e
          · exact ⟨_, .old .non, T.i_NoneType_str⟩
          · exact ⟨_, .old (.int 3), T.i_int_str⟩
          · exact ⟨_, .old (.bl true), T.i_bool_str⟩
          · exact ⟨_, .old (.lst (sH2 _ _ d1)), T.i_list_str⟩
          · exact ⟨_, .old (.tup (sH2 _ _ d2)), T.i_tuple_str⟩
          · exact ⟨_, .old (.dK (sH2 _ _ d3)), T.i_dict_str⟩
          · exact ⟨_, .old (.lst (sH2 _ _ hpgT)), T.i_list_str⟩
        exact ⟨_, rfl, x, rfl, .inr ty, fun H13 s13 => ⟨_, rfl, iteF ⟨sH2.trans s13, _, rfl⟩⟩⟩
      · obtain ⟨sH2, u', rfl⟩ := hh
        have hpgE := sH2 _ _ hpgT
        have hgsE := hgsT.same sH2
        refine ⟨_, rfl, _, rfl, .inl ⟨_, rfl, fX.mono (by decide), fun ps' e pt xt H14 s14 hpt0 hpt hpst => ?_, fun e => ?_⟩⟩
        · rw [cd_S, hround] at e
          have e : gs = ps' := Option.some.inj e
          subst e
          have hgs14 := hgsE.same s14
          refine ⟨_, rfl, _, eqj_lists (n := 19) (e := fun _ => true) (SqL.of hpt) (SqL.of (s14 _ _ hpgE)) (by rw [hpst.len, hgs14.len]) (fun j x y hxj hyj => ?_), ?_⟩
          · obtain ⟨p, hpj, b, rfl, hb⟩ := hpst.at hxj
            obtain ⟨p', hpj', b', rfl, hb'⟩ := hgs14.at hyj
            have ep : p' = p := Option.some.inj (hpj'.symm.trans hpj)
            subst ep
            have fl : ([V.int p'.1, nv p'.2] : List V).all flatV = true := by
              obtain ⟨t, n⟩ := p'
              cases n <;> rfl
            have key : ∀ {X : Cx} {H : Hp}, SqT X.K H b [V.int p'.1, nv p'.2] → SqT X.K H b' [V.int p'.1, nv p'.2] → EqJi X H 19 (.ref b) (.ref b') true := fun h1 h2 => by
              have := eqi_ftups (n := 18) h1 h2 fl fl (fun _ => rfl)
              rw [eqL_self fl] at this
              exact this
            exact key hb hb'
          · rw [show (List.range xt.length).all (fun _ => true) = true by simp]
            exact q _
        · rw [cd_S, hround] at e; cases e
end
end K12
set_option maxHeartbeats 4000000
namespace K12
open PySem L2
theorem txt_mk {K : PySem.W.Frag} {h : Heap} {mg : Str → Option Value} (X : K.In h) (G : h.Ns mainGlobals mg)
  {f0 : Addr} {od0 an0 : Option Addr} {sl0 : Array (Option Value)} {oc0 kV0 dc0 pm0 cd0 ct0 : Value}
  {f1 : Addr} {od1 an1 : Option Addr} {sl1 : Array (Option Value)} {oc1 kV1 dc1 pm1 cd1 ct1 : Value}
  {f2 : Addr} {od2 an2 : Option Addr} {sl2 : Array (Option Value)} {oc2 kV2 dc2 pm2 cd2 ct2 : Value}
  {f3 : Addr} {od3 an3 : Option Addr} {sl3 : Array (Option Value)} {oc3 kV3 dc3 pm3 cd3 ct3 : Value}
  {f4 : Addr} {od4 an4 : Option Addr} {sl4 : Array (Option Value)} {oc4 kV4 dc4 pm4 cd4 ct4 : Value}
  {dT4 : Addr} {dD4 : Option Addr} {dN4 : Nat} {dS4 : Array (Option Value)} {dt4_0 : Tok}
  {f5 : Addr} {od5 an5 : Option Addr} {sl5 : Array (Option Value)} {oc5 kV5 dc5 pm5 cd5 ct5 : Value}
  {f6 : Addr} {od6 an6 : Option Addr} {sl6 : Array (Option Value)} {oc6 kV6 dc6 pm6 cd6 ct6 : Value}
  {f7 : Addr} {od7 an7 : Option Addr} {sl7 : Array (Option Value)} {oc7 kV7 dc7 pm7 cd7 ct7 : Value}
  {f8 : Addr} {od8 an8 : Option Addr} {sl8 : Array (Option Value)} {oc8 kV8 dc8 pm8 cd8 ct8 : Value}
  {f9 : Addr} {od9 an9 : Option Addr} {sl9 : Array (Option Value)} {oc9 kV9 dc9 pm9 cd9 ct9 : Value}
  {f10 : Addr} {od10 an10 : Option Addr} {sl10 : Array (Option Value)} {oc10 kV10 dc10 pm10 cd10 ct10 : Value}
  {f11 : Addr} {od11 an11 : Option Addr} {sl11 : Array (Option Value)} {oc11 kV11 dc11 pm11 cd11 ct11 : Value}
  {f12 : Addr} {od12 an12 : Option Addr} {sl12 : Array (Option Value)} {oc12 kV12 dc12 pm12 cd12 ct12 : Value}
  {f13 : Addr} {od13 an13 : Option Addr} {sl13 : Array (Option Value)} {oc13 kV13 dc13 pm13 cd13 ct13 : Value}
  {f14 : Addr} {od14 an14 : Option Addr} {sl14 : Array (Option Value)} {oc14 kV14 dc14 pm14 cd14 ct14 : Value}
  {f15 : Addr} {od15 an15 : Option Addr} {sl15 : Array (Option Value)} {oc15 kV15 dc15 pm15 cd15 ct15 : Value}
  {f16 : Addr} {od16 an16 : Option Addr} {sl16 : Array (Option Value)} {oc16 kV16 dc16 pm16 cd16 ct16 : Value}
  {f17 : Addr} {od17 an17 : Option Addr} {sl17 : Array (Option Value)} {oc17 kV17 dc17 pm17 cd17 ct17 : Value}
  {f18 : Addr} {od18 an18 : Option Addr} {sl18 : Array (Option Value)} {oc18 kV18 dc18 pm18 cd18 ct18 : Value}
  {f19 : Addr} {od19 an19 : Option Addr} {sl19 : Array (Option Value)} {oc19 kV19 dc19 pm19 cd19 ct19 : Value}
  {f20 : Addr} {od20 an20 : Option Addr} {sl20 : Array (Option Value)} {oc20 kV20 dc20 pm20 cd20 ct20 : Value}
  {f21 : Addr} {od21 an21 : Option Addr} {sl21 : Array (Option Value)} {oc21 kV21 dc21 pm21 cd21 ct21 : Value}
  {gt0 : Tok}
  {gt1 : Tok}
  {gt2 : Tok}
  {gt3 : Tok}
  {ga4 : Addr} {go4 : Value} {gd4 : Option Addr} {gn4 : Nat} {gi4 : Array Value} {gs4 : Array (Option Value)}
  {ga5 : Addr} {go5 : Value} {gd5 : Option Addr} {gn5 : Nat} {gi5 : Array Value} {gs5 : Array (Option Value)}
  {k_AskError : Addr}
  {kd_AskError : ClassData}
  {k_NoAnswer : Addr}
  {kd_NoAnswer : ClassData}
  {k_NoKind : Addr}
  {kd_NoKind : ClassData}
  {k_NoNumber : Addr}
  {kd_NoNumber : ClassData}
  {k_NoRow : Addr}
  {kd_NoRow : ClassData}
  {k_NoSaying : Addr}
  {kd_NoSaying : ClassData}
  {k_NoSum : Addr}
  {kd_NoSum : ClassData}
  {k_WrongKind : Addr}
  {kd_WrongKind : ClassData}
  (na_AskError : PySem.W.nsIn K mainGlobals "AskError" = some (some (.ref k_AskError)))
  (na_NoAnswer : PySem.W.nsIn K mainGlobals "NoAnswer" = some (some (.ref k_NoAnswer)))
  (na_NoKind : PySem.W.nsIn K mainGlobals "NoKind" = some (some (.ref k_NoKind)))
  (na_NoNumber : PySem.W.nsIn K mainGlobals "NoNumber" = some (some (.ref k_NoNumber)))
  (na_NoRow : PySem.W.nsIn K mainGlobals "NoRow" = some (some (.ref k_NoRow)))
  (na_NoSaying : PySem.W.nsIn K mainGlobals "NoSaying" = some (some (.ref k_NoSaying)))
  (na_NoSum : PySem.W.nsIn K mainGlobals "NoSum" = some (some (.ref k_NoSum)))
  (na_WrongKind : PySem.W.nsIn K mainGlobals "WrongKind" = some (some (.ref k_WrongKind)))
  (a0 : PySem.W.nsIn K mainGlobals "is_name" = some (some (.ref f0)))
  (l0 : K.lookup f0 = some ⟨oc0, od0, .func (PySem.W.fnOf "is_name" "is_name" (defArgs s_is_name) (defBody s_is_name) (defScope s_is_name) .none kV0 dc0 pm0 an0 cd0 ct0), sl0⟩)
  (c0 : PySem.W.codeIn K cd0 "is_name" = true)
  (k0 : PySem.W.keepIn K (.ref f0) = true)
  (a1 : PySem.W.nsIn K mainGlobals "are_unlike_names" = some (some (.ref f1)))
  (l1 : K.lookup f1 = some ⟨oc1, od1, .func (PySem.W.fnOf "are_unlike_names" "are_unlike_names" (defArgs s_are_unlike_names) (defBody s_are_unlike_names) (defScope s_are_unlike_names) .none kV1 dc1 pm1 an1 cd1 ct1), sl1⟩)
  (c1 : PySem.W.codeIn K cd1 "are_unlike_names" = true)
  (k1 : PySem.W.keepIn K (.ref f1) = true)
  (a2 : PySem.W.nsIn K mainGlobals "are_figures" = some (some (.ref f2)))
  (l2 : K.lookup f2 = some ⟨oc2, od2, .func (PySem.W.fnOf "are_figures" "are_figures" (defArgs s_are_figures) (defBody s_are_figures) (defScope s_are_figures) .none kV2 dc2 pm2 an2 cd2 ct2), sl2⟩)
  (c2 : PySem.W.codeIn K cd2 "are_figures" = true)
  (k2 : PySem.W.keepIn K (.ref f2) = true)
  (a3 : PySem.W.nsIn K mainGlobals "figures_worth" = some (some (.ref f3)))
  (l3 : K.lookup f3 = some ⟨oc3, od3, .func (PySem.W.fnOf "figures_worth" "figures_worth" (defArgs s_figures_worth) (defBody s_figures_worth) (defScope s_figures_worth) .none kV3 dc3 pm3 an3 cd3 ct3), sl3⟩)
  (c3 : PySem.W.codeIn K cd3 "figures_worth" = true)
  (k3 : PySem.W.keepIn K (.ref f3) = true)
  (a4 : PySem.W.nsIn K mainGlobals "number_of" = some (some (.ref f4)))
  (l4 : K.lookup f4 = some ⟨oc4, od4, .func (PySem.W.fnOf "number_of" "number_of" (defArgs s_number_of) (defBody s_number_of) (defScope s_number_of) (.ref dT4) kV4 dc4 pm4 an4 cd4 ct4), sl4⟩)
  (c4 : PySem.W.codeIn K cd4 "number_of" = true)
  (k4 : PySem.W.keepIn K (.ref f4) = true)
  (dl4 : K.lookup dT4 = some ⟨.type "tuple", dD4, .seq ([(.int 60 dt4_0)] : List Value).toArray dN4, dS4⟩)
  (a5 : PySem.W.nsIn K mainGlobals "number_or_none" = some (some (.ref f5)))
  (l5 : K.lookup f5 = some ⟨oc5, od5, .func (PySem.W.fnOf "number_or_none" "number_or_none" (defArgs s_number_or_none) (defBody s_number_or_none) (defScope s_number_or_none) .none kV5 dc5 pm5 an5 cd5 ct5), sl5⟩)
  (c5 : PySem.W.codeIn K cd5 "number_or_none" = true)
  (k5 : PySem.W.keepIn K (.ref f5) = true)
  (a6 : PySem.W.nsIn K mainGlobals "parted_at_signs" = some (some (.ref f6)))
  (l6 : K.lookup f6 = some ⟨oc6, od6, .func (PySem.W.fnOf "parted_at_signs" "parted_at_signs" (defArgs s_parted_at_signs) (defBody s_parted_at_signs) (defScope s_parted_at_signs) .none kV6 dc6 pm6 an6 cd6 ct6), sl6⟩)
  (c6 : PySem.W.codeIn K cd6 "parted_at_signs" = true)
  (k6 : PySem.W.keepIn K (.ref f6) = true)
  (a7 : PySem.W.nsIn K mainGlobals "least_number" = some (some (.ref f7)))
  (l7 : K.lookup f7 = some ⟨oc7, od7, .func (PySem.W.fnOf "least_number" "least_number" (defArgs s_least_number) (defBody s_least_number) (defScope s_least_number) .none kV7 dc7 pm7 an7 cd7 ct7), sl7⟩)
  (c7 : PySem.W.codeIn K cd7 "least_number" = true)
  (k7 : PySem.W.keepIn K (.ref f7) = true)
  (a8 : PySem.W.nsIn K mainGlobals "part_or_none" = some (some (.ref f8)))
  (l8 : K.lookup f8 = some ⟨oc8, od8, .func (PySem.W.fnOf "part_or_none" "part_or_none" (defArgs s_part_or_none) (defBody s_part_or_none) (defScope s_part_or_none) .none kV8 dc8 pm8 an8 cd8 ct8), sl8⟩)
  (c8 : PySem.W.codeIn K cd8 "part_or_none" = true)
  (k8 : PySem.W.keepIn K (.ref f8) = true)
  (a9 : PySem.W.nsIn K mainGlobals "are_parts" = some (some (.ref f9)))
  (l9 : K.lookup f9 = some ⟨oc9, od9, .func (PySem.W.fnOf "are_parts" "are_parts" (defArgs s_are_parts) (defBody s_are_parts) (defScope s_are_parts) .none kV9 dc9 pm9 an9 cd9 ct9), sl9⟩)
  (c9 : PySem.W.codeIn K cd9 "are_parts" = true)
  (k9 : PySem.W.keepIn K (.ref f9) = true)
  (a10 : PySem.W.nsIn K mainGlobals "read_sum" = some (some (.ref f10)))
  (l10 : K.lookup f10 = some ⟨oc10, od10, .func (PySem.W.fnOf "read_sum" "read_sum" (defArgs s_read_sum) (defBody s_read_sum) (defScope s_read_sum) .none kV10 dc10 pm10 an10 cd10 ct10), sl10⟩)
  (c10 : PySem.W.codeIn K cd10 "read_sum" = true)
  (k10 : PySem.W.keepIn K (.ref f10) = true)
  (a11 : PySem.W.nsIn K mainGlobals "_law_cell_at" = some (some (.ref f11)))
  (l11 : K.lookup f11 = some ⟨oc11, od11, .func (PySem.W.fnOf "_law_cell_at" "_law_cell_at" (defArgs s_law_cell_at) (defBody s_law_cell_at) (defScope s_law_cell_at) .none kV11 dc11 pm11 an11 cd11 ct11), sl11⟩)
  (c11 : PySem.W.codeIn K cd11 "_law_cell_at" = true)
  (k11 : PySem.W.keepIn K (.ref f11) = true)
  (a12 : PySem.W.nsIn K mainGlobals "_law_names" = some (some (.ref f12)))
  (l12 : K.lookup f12 = some ⟨oc12, od12, .func (PySem.W.fnOf "_law_names" "_law_names" (defArgs s_law_names) (defBody s_law_names) (defScope s_law_names) .none kV12 dc12 pm12 an12 cd12 ct12), sl12⟩)
  (c12 : PySem.W.codeIn K cd12 "_law_names" = true)
  (k12 : PySem.W.keepIn K (.ref f12) = true)
  (a13 : PySem.W.nsIn K mainGlobals "_law_number" = some (some (.ref f13)))
  (l13 : K.lookup f13 = some ⟨oc13, od13, .func (PySem.W.fnOf "_law_number" "_law_number" (defArgs s_law_number) (defBody s_law_number) (defScope s_law_number) .none kV13 dc13 pm13 an13 cd13 ct13), sl13⟩)
  (c13 : PySem.W.codeIn K cd13 "_law_number" = true)
  (k13 : PySem.W.keepIn K (.ref f13) = true)
  (a14 : PySem.W.nsIn K mainGlobals "_law_part" = some (some (.ref f14)))
  (l14 : K.lookup f14 = some ⟨oc14, od14, .func (PySem.W.fnOf "_law_part" "_law_part" (defArgs s_law_part) (defBody s_law_part) (defScope s_law_part) .none kV14 dc14 pm14 an14 cd14 ct14), sl14⟩)
  (c14 : PySem.W.codeIn K cd14 "_law_part" = true)
  (k14 : PySem.W.keepIn K (.ref f14) = true)
  (a15 : PySem.W.nsIn K mainGlobals "_law_parts_by" = some (some (.ref f15)))
  (l15 : K.lookup f15 = some ⟨oc15, od15, .func (PySem.W.fnOf "_law_parts_by" "_law_parts_by" (defArgs s_law_parts_by) (defBody s_law_parts_by) (defScope s_law_parts_by) .none kV15 dc15 pm15 an15 cd15 ct15), sl15⟩)
  (c15 : PySem.W.codeIn K cd15 "_law_parts_by" = true)
  (k15 : PySem.W.keepIn K (.ref f15) = true)
  (a16 : PySem.W.nsIn K mainGlobals "_law_body" = some (some (.ref f16)))
  (l16 : K.lookup f16 = some ⟨oc16, od16, .func (PySem.W.fnOf "_law_body" "_law_body" (defArgs s_law_body) (defBody s_law_body) (defScope s_law_body) .none kV16 dc16 pm16 an16 cd16 ct16), sl16⟩)
  (c16 : PySem.W.codeIn K cd16 "_law_body" = true)
  (k16 : PySem.W.keepIn K (.ref f16) = true)
  (a17 : PySem.W.nsIn K mainGlobals "_law_text" = some (some (.ref f17)))
  (l17 : K.lookup f17 = some ⟨oc17, od17, .func (PySem.W.fnOf "_law_text" "_law_text" (defArgs s_law_text) (defBody s_law_text) (defScope s_law_text) .none kV17 dc17 pm17 an17 cd17 ct17), sl17⟩)
  (c17 : PySem.W.codeIn K cd17 "_law_text" = true)
  (k17 : PySem.W.keepIn K (.ref f17) = true)
  (a18 : PySem.W.nsIn K mainGlobals "_law_bad" = some (some (.ref f18)))
  (l18 : K.lookup f18 = some ⟨oc18, od18, .func (PySem.W.fnOf "_law_bad" "_law_bad" (defArgs s_law_bad) (defBody s_law_bad) (defScope s_law_bad) .none kV18 dc18 pm18 an18 cd18 ct18), sl18⟩)
  (c18 : PySem.W.codeIn K cd18 "_law_bad" = true)
  (k18 : PySem.W.keepIn K (.ref f18) = true)
  (a19 : PySem.W.nsIn K mainGlobals "_law_refused" = some (some (.ref f19)))
  (l19 : K.lookup f19 = some ⟨oc19, od19, .func (PySem.W.fnOf "_law_refused" "_law_refused" (defArgs s_law_refused) (defBody s_law_refused) (defScope s_law_refused) .none kV19 dc19 pm19 an19 cd19 ct19), sl19⟩)
  (c19 : PySem.W.codeIn K cd19 "_law_refused" = true)
  (k19 : PySem.W.keepIn K (.ref f19) = true)
  (a20 : PySem.W.nsIn K mainGlobals "_law_spoiled" = some (some (.ref f20)))
  (l20 : K.lookup f20 = some ⟨oc20, od20, .func (PySem.W.fnOf "_law_spoiled" "_law_spoiled" (defArgs s_law_spoiled) (defBody s_law_spoiled) (defScope s_law_spoiled) .none kV20 dc20 pm20 an20 cd20 ct20), sl20⟩)
  (c20 : PySem.W.codeIn K cd20 "_law_spoiled" = true)
  (k20 : PySem.W.keepIn K (.ref f20) = true)
  (a21 : PySem.W.nsIn K mainGlobals "law" = some (some (.ref f21)))
  (l21 : K.lookup f21 = some ⟨oc21, od21, .func (PySem.W.fnOf "law" "law" (defArgs s_law) (defBody s_law) (defScope s_law) .none kV21 dc21 pm21 an21 cd21 ct21), sl21⟩)
  (c21 : PySem.W.codeIn K cd21 "law" = true)
  (k21 : PySem.W.keepIn K (.ref f21) = true)
  (g0 : PySem.W.nsIn K mainGlobals "FIGURES" = some (some (.str "0123456789" gt0)))
  (g1 : PySem.W.nsIn K mainGlobals "LETTERS" = some (some (.str "abcdefghijklmnopqrstuvwxyz" gt1)))
  (g2 : PySem.W.nsIn K mainGlobals "LONGEST_NAME" = some (some (.int 12 gt2)))
  (g3 : PySem.W.nsIn K mainGlobals "MOST_PARTS" = some (some (.int 12 gt3)))
  (g4 : PySem.W.nsIn K mainGlobals "NO_NAMES" = some (some (.ref ga4)))
  (gl4 : K.lookup ga4 = some ⟨go4, gd4, .seq gi4 gn4, gs4⟩)
  (gc4 : go4 = .type "tuple")
  (gz4 : gi4.size ≤ sizeLine)
  (gv4 : Vals [(.str "and"), (.str "each"), (.str "end"), (.str "is"), (.str "not"), (.str "or"), (.str "unless"), (.str "when")] gi4.toList)
  (g5 : PySem.W.nsIn K mainGlobals "SIGNS" = some (some (.ref ga5)))
  (gl5 : K.lookup ga5 = some ⟨go5, gd5, .seq gi5 gn5, gs5⟩)
  (gc5 : go5 = .type "tuple")
  (gz5 : gi5.size ≤ sizeLine)
  (gv5 : Vals [(.str "+"), (.str "-")] gi5.toList)
  (z_ValueError : PySem.W.nsIn K mainGlobals "ValueError" = some none)
  (z_abs : PySem.W.nsIn K mainGlobals "abs" = some none)
  (z_all : PySem.W.nsIn K mainGlobals "all" = some none)
  (z_int : PySem.W.nsIn K mainGlobals "int" = some none)
  (z_isinstance : PySem.W.nsIn K mainGlobals "isinstance" = some none)
  (z_len : PySem.W.nsIn K mainGlobals "len" = some none)
  (z_range : PySem.W.nsIn K mainGlobals "range" = some none)
  (z_set : PySem.W.nsIn K mainGlobals "set" = some none)
  (z_str : PySem.W.nsIn K mainGlobals "str" = some none)
  (kc_AskError : PySem.W.clsIn K k_AskError = some kd_AskError)
  (kt_AskError : PySem.W.typeIn K (.ref k_AskError) = some (.type "type"))
  (kc_NoAnswer : PySem.W.clsIn K k_NoAnswer = some kd_NoAnswer)
  (kt_NoAnswer : PySem.W.typeIn K (.ref k_NoAnswer) = some (.type "type"))
  (kc_NoKind : PySem.W.clsIn K k_NoKind = some kd_NoKind)
  (kt_NoKind : PySem.W.typeIn K (.ref k_NoKind) = some (.type "type"))
  (kc_NoNumber : PySem.W.clsIn K k_NoNumber = some kd_NoNumber)
  (kt_NoNumber : PySem.W.typeIn K (.ref k_NoNumber) = some (.type "type"))
  (kc_NoRow : PySem.W.clsIn K k_NoRow = some kd_NoRow)
  (kt_NoRow : PySem.W.typeIn K (.ref k_NoRow) = some (.type "type"))
  (kc_NoSaying : PySem.W.clsIn K k_NoSaying = some kd_NoSaying)
  (kt_NoSaying : PySem.W.typeIn K (.ref k_NoSaying) = some (.type "type"))
  (kc_NoSum : PySem.W.clsIn K k_NoSum = some kd_NoSum)
  (kt_NoSum : PySem.W.typeIn K (.ref k_NoSum) = some (.type "type"))
  (kc_WrongKind : PySem.W.clsIn K k_WrongKind = some kd_WrongKind)
  (kt_WrongKind : PySem.W.typeIn K (.ref k_WrongKind) = some (.type "type"))
  (xx_NoNumber : PySem.W.excIn K k_NoNumber mroVE "ValueError.__new__" = true)
  (pg_NoNumber : PySem.W.findIn K (.ref k_NoNumber) "__getattribute__" = some (some (.builtin "BaseException.__getattribute__")))
  (pk_NoNumber : PySem.W.findIn K (.ref k_NoNumber) "__getattr__" = some none)
  (ha_NoNumber : PySem.W.findIn K (.ref k_NoNumber) "__class__" = some (some (.builtin "object.__class__")))
  (hn_NoNumber : PySem.W.specialIn K (.builtin "object.__class__") "__get__" = some (some (.builtin "getset_descriptor.__get__")))
  (tk_NoNumber : PySem.W.takesIn K (.builtin "object.__class__") = some true)
  (mo_NoNumber : PySem.W.mroIn K k_NoNumber (.type "object") = some true)
  (mb_NoNumber : PySem.W.mroIn K k_NoNumber (.type "BaseException") = some true)
  (xx_NoSum : PySem.W.excIn K k_NoSum mroVE "ValueError.__new__" = true)
  (pg_NoSum : PySem.W.findIn K (.ref k_NoSum) "__getattribute__" = some (some (.builtin "BaseException.__getattribute__")))
  (pk_NoSum : PySem.W.findIn K (.ref k_NoSum) "__getattr__" = some none)
  (ha_NoSum : PySem.W.findIn K (.ref k_NoSum) "__class__" = some (some (.builtin "object.__class__")))
  (hn_NoSum : PySem.W.specialIn K (.builtin "object.__class__") "__get__" = some (some (.builtin "getset_descriptor.__get__")))
  (tk_NoSum : PySem.W.takesIn K (.builtin "object.__class__") = some true)
  (mo_NoSum : PySem.W.mroIn K k_NoSum (.type "object") = some true)
  (mb_NoSum : PySem.W.mroIn K k_NoSum (.type "BaseException") = some true)
  (sb_NoNumber_NoNumber : PySem.W.subIn K (.ref k_NoNumber) (.type "BaseException") = some true)
  (em_NoNumber_NoNumber : PySem.W.mroIn K k_NoNumber (.ref k_NoNumber) = some true)
  (sb_NoSum_AskError : PySem.W.subIn K (.ref k_AskError) (.type "BaseException") = some true)
  (em_NoSum_AskError : PySem.W.mroIn K k_NoSum (.ref k_AskError) = some true)
  (mr_NoSum_NoAnswer : PySem.W.mroIn K k_NoSum (.ref k_NoAnswer) = some false)
  (ne_NoSum_NoAnswer : (Value.ref k_NoSum == Value.ref k_NoAnswer) = false)
  (mr_NoSum_NoKind : PySem.W.mroIn K k_NoSum (.ref k_NoKind) = some false)
  (ne_NoSum_NoKind : (Value.ref k_NoSum == Value.ref k_NoKind) = false)
  (mr_NoSum_NoNumber : PySem.W.mroIn K k_NoSum (.ref k_NoNumber) = some false)
  (ne_NoSum_NoNumber : (Value.ref k_NoSum == Value.ref k_NoNumber) = false)
  (mr_NoSum_NoRow : PySem.W.mroIn K k_NoSum (.ref k_NoRow) = some false)
  (ne_NoSum_NoRow : (Value.ref k_NoSum == Value.ref k_NoRow) = false)
  (mr_NoSum_NoSaying : PySem.W.mroIn K k_NoSum (.ref k_NoSaying) = some false)
  (ne_NoSum_NoSaying : (Value.ref k_NoSum == Value.ref k_NoSaying) = false)
  (mr_NoSum_WrongKind : PySem.W.mroIn K k_NoSum (.ref k_WrongKind) = some false)
  (ne_NoSum_WrongKind : (Value.ref k_NoSum == Value.ref k_WrongKind) = false)
  (mt_NoSum_ValueError : PySem.W.mroIn K k_NoSum (.type "ValueError") = some true) :
  ∃ A : Adr, Txt K mg A :=
  ⟨⟨f0,
    PySem.W.fnOf "is_name" "is_name" (defArgs s_is_name) (defBody s_is_name) (defScope s_is_name) .none kV0 dc0 pm0 an0 cd0 ct0,
    f1,
    PySem.W.fnOf "are_unlike_names" "are_unlike_names" (defArgs s_are_unlike_names) (defBody s_are_unlike_names) (defScope s_are_unlike_names) .none kV1 dc1 pm1 an1 cd1 ct1,
    f2,
    PySem.W.fnOf "are_figures" "are_figures" (defArgs s_are_figures) (defBody s_are_figures) (defScope s_are_figures) .none kV2 dc2 pm2 an2 cd2 ct2,
    f3,
    PySem.W.fnOf "figures_worth" "figures_worth" (defArgs s_figures_worth) (defBody s_figures_worth) (defScope s_figures_worth) .none kV3 dc3 pm3 an3 cd3 ct3,
    f4,
    PySem.W.fnOf "number_of" "number_of" (defArgs s_number_of) (defBody s_number_of) (defScope s_number_of) (.ref dT4) kV4 dc4 pm4 an4 cd4 ct4,
    [(.int 60 dt4_0)],
    f5,
    PySem.W.fnOf "number_or_none" "number_or_none" (defArgs s_number_or_none) (defBody s_number_or_none) (defScope s_number_or_none) .none kV5 dc5 pm5 an5 cd5 ct5,
    f6,
    PySem.W.fnOf "parted_at_signs" "parted_at_signs" (defArgs s_parted_at_signs) (defBody s_parted_at_signs) (defScope s_parted_at_signs) .none kV6 dc6 pm6 an6 cd6 ct6,
    f7,
    PySem.W.fnOf "least_number" "least_number" (defArgs s_least_number) (defBody s_least_number) (defScope s_least_number) .none kV7 dc7 pm7 an7 cd7 ct7,
    f8,
    PySem.W.fnOf "part_or_none" "part_or_none" (defArgs s_part_or_none) (defBody s_part_or_none) (defScope s_part_or_none) .none kV8 dc8 pm8 an8 cd8 ct8,
    f9,
    PySem.W.fnOf "are_parts" "are_parts" (defArgs s_are_parts) (defBody s_are_parts) (defScope s_are_parts) .none kV9 dc9 pm9 an9 cd9 ct9,
    f10,
    PySem.W.fnOf "read_sum" "read_sum" (defArgs s_read_sum) (defBody s_read_sum) (defScope s_read_sum) .none kV10 dc10 pm10 an10 cd10 ct10,
    f11,
    PySem.W.fnOf "_law_cell_at" "_law_cell_at" (defArgs s_law_cell_at) (defBody s_law_cell_at) (defScope s_law_cell_at) .none kV11 dc11 pm11 an11 cd11 ct11,
    f12,
    PySem.W.fnOf "_law_names" "_law_names" (defArgs s_law_names) (defBody s_law_names) (defScope s_law_names) .none kV12 dc12 pm12 an12 cd12 ct12,
    f13,
    PySem.W.fnOf "_law_number" "_law_number" (defArgs s_law_number) (defBody s_law_number) (defScope s_law_number) .none kV13 dc13 pm13 an13 cd13 ct13,
    f14,
    PySem.W.fnOf "_law_part" "_law_part" (defArgs s_law_part) (defBody s_law_part) (defScope s_law_part) .none kV14 dc14 pm14 an14 cd14 ct14,
    f15,
    PySem.W.fnOf "_law_parts_by" "_law_parts_by" (defArgs s_law_parts_by) (defBody s_law_parts_by) (defScope s_law_parts_by) .none kV15 dc15 pm15 an15 cd15 ct15,
    f16,
    PySem.W.fnOf "_law_body" "_law_body" (defArgs s_law_body) (defBody s_law_body) (defScope s_law_body) .none kV16 dc16 pm16 an16 cd16 ct16,
    f17,
    PySem.W.fnOf "_law_text" "_law_text" (defArgs s_law_text) (defBody s_law_text) (defScope s_law_text) .none kV17 dc17 pm17 an17 cd17 ct17,
    f18,
    PySem.W.fnOf "_law_bad" "_law_bad" (defArgs s_law_bad) (defBody s_law_bad) (defScope s_law_bad) .none kV18 dc18 pm18 an18 cd18 ct18,
    f19,
    PySem.W.fnOf "_law_refused" "_law_refused" (defArgs s_law_refused) (defBody s_law_refused) (defScope s_law_refused) .none kV19 dc19 pm19 an19 cd19 ct19,
    f20,
    PySem.W.fnOf "_law_spoiled" "_law_spoiled" (defArgs s_law_spoiled) (defBody s_law_spoiled) (defScope s_law_spoiled) .none kV20 dc20 pm20 an20 cd20 ct20,
    f21,
    PySem.W.fnOf "law" "law" (defArgs s_law) (defBody s_law) (defScope s_law) .none kV21 dc21 pm21 an21 cd21 ct21,
    ga4,
    ga5,
    k_AskError,
    k_NoAnswer,
    k_NoKind,
    k_NoNumber,
    k_NoRow,
    k_NoSaying,
    k_NoSum,
    k_WrongKind⟩, ⟨fun_mk (st := s_is_name) l0 c0 k0,
    (fun_mk (st := s_is_name) l0 c0 k0).binds (ps := ["thing"]) (fun _ _ _ _ _ _ us hl => match us, hl with | [_], _ => rfl),
    k0,
    PySem.W.mg_of X G a0,
    fun_mk (st := s_are_unlike_names) l1 c1 k1,
    (fun_mk (st := s_are_unlike_names) l1 c1 k1).binds (ps := ["words"]) (fun _ _ _ _ _ _ us hl => match us, hl with | [_], _ => rfl),
    k1,
    PySem.W.mg_of X G a1,
    fun_mk (st := s_are_figures) l2 c2 k2,
    (fun_mk (st := s_are_figures) l2 c2 k2).binds (ps := ["text"]) (fun _ _ _ _ _ _ us hl => match us, hl with | [_], _ => rfl),
    k2,
    PySem.W.mg_of X G a2,
    fun_mk (st := s_figures_worth) l3 c3 k3,
    (fun_mk (st := s_figures_worth) l3 c3 k3).binds (ps := ["figures"]) (fun _ _ _ _ _ _ us hl => match us, hl with | [_], _ => rfl),
    k3,
    PySem.W.mg_of X G a3,
    (funD_mk (st := s_number_of) l4 c4 k4 dl4),
    (funD_mk (st := s_number_of) l4 c4 k4 dl4).binds (es := []) (fun T _ _ _ _ _ _ us M A E Q s to n ht hc hd hl hq => match us, hl with | [_, _], _ => BindsTo.of_defaults rfl ht hd rfl rfl M A E Q hq),
    (funD_mk (st := s_number_of) l4 c4 k4 dl4).binds (fun T _ _ _ _ _ _ us M A E Q s to n ht hc hd hl hq => match us, app_len (m := 1) hl rfl with | [_], _ => BindsTo.of_defaults rfl ht hd rfl rfl M A E Q hq),
    .cons ⟨_, rfl⟩ (.nil),
    k4,
    PySem.W.mg_of X G a4,
    fun_mk (st := s_number_or_none) l5 c5 k5,
    (fun_mk (st := s_number_or_none) l5 c5 k5).binds (ps := ["text"]) (fun _ _ _ _ _ _ us hl => match us, hl with | [_], _ => rfl),
    k5,
    PySem.W.mg_of X G a5,
    fun_mk (st := s_parted_at_signs) l6 c6 k6,
    (fun_mk (st := s_parted_at_signs) l6 c6 k6).binds (ps := ["words"]) (fun _ _ _ _ _ _ us hl => match us, hl with | [_], _ => rfl),
    k6,
    PySem.W.mg_of X G a6,
    fun_mk (st := s_least_number) l7 c7 k7,
    (fun_mk (st := s_least_number) l7 c7 k7).binds (ps := ["sign", "name"]) (fun _ _ _ _ _ _ us hl => match us, hl with | [_, _], _ => rfl),
    k7,
    PySem.W.mg_of X G a7,
    fun_mk (st := s_part_or_none) l8 c8 k8,
    (fun_mk (st := s_part_or_none) l8 c8 k8).binds (ps := ["sign", "words"]) (fun _ _ _ _ _ _ us hl => match us, hl with | [_, _], _ => rfl),
    k8,
    PySem.W.mg_of X G a8,
    fun_mk (st := s_are_parts) l9 c9 k9,
    (fun_mk (st := s_are_parts) l9 c9 k9).binds (ps := ["parts"]) (fun _ _ _ _ _ _ us hl => match us, hl with | [_], _ => rfl),
    k9,
    PySem.W.mg_of X G a9,
    fun_mk (st := s_read_sum) l10 c10 k10,
    (fun_mk (st := s_read_sum) l10 c10 k10).binds (ps := ["text"]) (fun _ _ _ _ _ _ us hl => match us, hl with | [_], _ => rfl),
    k10,
    PySem.W.mg_of X G a10,
    fun_mk (st := s_law_cell_at) l11 c11 k11,
    (fun_mk (st := s_law_cell_at) l11 c11 k11).binds (ps := ["_law_script", "_law_k"]) (fun _ _ _ _ _ _ us hl => match us, hl with | [_, _], _ => rfl),
    k11,
    PySem.W.mg_of X G a11,
    fun_mk (st := s_law_names) l12 c12 k12,
    (fun_mk (st := s_law_names) l12 c12 k12).binds (ps := ["_law_script"]) (fun _ _ _ _ _ _ us hl => match us, hl with | [_], _ => rfl),
    k12,
    PySem.W.mg_of X G a12,
    fun_mk (st := s_law_number) l13 c13 k13,
    (fun_mk (st := s_law_number) l13 c13 k13).binds (ps := ["_law_cell"]) (fun _ _ _ _ _ _ us hl => match us, hl with | [_], _ => rfl),
    k13,
    PySem.W.mg_of X G a13,
    fun_mk (st := s_law_part) l14 c14 k14,
    (fun_mk (st := s_law_part) l14 c14 k14).binds (ps := ["_law_cell", "_law_names_here", "_law_used"]) (fun _ _ _ _ _ _ us hl => match us, hl with | [_, _, _], _ => rfl),
    k14,
    PySem.W.mg_of X G a14,
    fun_mk (st := s_law_parts_by) l15 c15 k15,
    (fun_mk (st := s_law_parts_by) l15 c15 k15).binds (ps := ["_law_cells", "_law_names_here"]) (fun _ _ _ _ _ _ us hl => match us, hl with | [_, _], _ => rfl),
    k15,
    PySem.W.mg_of X G a15,
    fun_mk (st := s_law_body) l16 c16 k16,
    (fun_mk (st := s_law_body) l16 c16 k16).binds (ps := ["_law_times", "_law_name"]) (fun _ _ _ _ _ _ us hl => match us, hl with | [_, _], _ => rfl),
    k16,
    PySem.W.mg_of X G a16,
    fun_mk (st := s_law_text) l17 c17 k17,
    (fun_mk (st := s_law_text) l17 c17 k17).binds (ps := ["_law_parts"]) (fun _ _ _ _ _ _ us hl => match us, hl with | [_], _ => rfl),
    k17,
    PySem.W.mg_of X G a17,
    fun_mk (st := s_law_bad) l18 c18 k18,
    (fun_mk (st := s_law_bad) l18 c18 k18).binds (ps := ["_law_cell", "_law_name"]) (fun _ _ _ _ _ _ us hl => match us, hl with | [_, _], _ => rfl),
    k18,
    PySem.W.mg_of X G a18,
    fun_mk (st := s_law_refused) l19 c19 k19,
    (fun_mk (st := s_law_refused) l19 c19 k19).binds (ps := ["_law_words"]) (fun _ _ _ _ _ _ us hl => match us, hl with | [_], _ => rfl),
    k19,
    PySem.W.mg_of X G a19,
    fun_mk (st := s_law_spoiled) l20 c20 k20,
    (fun_mk (st := s_law_spoiled) l20 c20 k20).binds (ps := ["_law_parts", "_law_at", "_law_bad_here", "_law_minus"]) (fun _ _ _ _ _ _ us hl => match us, hl with | [_, _, _, _], _ => rfl),
    k20,
    PySem.W.mg_of X G a20,
    fun_mk (st := s_law) l21 c21 k21,
    (fun_mk (st := s_law) l21 c21 k21).binds (ps := ["_law_script"]) (fun _ _ _ _ _ _ us hl => match us, hl with | [_], _ => rfl),
    k21,
    PySem.W.mg_of X G a21,
    ⟨_, PySem.W.mg_of X G g0, _, rfl⟩,
    ⟨_, PySem.W.mg_of X G g1, _, rfl⟩,
    ⟨_, PySem.W.mg_of X G g2, _, rfl⟩,
    ⟨_, PySem.W.mg_of X G g3, _, rfl⟩,
    ⟨_, PySem.W.mg_of X G g4, rfl⟩,
    SqT.mod gl4 gc4 gz4 gv4,
    ⟨_, PySem.W.mg_of X G g5, rfl⟩,
    SqT.mod gl5 gc5 gz5 gv5,
    PySem.W.mg_none_of X G z_ValueError,
    PySem.W.mg_none_of X G z_abs,
    PySem.W.mg_none_of X G z_all,
    PySem.W.mg_none_of X G z_int,
    PySem.W.mg_none_of X G z_isinstance,
    PySem.W.mg_none_of X G z_len,
    PySem.W.mg_none_of X G z_range,
    PySem.W.mg_none_of X G z_set,
    PySem.W.mg_none_of X G z_str,
    L2.kit_ty (by decide +kernel),
    L2.kit_ty (by decide +kernel),
    L2.kit_ty (by decide +kernel),
    L2.kit_ty (by decide +kernel),
    L2.kit_ty (by decide +kernel),
    L2.kit_ty (by decide +kernel),
    L2.kit_ty (by decide +kernel),
    L2.kit_ty (by decide +kernel),
    L2.kit_ty (by decide +kernel),
    L2.kit_ty (by decide +kernel),
    L2.kit_ty (by decide +kernel),
    L2.kit_ty (by decide +kernel),
    L2.kit_ty (by decide +kernel),
    L2.kit_ty (by decide +kernel),
    L2.kit_ty (by decide +kernel),
    L2.kit_ty (by decide +kernel),
    L2.kit_ty (by decide +kernel),
    L2.kit_ty (by decide +kernel),
    L2.kit_ty (by decide +kernel),
    L2.kit_ty (by decide +kernel),
    L2.kit_ty (by decide +kernel),
    PySem.W.mg_of X G na_AskError,
    ⟨_, PySem.W.mg_of X G na_AskError, rfl⟩,
    PySem.W.mg_of X G na_NoAnswer,
    ⟨_, PySem.W.mg_of X G na_NoAnswer, rfl⟩,
    PySem.W.mg_of X G na_NoKind,
    ⟨_, PySem.W.mg_of X G na_NoKind, rfl⟩,
    PySem.W.mg_of X G na_NoNumber,
    ⟨_, PySem.W.mg_of X G na_NoNumber, rfl⟩,
    PySem.W.mg_of X G na_NoRow,
    ⟨_, PySem.W.mg_of X G na_NoRow, rfl⟩,
    PySem.W.mg_of X G na_NoSaying,
    ⟨_, PySem.W.mg_of X G na_NoSaying, rfl⟩,
    PySem.W.mg_of X G na_NoSum,
    ⟨_, PySem.W.mg_of X G na_NoSum, rfl⟩,
    PySem.W.mg_of X G na_WrongKind,
    ⟨_, PySem.W.mg_of X G na_WrongKind, rfl⟩,
    xx_NoNumber,
    excCls_mk pg_NoNumber pk_NoNumber kc_NoNumber ha_NoNumber hn_NoNumber tk_NoNumber mo_NoNumber mb_NoNumber,
    xx_NoSum,
    excCls_mk pg_NoSum pk_NoSum kc_NoSum ha_NoSum hn_NoSum tk_NoSum mo_NoSum mb_NoSum,
    exm_ref sb_NoNumber_NoNumber kc_NoNumber kt_NoNumber em_NoNumber_NoNumber,
    exm_ref sb_NoSum_AskError kc_AskError kt_AskError em_NoSum_AskError,
    kit_ref kc_NoAnswer kt_NoAnswer mr_NoSum_NoAnswer ne_NoSum_NoAnswer,
    kit_ref kc_NoKind kt_NoKind mr_NoSum_NoKind ne_NoSum_NoKind,
    kit_ref kc_NoNumber kt_NoNumber mr_NoSum_NoNumber ne_NoSum_NoNumber,
    kit_ref kc_NoRow kt_NoRow mr_NoSum_NoRow ne_NoSum_NoRow,
    kit_ref kc_NoSaying kt_NoSaying mr_NoSum_NoSaying ne_NoSum_NoSaying,
    kit_ref kc_WrongKind kt_WrongKind mr_NoSum_WrongKind ne_NoSum_WrongKind,
    kit_self,
    kit_rty (by decide +kernel) mt_NoSum_ValueError⟩⟩
theorem walk {l : PySem.W.OpenLaw} {q : Program} {loose : List Str} {XP : (Str → Option Value) → Heap → Prop} {YP : World → Heap → Prop} {d : DefRec} {K : Params → PySem.W.Frag} (hn : l.most = some 63) (hdf : d.params.defaults = []) (hnm : d.name = "law")
    (hY : ∀ (w : World) (h : Heap), YP w h → (K w.params).In h)
    (F : ∀ (w : World) (mg : Str → Option Value) (h : Heap), (K w.params).In h → h.Ns mainGlobals mg → ∃ A : Adr, Txt (K w.params) mg A) :
    PySem.W.WalkO q loose XP YP l.row.toRowW d [] (fun f vs => PySem.call f vs) := by
  refine L2.walk_ofB (n := 63) (k := 7) (x := "_law_script") (CX := fun _ => CX0) (sp := fun w => sp_law (K w.params)) hn (by decide) hdf ⟨rfl, by decide, by decide⟩ hY (fun w mg fa h KX G hmg => ?_) (fun w H a ns hl hb _ hS => ⟨a, ns, rfl, hS, hl, hb, fun _ => rfl⟩) fun _ _ _ _ _ z => z
  obtain ⟨A, T⟩ := F w mg h KX G
  rw [hnm] at hmg
  have e := hmg.symm.trans T.m_law
  cases e
  obtain ⟨oc, od, kV, doc, pm, an, cdv, ct, osl, efd, lk, hcd⟩ := id T.F_law.ex
  exact ⟨A.d_law, fun s v => by rw [efd]; exact .of_eq rfl, fun base _ _ => ok_law T⟩
end K12
open PySem PySem.W PyProof.Rows
set_option maxRecDepth 100000 in
set_option maxHeartbeats 0 in
theorem PySem.Challenge.cw_askpaper_k12_sums_refused_holds : PySem.Challenge.rw_askpaper_k12_sums_refused.Holds := by
  w_on; o_law; k_head; (case hw => w_witness2)
  k_fill
  refine K12.walk (l := PySem.Challenge.rw_askpaper_k12_sums_refused) rfl rfl rfl (fun w h Y => PySem.W.kIn_of Y) ?F
  case F =>
    intro w mg h KX G
    have T : ∃ A : K12.Adr, K12.Txt (L2.KOf KX) mg A := by
      dsimp only [L2.KOf]
      refine' K12.txt_mk KX G ?zzna_AskError ?zzna_NoAnswer ?zzna_NoKind ?zzna_NoNumber ?zzna_NoRow ?zzna_NoSaying ?zzna_NoSum ?zzna_WrongKind ?zza0 ?zzl0 ?zzc0 ?zzk0 ?zza1 ?zzl1 ?zzc1 ?zzk1 ?zza2 ?zzl2 ?zzc2 ?zzk2 ?zza3 ?zzl3 ?zzc3 ?zzk3 ?zza4 ?zzl4 ?zzc4 ?zzk4 ?zzdl4 ?zza5 ?zzl5 ?zzc5 ?zzk5 ?zza6 ?zzl6 ?zzc6 ?zzk6 ?zza7 ?zzl7 ?zzc7 ?zzk7 ?zza8 ?zzl8 ?zzc8 ?zzk8 ?zza9 ?zzl9 ?zzc9 ?zzk9 ?zza10 ?zzl10 ?zzc10 ?zzk10 ?zza11 ?zzl11 ?zzc11 ?zzk11 ?zza12 ?zzl12 ?zzc12 ?zzk12 ?zza13 ?zzl13 ?zzc13 ?zzk13 ?zza14 ?zzl14 ?zzc14 ?zzk14 ?zza15 ?zzl15 ?zzc15 ?zzk15 ?zza16 ?zzl16 ?zzc16 ?zzk16 ?zza17 ?zzl17 ?zzc17 ?zzk17 ?zza18 ?zzl18 ?zzc18 ?zzk18 ?zza19 ?zzl19 ?zzc19 ?zzk19 ?zza20 ?zzl20 ?zzc20 ?zzk20 ?zza21 ?zzl21 ?zzc21 ?zzk21 ?zzg0 ?zzg1 ?zzg2 ?zzg3 ?zzg4 ?zzgl4 ?zzgc4 ?zzgz4 ?zzgv4 ?zzg5 ?zzgl5 ?zzgc5 ?zzgz5 ?zzgv5 ?zzz_ValueError ?zzz_abs ?zzz_all ?zzz_int ?zzz_isinstance ?zzz_len ?zzz_range ?zzz_set ?zzz_str ?zzkc_AskError ?zzkt_AskError ?zzkc_NoAnswer ?zzkt_NoAnswer ?zzkc_NoKind ?zzkt_NoKind ?zzkc_NoNumber ?zzkt_NoNumber ?zzkc_NoRow ?zzkt_NoRow ?zzkc_NoSaying ?zzkt_NoSaying ?zzkc_NoSum ?zzkt_NoSum ?zzkc_WrongKind ?zzkt_WrongKind ?zzxx_NoNumber ?zzpg_NoNumber ?zzpk_NoNumber ?zzha_NoNumber ?zzhn_NoNumber ?zztk_NoNumber ?zzmo_NoNumber ?zzmb_NoNumber ?zzxx_NoSum ?zzpg_NoSum ?zzpk_NoSum ?zzha_NoSum ?zzhn_NoSum ?zztk_NoSum ?zzmo_NoSum ?zzmb_NoSum ?zzsb_NoNumber_NoNumber ?zzem_NoNumber_NoNumber ?zzsb_NoSum_AskError ?zzem_NoSum_AskError ?zzmr_NoSum_NoAnswer ?zzne_NoSum_NoAnswer ?zzmr_NoSum_NoKind ?zzne_NoSum_NoKind ?zzmr_NoSum_NoNumber ?zzne_NoSum_NoNumber ?zzmr_NoSum_NoRow ?zzne_NoSum_NoRow ?zzmr_NoSum_NoSaying ?zzne_NoSum_NoSaying ?zzmr_NoSum_WrongKind ?zzne_NoSum_WrongKind ?zzmt_NoSum_ValueError
      (case zzna_AskError => k_is)
      (case zzna_NoAnswer => k_is)
      (case zzna_NoKind => k_is)
      (case zzna_NoNumber => k_is)
      (case zzna_NoRow => k_is)
      (case zzna_NoSaying => k_is)
      (case zzna_NoSum => k_is)
      (case zzna_WrongKind => k_is)
      (case zza0 => k_is)
      (case zzl0 => k_is)
      (case zzc0 => k_is)
      (case zzk0 => k_is)
      (case zza1 => k_is)
      (case zzl1 => k_is)
      (case zzc1 => k_is)
      (case zzk1 => k_is)
      (case zza2 => k_is)
      (case zzl2 => k_is)
      (case zzc2 => k_is)
      (case zzk2 => k_is)
      (case zza3 => k_is)
      (case zzl3 => k_is)
      (case zzc3 => k_is)
      (case zzk3 => k_is)
      (case zza4 => k_is)
      (case zzl4 => k_is)
      (case zzc4 => k_is)
      (case zzk4 => k_is)
      (case zzdl4 => k_is)
      (case zza5 => k_is)
      (case zzl5 => k_is)
      (case zzc5 => k_is)
      (case zzk5 => k_is)
      (case zza6 => k_is)
      (case zzl6 => k_is)
      (case zzc6 => k_is)
      (case zzk6 => k_is)
      (case zza7 => k_is)
      (case zzl7 => k_is)
      (case zzc7 => k_is)
      (case zzk7 => k_is)
      (case zza8 => k_is)
      (case zzl8 => k_is)
      (case zzc8 => k_is)
      (case zzk8 => k_is)
      (case zza9 => k_is)
      (case zzl9 => k_is)
      (case zzc9 => k_is)
      (case zzk9 => k_is)
      (case zza10 => k_is)
      (case zzl10 => k_is)
      (case zzc10 => k_is)
      (case zzk10 => k_is)
      (case zza11 => k_is)
      (case zzl11 => k_is)
      (case zzc11 => k_is)
      (case zzk11 => k_is)
      (case zza12 => k_is)
      (case zzl12 => k_is)
      (case zzc12 => k_is)
      (case zzk12 => k_is)
      (case zza13 => k_is)
      (case zzl13 => k_is)
      (case zzc13 => k_is)
      (case zzk13 => k_is)
      (case zza14 => k_is)
      (case zzl14 => k_is)
      (case zzc14 => k_is)
      (case zzk14 => k_is)
      (case zza15 => k_is)
      (case zzl15 => k_is)
      (case zzc15 => k_is)
      (case zzk15 => k_is)
      (case zza16 => k_is)
      (case zzl16 => k_is)
      (case zzc16 => k_is)
      (case zzk16 => k_is)
      (case zza17 => k_is)
      (case zzl17 => k_is)
      (case zzc17 => k_is)
      (case zzk17 => k_is)
      (case zza18 => k_is)
      (case zzl18 => k_is)
      (case zzc18 => k_is)
      (case zzk18 => k_is)
      (case zza19 => k_is)
      (case zzl19 => k_is)
      (case zzc19 => k_is)
      (case zzk19 => k_is)
      (case zza20 => k_is)
      (case zzl20 => k_is)
      (case zzc20 => k_is)
      (case zzk20 => k_is)
      (case zza21 => k_is)
      (case zzl21 => k_is)
      (case zzc21 => k_is)
      (case zzk21 => k_is)
      (case zzg0 => k_is)
      (case zzg1 => k_is)
      (case zzg2 => k_is)
      (case zzg3 => k_is)
      (case zzg4 => k_is)
      (case zzgl4 => k_is)
      (case zzgc4 => rfl)
      (case zzgz4 => exact Nat.le_of_ble_eq_true rfl)
      (case zzgv4 => exact .cons ⟨_, rfl⟩ (.cons ⟨_, rfl⟩ (.cons ⟨_, rfl⟩ (.cons ⟨_, rfl⟩ (.cons ⟨_, rfl⟩ (.cons ⟨_, rfl⟩ (.cons ⟨_, rfl⟩ (.cons ⟨_, rfl⟩ (.nil)))))))))
      (case zzg5 => k_is)
      (case zzgl5 => k_is)
      (case zzgc5 => rfl)
      (case zzgz5 => exact Nat.le_of_ble_eq_true rfl)
      (case zzgv5 => exact .cons ⟨_, rfl⟩ (.cons ⟨_, rfl⟩ (.nil)))
      (case zzz_ValueError => k_is)
      (case zzz_abs => k_is)
      (case zzz_all => k_is)
      (case zzz_int => k_is)
      (case zzz_isinstance => k_is)
      (case zzz_len => k_is)
      (case zzz_range => k_is)
      (case zzz_set => k_is)
      (case zzz_str => k_is)
      (case zzkc_AskError => k_is)
      (case zzkt_AskError => k_is)
      (case zzkc_NoAnswer => k_is)
      (case zzkt_NoAnswer => k_is)
      (case zzkc_NoKind => k_is)
      (case zzkt_NoKind => k_is)
      (case zzkc_NoNumber => k_is)
      (case zzkt_NoNumber => k_is)
      (case zzkc_NoRow => k_is)
      (case zzkt_NoRow => k_is)
      (case zzkc_NoSaying => k_is)
      (case zzkt_NoSaying => k_is)
      (case zzkc_NoSum => k_is)
      (case zzkt_NoSum => k_is)
      (case zzkc_WrongKind => k_is)
      (case zzkt_WrongKind => k_is)
      (case zzxx_NoNumber => k_exc)
      (case zzpg_NoNumber => k_is)
      (case zzpk_NoNumber => k_is)
      (case zzha_NoNumber => k_is)
      (case zzhn_NoNumber => k_is)
      (case zztk_NoNumber => k_is)
      (case zzmo_NoNumber => k_is)
      (case zzmb_NoNumber => k_is)
      (case zzxx_NoSum => k_exc)
      (case zzpg_NoSum => k_is)
      (case zzpk_NoSum => k_is)
      (case zzha_NoSum => k_is)
      (case zzhn_NoSum => k_is)
      (case zztk_NoSum => k_is)
      (case zzmo_NoSum => k_is)
      (case zzmb_NoSum => k_is)
      (case zzsb_NoNumber_NoNumber => k_is)
      (case zzem_NoNumber_NoNumber => k_is)
      (case zzsb_NoSum_AskError => k_is)
      (case zzem_NoSum_AskError => k_is)
      (case zzmr_NoSum_NoAnswer => k_is)
      (case zzne_NoSum_NoAnswer => rfl)
      (case zzmr_NoSum_NoKind => k_is)
      (case zzne_NoSum_NoKind => rfl)
      (case zzmr_NoSum_NoNumber => k_is)
      (case zzne_NoSum_NoNumber => rfl)
      (case zzmr_NoSum_NoRow => k_is)
      (case zzne_NoSum_NoRow => rfl)
      (case zzmr_NoSum_NoSaying => k_is)
      (case zzne_NoSum_NoSaying => rfl)
      (case zzmr_NoSum_WrongKind => k_is)
      (case zzne_NoSum_WrongKind => rfl)
      (case zzmt_NoSum_ValueError => k_is)
    exact T
#print axioms PySem.Challenge.cw_askpaper_k12_sums_refused_holds
