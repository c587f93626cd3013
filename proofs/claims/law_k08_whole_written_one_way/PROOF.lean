import PyProof.Rows.All
import Wide.All
import OpenK.AllK
import Wide.FinOn
import Lean
import PyProof.EqAt
import PyProof.EqKinds
import PyProof.TupleCall
import PySem.Challenge.RW_askpaper_k08_whole_written_one_way
set_option Elab.async false
set_option linter.all false
set_option maxRecDepth 100000
/-! THE HAND LAYER, for ints, bools, texts, own classes, LISTS and tuples (index, slices, in, append, pop ..), calls, loops. Paste it whole ahead of your own text; what your proof does not reach may be deleted. -/
namespace L2
open PySem PySem.Spec PyProof.Rows

/-- a key: an int or a str -/
abbrev Key := Sum Int Str
def keyIs : Key → Value → Bool
  | .inl k, v => Value.isInt k v
  | .inr x, v => Value.isStrOf x v
def keyH (w : World) : Key → Int
  | .inl k => hashInt k
  | .inr x => hashStr w x
theorem keyIs_shape : ∀ {k : Key} {v : Value}, keyIs k v = true → (∃ i t, k = Sum.inl i ∧ v = Value.int i t) ∨ (∃ x t, k = Sum.inr x ∧ v = Value.str x t)
  | .inl i, v, h => by
    obtain ⟨t, e⟩ := Value.isInt_shape (k := i) (v := v) h
    exact .inl ⟨i, t, rfl, e⟩
  | .inr x, v, h => by
    obtain ⟨t, e⟩ := Value.isStrOf_shape (x := x) (v := v) h
    exact .inr ⟨x, t, rfl, e⟩
theorem key_ll (a b : Int) : decide ((Sum.inl a : Key) = Sum.inl b) = (a == b) := by
  by_cases e : a = b
  · subst e; simp
  · have h : ¬ (Sum.inl a : Key) = Sum.inl b := fun q => e (Sum.inl.inj q)
    rw [decide_eq_false h]
    exact (beq_eq_false_iff_ne.mpr e).symm
theorem key_rr (a b : Str) : decide ((Sum.inr a : Key) = Sum.inr b) = decide (a = b) := by
  by_cases e : a = b
  · subst e; simp
  · have h : ¬ (Sum.inr a : Key) = Sum.inr b := fun q => e (Sum.inr.inj q)
    rw [decide_eq_false h, decide_eq_false e]
theorem key_lr (a : Int) (b : Str) : decide ((Sum.inl a : Key) = Sum.inr b) = false := decide_eq_false (fun q => nomatch q)
theorem key_rl (a : Str) (b : Int) : decide ((Sum.inr a : Key) = Sum.inl b) = false := decide_eq_false (fun q => nomatch q)

def mixKind (prog : Program) (w : World) : PySem.KeyKind prog w Key where
  is := keyIs
  hash := keyH w
  inj := fun v a b ha hb => by
    rcases keyIs_shape ha with ⟨i, t, rfl, rfl⟩ | ⟨x, t, rfl, rfl⟩
    · rcases keyIs_shape hb with ⟨j, u, rfl, e⟩ | ⟨y, u, rfl, e⟩
      · injection e with e1 _; rw [e1]
      · exact nomatch e
    · rcases keyIs_shape hb with ⟨j, u, rfl, e⟩ | ⟨y, u, rfl, e⟩
      · exact nomatch e
      · injection e with e1 _; rw [e1]
  byValue := fun k v h => by
    rcases keyIs_shape h with ⟨i, t, rfl, rfl⟩ | ⟨x, t, rfl, rfl⟩ <;> rfl
  pyHash := fun hv h => by
    rcases keyIs_shape hv with ⟨i, t, rfl, rfl⟩ | ⟨x, t, rfl, rfl⟩
    · exact wpAny_pyHash_int h
    · exact wpAny_pyHash_str h
  eqBool := fun hu hv h => by
    rcases keyIs_shape hu with ⟨i, t, rfl, rfl⟩ | ⟨x, t, rfl, rfl⟩
    · rcases keyIs_shape hv with ⟨j, u, rfl, rfl⟩ | ⟨y, u, rfl, rfl⟩
      · rw [key_ll] at h; exact wpAny_eqBool_int h
      · rw [key_lr] at h; exact SeqAt.EqAt.int_str i t y u _ _ _ _ h
    · rcases keyIs_shape hv with ⟨j, u, rfl, rfl⟩ | ⟨y, u, rfl, rfl⟩
      · rw [key_rl] at h; exact SeqAt.EqAt.str_int x t j u _ _ _ _ h
      · rw [key_rr] at h; exact wpAny_eqBool_str h
  «strs» := fun k x t v h => by
    rcases keyIs_shape h with ⟨i, u, rfl, e⟩ | ⟨y, u, rfl, e⟩
    · exact nomatch e
    · injection e with e1 _
      subst e1
      cases v <;> rfl

end L2

namespace L2
open PySem PySem.Spec PyProof.Rows

/-- a value, without the heap -/
inductive V where
  | non | bl (b : Bool) | int (i : Int) | str (x : Str) | byt (b : Array UInt8) | flt (b : UInt64) | ref (a : Addr) | ty (n : String)
  deriving DecidableEq

def RelV : V → Value → Prop
  | .non, u => u = Value.none
  | .bl b, u => u = Value.bool b
  | .int i, u => ∃ t, u = Value.int i t
  | .str x, u => ∃ t, u = Value.str x t
  | .byt b, u => ∃ t, u = Value.bytes b t
  | .flt b, u => ∃ t, u = Value.float b t
  | .ref a, u => u = Value.ref a
  | .ty n, u => u = Value.type n

abbrev Vals : List V → List Value → Prop := Paired RelV
theorem Vals.length {xs : List V} {us : List Value} (r : Vals xs us) : xs.length = us.length := Paired.length r
theorem Vals.get : ∀ {xs : List V} {us : List Value} {i : Nat} {x : V}, Vals xs us → xs[i]? = some x → ∃ u, us[i]? = some u ∧ RelV x u
  | _, _, _, _, .nil, e => by simp at e
  | _, _, 0, _, .cons r _, e => by simp at e; subst e; exact ⟨_, rfl, r⟩
  | _, _, i + 1, x, .cons _ t, e => by
    obtain ⟨u, h1, h2⟩ := Vals.get (i := i) (x := x) t (by simpa using e)
    exact ⟨u, by simpa using h1, h2⟩
theorem Vals.set {x : V} {u : Value} (r : RelV x u) : ∀ {xs : List V} {us : List Value} (i : Nat), Vals xs us → Vals (xs.set i x) (us.set i u)
  | _, _, _, .nil => .nil
  | _, _, 0, .cons _ t => .cons r t
  | _, _, i + 1, .cons q t => .cons q (Vals.set r i t)
theorem Vals.append : ∀ {xs ys : List V} {us ws : List Value}, Vals xs us → Vals ys ws → Vals (xs ++ ys) (us ++ ws)
  | _, _, _, _, .nil, s => s
  | _, _, _, _, .cons r t, s => .cons r (Vals.append t s)
theorem Vals.take : ∀ {xs : List V} {us : List Value} (n : Nat), Vals xs us → Vals (xs.take n) (us.take n)
  | _, _, 0, _ => .nil
  | _, _, _ + 1, .nil => .nil
  | _, _, n + 1, .cons r t => .cons r (Vals.take n t)
theorem Vals.drop : ∀ {xs : List V} {us : List Value} (n : Nat), Vals xs us → Vals (xs.drop n) (us.drop n)
  | _, _, 0, r => r
  | _, _, _ + 1, .nil => .nil
  | _, _, n + 1, .cons _ t => Vals.drop n t
theorem Vals.none_of : ∀ {xs : List V} {us : List Value} {i : Nat}, Vals xs us → xs[i]? = none → us[i]? = none := fun {xs us i} r e => by
  have h1 := r.length
  have h2 : xs.length ≤ i := List.getElem?_eq_none_iff.mp e
  exact List.getElem?_eq_none_iff.mpr (by omega)

def RelO : Option V → Option Value → Prop
  | some v, some u => RelV v u
  | none, none => True
  | _, _ => False
def KV {κ : Type} : List (κ × V) → List (κ × Value) → Prop := Paired fun (p : κ × V) (q : κ × Value) => p.1 = q.1 ∧ RelV p.2 q.2

/-- a key of a dict (00_mix): an int or a text -/
def kV : Key → V
  | .inl i => .int i
  | .inr x => .str x

/-- what stands at a tracked address -/
inductive HO where
  /-- a list -/
  | lst (xs : List V)
  /-- a tuple (never changes) -/
  | tup (xs : List V)
  /-- a dict whose keys are ints and texts; one whose keys are tuples of ints and texts (the empty one is both) -/
  | dK (kvs : List (Key × V)) | dT (kvs : List (List Key × V))
  /-- a set of ints: its members, its size -/
  | set (S : Int → Bool) (n : Nat)
  /-- an instance of the class at C, its dict at dx, its attributes -/
  | ins (C dx : Addr) (fs : List (Str × V))
  /-- the dict of the instance at x -/
  | own (x : Addr)
  /-- the dict of an exception -/
  | xd (fs : List (Str × V))
  /-- a bound method, f of x -/
  | met (f x : Addr)
  /-- a range object lo, lo + 1, .. below hi -/
  | rng (lo hi : Int)
  /-- a thing that is known to the object (the script; a dict while a loop walks it): read, never written while it is so -/
  | frz (o : Obj) (u : HO)
  /-- a code object's table -/
  | tbl (ps : Array Value)
  /-- any other thing, by what is true of its one object (a def of one's own: SetO a S n := HO.ext fun h => ..) -/
  | ext (φ : Heap → Prop)

abbrev Hp := Addr → Option HO
def upd (H : Hp) (a : Addr) (o : HO) : Hp := fun b => if b = a then some o else H b
theorem upd_same {H : Hp} {a : Addr} {o : HO} : upd H a o a = some o := by unfold upd; rw [if_pos rfl]
theorem upd_ne {H : Hp} {a b : Addr} {o : HO} (h : b ≠ a) : upd H a o b = H b := by unfold upd; rw [if_neg h]
theorem upd_upd {H : Hp} {a : Addr} {o u : HO} : upd (upd H a o) a u = upd H a u := by
  funext b; unfold upd; split <;> rfl
/-- two objects of different content stand apart -/
theorem ne_of {H : Hp} {a b : Addr} {o u : HO} (h : H a = some o) (h' : H b = some u) (d : o ≠ u) : a ≠ b := by
  intro e; subst e; rw [h] at h'; exact d (Option.some.inj h')
theorem ne_of_none {H : Hp} {a b : Addr} {o : HO} (h : H a = some o) (h' : H b = none) : a ≠ b := by
  intro e; subst e; rw [h] at h'; cases h'

section
variable (P : Program) (w : World)
def ObjOk (H : Hp) (h : Heap) (a : Addr) : HO → Prop
  | .lst xs => xs.length ≤ sizeLine ∧ ∃ (its : List Value) (n : Nat), Vals xs its ∧ h.get? a = some { cls := .type "list", data := .seq its.toArray n }
  | .tup xs => xs.length ≤ sizeLine ∧ ∃ its : List Value, Vals xs its ∧ IsTup h a its.toArray
  | .dK kvs => kvs.length ≤ sizeLine ∧ (a == sysModules) = false ∧ ∃ vs, KV kvs vs ∧ h.DictOf (mixKind P w) a vs
  | .dT kvs => kvs.length ≤ sizeLine ∧ (a == sysModules) = false ∧ ∃ xs : List (List Key × Addr × Value),
      Paired (fun (p : List Key × V) (q : List Key × Addr × Value) => p.1 = q.1 ∧ H q.2.1 = some (.tup (p.1.map kV)) ∧ RelV p.2 q.2.2) kvs xs ∧
      ∃ o es ep, h.get? a = some o ∧ o.ExactDict ∧ o.data = .dict es ep ∧ es.toList = xs.map (entryOfKey (tupleKind (mixKind P w))) ∧ (xs.map (·.1)).Nodup
  | .set S n => h.SetOf (intKind P w) a S n
  | .ins C dx fs => H dx = some (.own a) ∧ fs.length ≤ 1000 ∧ dx ≠ a ∧ h.get? a = some (PySem.W.instObj C dx) ∧
      ∃ mA, h.Ns1 dx mA ∧ (∀ f, RelO (fs.lookup f) (mA f)) ∧ PySem.Within mA (fs.map (·.1))
  | .own _ => ∃ o, h.get? a = some o
  | .xd fs => ∃ mA, h.Ns1 a mA ∧ ∀ f, RelO (fs.lookup f) (mA f)
  | .rng lo hi => ∃ t u v, h.get? a = some { cls := .type "range", data := .fields #[.int lo t, .int hi u, .int 1 v] }
  | .frz o u => h.get? a = some o ∧ ObjOk H h a u
  | .tbl ps => h.get? a = some { cls := .none, data := .fields ps }
  | .met f x => h.get? a = some (PySem.W.methodObj (.ref f) (.ref x))
  | .ext φ => φ h ∧ (∃ o, h.get? a = some o) ∧ ∀ h1 h2 : Heap, φ h1 → (∀ o, h1.get? a = some o → h2.get? a = some o) → φ h2
/-- the abstract heap is held -/
def HOk (H : Hp) (h : Heap) : Prop := ∀ a o, H a = some o → ObjOk P w H h a o
end

section
variable {P : Program} {w : World} {H H' : Hp} {h h' : Heap} {a : Addr} {o : HO}
theorem ObjOk.lt (x : ObjOk P w H h a o) : a < h.objs.size := by
  cases o with
  | lst xs => obtain ⟨_, _, _, _, e⟩ := x; exact Heap.lt_size e
  | tup xs => obtain ⟨_, _, _, p⟩ := x; exact p.lt
  | dK kvs => obtain ⟨_, _, _, _, o, _, _, e, _⟩ := x; exact Heap.lt_size e
  | dT kvs => obtain ⟨_, _, _, _, o, _, _, e, _⟩ := x; exact Heap.lt_size e
  | set S n => obtain ⟨o, _, _, _, e, _⟩ := x; exact Heap.lt_size e
  | ins C dx fs => obtain ⟨_, _, _, e, _⟩ := x; exact Heap.lt_size e
  | own y => obtain ⟨_, e⟩ := x; exact Heap.lt_size e
  | xd fs => obtain ⟨_, ⟨_, _, _, e, _⟩, _⟩ := x; exact Heap.lt_size e
  | rng lo hi => obtain ⟨_, _, _, e⟩ := x; exact Heap.lt_size e
  | frz ob u => obtain ⟨e, _⟩ := x; exact Heap.lt_size e
  | tbl ps => exact Heap.lt_size (show h.get? a = some _ from x)
  | met f y => exact Heap.lt_size (show h.get? a = some _ from x)
  | ext φ => obtain ⟨_, ⟨_, e⟩, _⟩ := x; exact Heap.lt_size e
theorem Paired.mapP {α β : Type} {F G : α → β → Prop} : ∀ {l₁ : List α} {l₂ : List β}, Paired F l₁ l₂ → (∀ a b, F a b → G a b) → Paired G l₁ l₂
  | _, _, .nil, _ => .nil
  | _, _, .cons r t, f => .cons (f _ _ r) (Paired.mapP t f)
/-- what an object's description leans on: its own object, its own dict, the tuples -/
theorem ObjOk.stay (x : ObjOk P w H h a o) (k : ∀ b u, (b = a ∨ H b = some (.own a)) → h.get? b = some u → h'.get? b = some u)
    (ho : ∀ b, H b = some (.own a) → H' b = some (.own a)) (ht : ∀ b xs, H b = some (.tup xs) → H' b = some (.tup xs)) : ObjOk P w H' h' a o := by
  induction o with
  | lst xs => obtain ⟨z, its, n, r, e⟩ := x; exact ⟨z, its, n, r, k _ _ (.inl rfl) e⟩
  | tup xs => obtain ⟨z, its, r, ob, e, c⟩ := x; exact ⟨z, its, r, ob, k _ _ (.inl rfl) e, c⟩
  | dK kvs => obtain ⟨z, y, vs, r, ob, es, ep, e, c⟩ := x; exact ⟨z, y, vs, r, ob, es, ep, k _ _ (.inl rfl) e, c⟩
  | dT kvs =>
    obtain ⟨z, y, xs, r, ob, es, ep, e, c⟩ := x
    exact ⟨z, y, xs, Paired.mapP r fun p q z => ⟨z.1, ht _ _ z.2.1, z.2.2⟩, ob, es, ep, k _ _ (.inl rfl) e, c⟩
  | set S n => obtain ⟨ob, es, ep, t, e, c⟩ := x; exact ⟨ob, es, ep, t, k _ _ (.inl rfl) e, c⟩
  | ins C dx fs =>
    obtain ⟨d, z, ne, e, mA, ⟨od, es, ep, e2, c⟩, r⟩ := x
    exact ⟨ho _ d, z, ne, k _ _ (.inl rfl) e, mA, ⟨od, es, ep, k _ _ (.inr d) e2, c⟩, r⟩
  | own y => obtain ⟨ob, e⟩ := x; exact ⟨ob, k _ _ (.inl rfl) e⟩
  | xd fs => obtain ⟨mA, ⟨od, es, ep, e, c⟩, r⟩ := x; exact ⟨mA, ⟨od, es, ep, k _ _ (.inl rfl) e, c⟩, r⟩
  | rng lo hi => obtain ⟨t, u, v, e⟩ := x; exact ⟨t, u, v, k _ _ (.inl rfl) e⟩
  | frz ob u ih => obtain ⟨e, q⟩ := x; exact ⟨k _ _ (.inl rfl) e, ih q⟩
  | tbl ps =>
    have e : h.get? a = some { cls := .none, data := .fields ps } := x
    show h'.get? a = some { cls := .none, data := .fields ps }
    exact k a _ (.inl rfl) e
  | met f y =>
    have e : h.get? a = some (PySem.W.methodObj (.ref f) (.ref y)) := x
    show h'.get? a = some (PySem.W.methodObj (.ref f) (.ref y))
    exact k a _ (.inl rfl) e
  | ext φ => obtain ⟨p, ⟨o, e⟩, st⟩ := x; exact ⟨st _ _ p fun o q => k _ _ (.inl rfl) q, ⟨o, k _ _ (.inl rfl) e⟩, st⟩
theorem HOk.lt (x : HOk P w H h) (e : H a = some o) : a < h.objs.size := (x a o e).lt
theorem HOk.fresh (x : HOk P w H h) (e : h.objs.size ≤ a) : H a = none := by
  cases q : H a with
  | none => rfl
  | some u => exact absurd (Nat.lt_of_lt_of_le (x.lt q) e) (Nat.lt_irrefl _)
/-- every object of the heap is kept -/
theorem HOk.kept (x : HOk P w H h) (k : ∀ b u, h.get? b = some u → h'.get? b = some u) : HOk P w H h' := fun a o e =>
  (x a o e).stay (fun b u _ q => k b u q) (fun _ q => q) fun _ _ q => q
/-- a new object is laid and tracked -/
theorem HOk.laid (x : HOk P w H h) (k : ∀ b u, h.get? b = some u → h'.get? b = some u) (hp : h.objs.size ≤ a) (new : ObjOk P w (upd H a o) h' a o) : HOk P w (upd H a o) h' := fun b u e => by
  have hn := x.fresh hp
  by_cases hb : b = a
  · subst hb; rw [upd_same] at e; cases e; exact new
  · rw [upd_ne hb] at e
    exact (x b u e).stay (fun c v _ q => k c v q) (fun c q => by rw [upd_ne (ne_of_none q hn)]; exact q) fun c xs q => by rw [upd_ne (ne_of_none q hn)]; exact q
end

/-- what may be read as u: it is u, or a known u -/
def Rd (H : Hp) (a : Addr) (u : HO) : Prop := H a = some u ∨ ∃ o, H a = some (.frz o u)
theorem Rd.of {H : Hp} {a : Addr} {u : HO} (h : H a = some u) : Rd H a u := .inl h
theorem Rd.ok {P : Program} {w : World} {H : Hp} {h : Heap} {a : Addr} {u : HO} (r : Rd H a u) (x : HOk P w H h) : ObjOk P w H h a u := by
  rcases r with r | ⟨o, r⟩
  · exact x a u r
  · obtain ⟨_, q⟩ := x a _ r
    exact q
/-- what may be written -/
def Mut : Option HO → Prop
  | some (.lst _) => True
  | some (.dK _) => True
  | some (.dT _) => True
  | some (.set _ _) => True
  | some (.ins _ _ _) => True
  | some (.ext _) => True
  | _ => False
section
variable {P : Program} {w : World} {H : Hp} {h h' : Heap} {x e : Addr} {o' : HO}
/-- the object at e is changed: x itself, or the dict of the instance x -/
theorem HOk.write (ok : HOk P w H h) (mu : Mut (H x)) (he : e = x ∨ H e = some (.own x)) (k : ∀ b u, b ≠ e → h.get? b = some u → h'.get? b = some u) (heo : ∃ u, h'.get? e = some u)
    (new : ObjOk P w (upd H x o') h' x o') : HOk P w (upd H x o') h' := fun b u q => by
  have nown : ∀ c y, H c = some (.own y) → c ≠ x := fun c y r z => by subst z; rw [r] at mu; exact mu
  have ntup : ∀ c xs, H c = some (.tup xs) → c ≠ x := fun c xs r z => by subst z; rw [r] at mu; exact mu
  by_cases hb : b = x
  · subst hb; rw [upd_same] at q; cases q; exact new
  · rw [upd_ne hb] at q
    by_cases hbe : b = e
    · have q' : H b = some (.own x) := by
        rcases he with z | z
        · exact absurd (hbe.trans z) hb
        · rw [hbe]; exact z
      rw [q] at q'; cases q'
      obtain ⟨v, hv⟩ := heo
      exact ⟨v, by rw [hbe]; exact hv⟩
    · refine (ok b u q).stay (fun c v hc r => k c v ?_ r) (fun c r => by rw [upd_ne (nown c b r)]; exact r) fun c xs r => by rw [upd_ne (ntup c xs r)]; exact r
      rcases hc with rfl | hc
      · exact hbe
      · rintro rfl
        rcases he with z | z
        · exact nown c b hc z
        · rw [hc] at z; cases z; exact hb rfl
end

/-! ### kept unless tracked; of the frames at fs (the callers') the slots may change (an exception that passes writes there); of the records at ex (iterators) nothing is said -/
structure Un (fs ex : List Addr) (H H' : Hp) (h h' : Heap) : Prop where
  keep : ∀ b o, h.get? b = some o → H b = none → b ∉ fs → b ∉ ex → h'.get? b = some o
  slot : ∀ b o, h.get? b = some o → H b = none → b ∈ fs → b ∉ ex → ∃ sl, h'.get? b = some { o with slots := sl }
  free : ∀ b o, h.get? b = some o → H b = none → b ∉ ex → H' b = none
  there : ∀ b o, h.get? b = some o → b ∉ ex → ∃ o', h'.get? b = some o'
  tups : ∀ b xs, H b = some (.tup xs) → H' b = some (.tup xs)
  frzs : ∀ b o u, H b = some (.frz o u) → H' b = some (.frz o u)
  tbls : ∀ b ps, H b = some (.tbl ps) → ∃ more, H' b = some (.tbl (ps ++ more))
section
variable {fs fs' ex ex' : List Addr} {H H1 H2 : Hp} {h h1 h2 h' : Heap} {a x e : Addr} {o : HO}
theorem Un.any (u : Un fs ex H H1 h h1) {b : Addr} {ob : Obj} (q : h.get? b = some ob) (n : H b = none) (hx : b ∉ ex) : ∃ sl, h1.get? b = some { ob with slots := sl } := by
  by_cases hb : b ∈ fs
  · exact u.slot b ob q n hb hx
  · exact ⟨ob.slots, u.keep b ob q n hb hx⟩
theorem Un.trans (a : Un fs ex H H1 h h1) (b : Un fs ex H1 H2 h1 h2) : Un fs ex H H2 h h2 where
  keep := fun c ob q n hc hx => b.keep c ob (a.keep c ob q n hc hx) (a.free c ob q n hx) hc hx
  slot := fun c ob q n hc hx => by
    obtain ⟨sl, e1⟩ := a.slot c ob q n hc hx
    obtain ⟨sl', e2⟩ := b.slot c _ e1 (a.free c ob q n hx) hc hx
    exact ⟨sl', e2⟩
  free := fun c ob q n hx => by
    obtain ⟨o', e1⟩ := a.there c ob q hx
    exact b.free c o' e1 (a.free c ob q n hx) hx
  there := fun c ob q hx => by
    obtain ⟨o', e1⟩ := a.there c ob q hx
    exact b.there c o' e1 hx
  tups := fun c xs q => b.tups c xs (a.tups c xs q)
  frzs := fun c ob xs q => b.frzs c ob xs (a.frzs c ob xs q)
  tbls := fun c ps q => by
    obtain ⟨m1, e1⟩ := a.tbls c ps q
    obtain ⟨m2, e2⟩ := b.tbls c _ e1
    exact ⟨m1 ++ m2, by rw [e2, Array.append_assoc]⟩
theorem Un.kept (k : ∀ b u, h.get? b = some u → h'.get? b = some u) : Un fs ex H H h h' :=
  ⟨fun b ob q _ _ _ => k b ob q, fun b ob q _ _ _ => ⟨ob.slots, k b ob q⟩, fun _ _ _ n _ => n, fun b ob q _ => ⟨ob, k b ob q⟩, fun _ _ q => q, fun _ _ _ q => q, fun _ ps q => ⟨#[], by rw [q]; simp⟩⟩
theorem Un.refl : Un fs ex H H h h := Un.kept fun _ _ q => q
theorem Un.laid (k : ∀ b u, h.get? b = some u → h'.get? b = some u) (hp : h.objs.size ≤ a) (hn : H a = none) : Un fs ex H (upd H a o) h h' where
  keep := fun b u q _ _ _ => k b u q
  slot := fun b u q _ _ _ => ⟨u.slots, k b u q⟩
  free := fun b u q n _ => by rw [upd_ne (Nat.ne_of_lt (Nat.lt_of_lt_of_le (Heap.lt_size q) hp))]; exact n
  there := fun b u q _ => ⟨u, k b u q⟩
  tups := fun b xs q => by rw [upd_ne (ne_of_none q hn)]; exact q
  frzs := fun b u xs q => by rw [upd_ne (ne_of_none q hn)]; exact q
  tbls := fun b ps q => ⟨#[], by rw [upd_ne (ne_of_none q hn), q]; simp⟩
theorem Un.write (mu : Mut (H x)) (he : e = x ∨ H e = some (.own x)) (k : ∀ b u, b ≠ e → h.get? b = some u → h'.get? b = some u) (heo : ∃ u, h'.get? e = some u) : Un fs ex H (upd H x o) h h' := by
  have hx : ∀ b, H b = none → b ≠ x := fun b n z => by subst z; rw [n] at mu; exact mu
  have hb : ∀ b, H b = none → b ≠ e := fun b n z => by
    subst z
    rcases he with r | r
    · exact hx b n r
    · rw [n] at r; cases r
  have hm : ∀ b u, H b = some u → ¬ Mut (some u) → b ≠ x := fun b u q nm z => by subst z; rw [q] at mu; exact nm mu
  refine ⟨fun b u q n _ _ => k b u (hb b n) q, fun b u q n _ _ => ⟨u.slots, k b u (hb b n) q⟩, fun b u q n _ => by rw [upd_ne (hx b n)]; exact n, fun b u q _ => ?_,
    fun b xs q => by rw [upd_ne (hm b _ q fun z => z)]; exact q, fun b u xs q => by rw [upd_ne (hm b _ q fun z => z)]; exact q, fun b ps q => ⟨#[], by rw [upd_ne (hm b _ q fun z => z), q]; simp⟩⟩
  by_cases hbe : b = e
  · subst hbe; exact heo
  · exact ⟨u, k b u hbe q⟩
theorem Un.mono (u : Un fs ex H H1 h h1) (hs : ∀ b ∈ fs, b ∈ fs') (hx : ∀ b ∈ ex, b ∈ ex') : Un fs' ex' H H1 h h1 :=
  ⟨fun b ob q n hb he => u.keep b ob q n (fun z => hb (hs b z)) fun z => he (hx b z), fun _ _ q n _ he => u.any q n fun z => he (hx _ z), fun b ob q n he => u.free b ob q n fun z => he (hx b z), fun b ob q he => u.there b ob q fun z => he (hx b z), u.tups, u.frzs, u.tbls⟩
end

/-! ### the heap without what is tracked -/
def trk (h : Heap) (H : Hp) : List Addr := (List.range h.objs.size).filter fun a => (H a).isSome
def hidT (h : Heap) (H : Hp) : Heap := PySem.W.hideAll h (trk h H)
theorem hidT_size (h : Heap) (H : Hp) : (hidT h H).objs.size = h.objs.size := PySem.W.hideAll_size _ _
theorem hidT_get {h : Heap} {H : Hp} {b : Addr} {o : Obj} (e : h.get? b = some o) (n : H b = none) : (hidT h H).get? b = some o :=
  PySem.W.hideAll_get _ e fun hm => by
    have q : (H b).isSome = true := (List.mem_filter.mp hm).2
    rw [n] at q; simp at q
theorem of_hidT {h : Heap} {H : Hp} {b : Addr} {o : Obj} (e : (hidT h H).get? b = some o) : h.get? b = some o ∧ H b = none := by
  have e' : h.get? b = some o := PySem.W.of_hideAll (trk h H) e
  refine ⟨e', ?_⟩
  cases q : H b with
  | none => rfl
  | some x =>
    have hm : b ∈ trk h H := List.mem_filter.mpr ⟨List.mem_range.mpr (Heap.lt_size e'), by simp [q]⟩
    have z : (hidT h H).get? b = none := PySem.W.hideAll_none (trk h H) hm
    rw [z] at e; cases e

/-! ### OpenK's ledger, filled with every new object but one -/
def allNews (g h : Heap) (L : Addr) : List (Addr × Obj) := (List.range h.objs.size).filterMap fun a => if a = L ∨ (g.get? a).isSome = true then none else (h.get? a).map fun o => (a, o)
def rest (g h : Heap) (L d : Addr) : List (Addr × Obj) := (allNews g h L).filter fun p => decide (p.1 ≠ d)
end L2

namespace L2
open PySem PySem.Spec PyProof.Rows

/-- the module's facts, over the base: the heap at the law's entry without what is tracked there -/
structure Mod (K : PySem.W.Frag) (mg : Str → Option Value) (base : Heap) : Prop where
  kin : K.In base
  glob : base.Ns mainGlobals mg
  blt : ∃ mb, base.Ns builtinsNs mb ∧ ∀ x : Str, x ≠ "__name__" → mb x = bootBuiltins x
  nolimit : base.NoLimit

/-- the context: a def's body (or a comprehension's block) running. base: fixed through the whole law; s₀, H₀: the entry; outer: the frames whose slots others may change (a def's callers); stack: all frames that run;
   ex: iterators that were made ahead of the entry and are walked here (a comprehension's); fn: the names whose cells were made at the entry (a def: all; a comprehension's block: its own); calm: not within an except suite; pn: pins that every state bears; xe: what is wanted of an exception that leaves the code -/
structure Cx where
  prog : Program
  w : World
  K : PySem.W.Frag
  mg : Str → Option Value
  base : Heap
  A : Around
  N : List Str
  s₀ : Shared
  H₀ : Hp
  env : Env
  outer : List Env
  stack : List Env
  ex : List Addr
  fn : Str → Bool
  calm : Bool
  pn : List (Addr × Obj)
  xe : Value → Shared → Prop
/-- the callers' frames -/
def frs (l : List Env) : List Addr := l.filterMap (·.frame)
abbrev Cx.fs (X : Cx) : List Addr := frs X.outer

def Vis (sc : Scope) (x : Str) : Prop := sc.names.lookup x = some .local ∨ sc.names.lookup x = some .cell ∨ sc.names.lookup x = some .free
def Loc (sc : Scope) (x : Str) : Prop := sc.names.lookup x = some .local ∨ sc.names.lookup x = some .cell
def Look (env : Env) (h : Heap) (m : Str → Option Value) (x : Str) (u : Value) : Prop :=
  (env.kindOf x = some .local ∧ m x = some u) ∨ ((env.kindOf x = some .cell ∨ env.kindOf x = some .free) ∧ ∃ c, env.cells.lookup x = some c ∧ h.IsCell c (some u))

structure Cx.Ok (X : Cx) : Prop where
  mod : Mod X.K X.mg X.base
  kind : X.env.scope.kind = .function
  glob : X.env.globals = mainGlobals
  blt : X.env.builtins = builtinsNs
  above : X.s₀.heap.objs.size ≤ X.env.locals
  inj : ∀ x y c, X.env.cells.lookup x = some c → X.env.cells.lookup y = some c → x = y
  has : ∀ x, (X.env.kindOf x = some .cell ∨ X.env.kindOf x = some .free) → ∃ c, X.env.cells.lookup x = some c
  cab : ∀ x c, X.fn x = true → X.env.cells.lookup x = some c → X.s₀.heap.objs.size ≤ c
  hd : X.calm = true → X.A.handled = none
  frames : X.A.frames = some X.stack
  stk : X.stack = X.outer ∨ (X.stack = X.env :: X.outer ∧ X.env.frame = some X.env.locals)
  exf : ∀ b ∈ X.ex, b ≠ X.env.locals ∧ ∀ x c, X.env.cells.lookup x = some c → c ≠ b
  bs : ∀ b o, X.base.get? b = some o → X.s₀.heap.get? b = some o ∧ X.H₀ b = none
  bsz : X.base.objs.size ≤ X.s₀.heap.objs.size
  noex : ∀ b o, X.base.get? b = some o → b ∉ X.ex
  exfs : ∀ b ∈ X.ex, b ∉ X.fs
  funs : X.s₀.heap.FunFrames X.base X.outer
  frf : ∀ b ∈ X.fs, X.H₀ b = none

structure Inv (X : Cx) (pins : List (Addr × Obj)) (σ : List (Option V)) (H : Hp) (s : Shared) : Prop where
  ok : X.Ok
  os : s.os = X.s₀.os
  bare : AllBare s.gens
  base : Un X.fs X.ex X.H₀ H X.s₀.heap s.heap
  loc : ∃ m, s.heap.Ns X.env.locals m ∧ ∀ (i : Nat) (x : Str) (v : V), X.N[i]? = some x → σ[i]? = some (some v) → Vis X.env.scope x → ∃ u, RelV v u ∧ Look X.env s.heap m x u
  cell : ∀ x c, X.env.cells.lookup x = some c → ∃ v, s.heap.IsCell c v
  free : H X.env.locals = none
  freeC : ∀ x c, X.env.cells.lookup x = some c → H c = none
  pin : ∀ p ∈ X.pn ++ pins, s.heap.get? p.1 = some p.2 ∧ H p.1 = none ∧ p.1 ≠ X.env.locals ∧ p.1 ∉ X.fs ∧ ∀ v, p.2.data ≠ .cell v
  hok : HOk X.prog X.w H s.heap
  len : σ.length = X.N.length

section
variable {X : Cx} {pins : List (Addr × Obj)} {σ : List (Option V)} {H H' : Hp} {s : Shared} {h' : Heap}

theorem Cx.Ok.nofr (ok : X.Ok) {b : Addr} {o : Obj} (e : X.base.get? b = some o) : b ∉ X.fs := fun hb => by
  have := (ok.funs.mem hb).1
  rw [e] at this; cases this
theorem Inv.bs (I : Inv X pins σ H s) : ∀ b o, X.base.get? b = some o → s.heap.get? b = some o ∧ H b = none := fun b o e =>
  ⟨I.base.keep b o (I.ok.bs b o e).1 (I.ok.bs b o e).2 (I.ok.nofr e) (I.ok.noex b o e), I.base.free b o (I.ok.bs b o e).1 (I.ok.bs b o e).2 (I.ok.noex b o e)⟩
theorem Inv.bk (I : Inv X pins σ H s) : ∀ b o, X.base.get? b = some o → s.heap.get? b = some o := fun b o e => (I.bs b o e).1
theorem Inv.mod (I : Inv X pins σ H s) : Mod X.K X.mg X.base := I.ok.mod
theorem Inv.kIn (I : Inv X pins σ H s) : X.K.In s.heap := I.ok.mod.kin.keeps I.bk
theorem Inv.nolimit (I : Inv X pins σ H s) : s.heap.NoLimit := I.ok.mod.nolimit.keeps I.bk
/-- the frame over the base: for OpenK's rules (K.In X.base is I.mod.kin) -/
theorem Inv.fr (I : Inv X pins σ H s) : ∃ m, Fr X.base X.env.locals s.heap m :=
  let ⟨m, hn, _⟩ := I.loc
  ⟨m, hn, I.bk, Nat.le_trans I.ok.bsz I.ok.above⟩
theorem Inv.lt (I : Inv X pins σ H s) : X.env.locals < s.heap.objs.size := let ⟨_, hn, _⟩ := I.loc; hn.lt
theorem Inv.sz (I : Inv X pins σ H s) : X.s₀.heap.objs.size ≤ s.heap.objs.size := Nat.le_trans I.ok.above (Nat.le_of_lt I.lt)
theorem Inv.nofs (I : Inv X pins σ H s) {a : Addr} (h : s.heap.objs.size ≤ a) : a ∉ X.fs := fun hb => by
  obtain ⟨_, o, ho, _⟩ := I.ok.funs.mem hb
  exact absurd (Nat.lt_of_lt_of_le (Heap.lt_size ho) (Nat.le_trans I.sz h)) (Nat.lt_irrefl _)
theorem Inv.cne (I : Inv X pins σ H s) : ∀ x c, X.env.cells.lookup x = some c → c ≠ X.env.locals := fun x c e z => by
  obtain ⟨v, o, ho, hd⟩ := I.cell x c e
  obtain ⟨m, ⟨o', es, ep, ho', hd', _⟩, _⟩ := I.loc
  rw [z, ho'] at ho; cases ho; rw [hd'] at hd; cases hd
theorem Inv.funs (I : Inv X pins σ H s) : s.heap.FunFrames X.base X.outer := by
  have all : ∀ (l : List Env), (∀ b ∈ frs l, b ∈ X.fs) → X.s₀.heap.FunFrames X.base l → s.heap.FunFrames X.base l := by
    intro l
    induction l with
    | nil => intro _ _; trivial
    | cons env r ih =>
      intro hs hl
      obtain ⟨hk, ⟨L, o, hf, hn, ho, hd⟩, hr⟩ := hl
      have hL : L ∈ X.fs := hs L (by unfold frs; rw [List.filterMap_cons, hf]; exact List.mem_cons_self)
      obtain ⟨sl, e⟩ := I.base.slot L o ho (I.ok.frf L hL) hL fun z => I.ok.exfs L z hL
      exact ⟨hk, ⟨L, _, hf, hn, e, hd⟩, ih (fun b hb => hs b (by unfold frs; rw [List.filterMap_cons, hf]; exact List.mem_cons_of_mem _ hb)) hr⟩
  exact all X.outer (fun _ hb => hb) I.ok.funs

/-- the frames that run, for a call -/
theorem Inv.stack (I : Inv X pins σ H s) : s.heap.FunFrames X.base X.stack := by
  rcases I.ok.stk with e | ⟨e, hf⟩
  · rw [e]; exact I.funs
  · rw [e]
    obtain ⟨m, hn, _⟩ := I.loc
    refine .cons (by rw [I.ok.kind]; decide) hf hn ?_ I.funs
    exact Heap.get?_none_of_le (Nat.le_trans I.ok.bsz I.ok.above)
theorem Inv.stkSub (I : Inv X pins σ H s) : ∀ b ∈ frs X.stack, b ∈ X.env.locals :: X.fs := fun b hb => by
  rcases I.ok.stk with e | ⟨e, hf⟩
  · rw [e] at hb; exact List.mem_cons_of_mem _ hb
  · rw [e] at hb
    unfold frs at hb
    rw [List.filterMap_cons, hf] at hb
    exact hb
theorem Inv.stkFree (I : Inv X pins σ H s) : ∀ b ∈ frs X.stack, H b = none := fun b hb => by
  rcases List.mem_cons.mp (I.stkSub b hb) with e | hb
  · rw [e]; exact I.free
  · obtain ⟨_, o, ho, _⟩ := I.ok.funs.mem hb
    exact I.base.free b o ho (I.ok.frf b hb) fun z => I.ok.exfs b z hb

/-- THE STEP: the untracked objects but the frame and the records at ch are kept (the callers' frames up to slots), the frame's map is kept, the new abstract heap is held -/
theorem Inv.step {g' : Array GenState} {t' : Nat} {d' : Drawn} {ch : List Addr} (I : Inv X pins σ H s)
    (hch : ∀ b ∈ ch, (b ∈ X.ex ∨ X.s₀.heap.objs.size ≤ b) ∧ b ≠ X.env.locals ∧ (∀ x c, X.env.cells.lookup x = some c → c ≠ b) ∧ ∀ p ∈ X.pn ++ pins, p.1 ≠ b)
    (keep : ∀ b o, b ≠ X.env.locals → b ∉ X.fs → b ∉ ch → s.heap.get? b = some o → H b = none → h'.get? b = some o)
    (slot : ∀ b o, b ≠ X.env.locals → b ∈ X.fs → b ∉ ch → s.heap.get? b = some o → H b = none → ∃ sl, h'.get? b = some { o with slots := sl }) (free : ∀ b o, b ∉ ch → s.heap.get? b = some o → H b = none → H' b = none)
    (there : ∀ b o, b ∉ ch → s.heap.get? b = some o → ∃ o', h'.get? b = some o')
    (tups : ∀ b xs, H b = some (.tup xs) → H' b = some (.tup xs)) (frzs : ∀ b o u, H b = some (.frz o u) → H' b = some (.frz o u)) (tbls : ∀ b ps, H b = some (.tbl ps) → ∃ more, H' b = some (.tbl (ps ++ more)))
    (ns : ∀ m, s.heap.Ns X.env.locals m → h'.Ns X.env.locals m) (hok : HOk X.prog X.w H' h') (hg : AllBare g') :
    Inv X pins σ H' { s with heap := h', gens := g', drawn := d', toks := t' } := by
  have neL : ∀ b o, X.s₀.heap.get? b = some o → b ≠ X.env.locals := fun b o e => Nat.ne_of_lt (Nat.lt_of_lt_of_le (Heap.lt_size e) I.ok.above)
  have neC : ∀ b o, X.s₀.heap.get? b = some o → b ∉ X.ex → b ∉ ch := fun b o e hx hb => by
    rcases (hch b hb).1 with z | z
    · exact hx z
    · exact absurd (Nat.lt_of_lt_of_le (Heap.lt_size e) z) (Nat.lt_irrefl _)
  have cellK : ∀ x c, X.env.cells.lookup x = some c → ∀ v, s.heap.IsCell c v → h'.IsCell c v := fun x c e v ⟨o, ho, hd⟩ => by
    have nch : c ∉ ch := fun z => (hch c z).2.2.1 x c e rfl
    by_cases hc : c ∈ X.fs
    · obtain ⟨sl, q⟩ := slot c o (I.cne x c e) hc nch ho (I.freeC x c e)
      exact ⟨_, q, hd⟩
    · exact ⟨o, keep c o (I.cne x c e) hc nch ho (I.freeC x c e), hd⟩
  refine ⟨I.ok, I.os, hg, ⟨fun b o e n hb hx => ?_, fun b o e n hb hx => ?_, fun b o e n hx => ?_, fun b o e hx => ?_, fun b xs e => tups b xs (I.base.tups b xs e), fun b o xs e => frzs b o xs (I.base.frzs b o xs e), fun b ps e => ?_⟩, ?_, fun x c e => ?_, ?_, fun x c e => ?_, fun p hp => ?_, hok, I.len⟩
  · exact keep b o (neL b o e) hb (neC b o e hx) (I.base.keep b o e n hb hx) (I.base.free b o e n hx)
  · obtain ⟨sl, e1⟩ := I.base.slot b o e n hb hx
    obtain ⟨sl', e2⟩ := slot b _ (neL b o e) hb (neC b o e hx) e1 (I.base.free b o e n hx)
    exact ⟨sl', e2⟩
  · obtain ⟨o', e1⟩ := I.base.there b o e hx
    exact free b o' (neC b o e hx) e1 (I.base.free b o e n hx)
  · obtain ⟨o', e1⟩ := I.base.there b o e hx
    exact there b o' (neC b o e hx) e1
  · obtain ⟨m1, e1⟩ := I.base.tbls b ps e
    obtain ⟨m2, e2⟩ := tbls b _ e1
    exact ⟨m1 ++ m2, by rw [e2, Array.append_assoc]⟩
  · obtain ⟨m, hn, hl⟩ := I.loc
    refine ⟨m, ns m hn, fun i x v e1 e2 e3 => ?_⟩
    obtain ⟨u, r, l⟩ := hl i x v e1 e2 e3
    refine ⟨u, r, ?_⟩
    rcases l with l | ⟨k, c, e, z⟩
    · exact .inl l
    · exact .inr ⟨k, c, e, cellK x c e _ z⟩
  · obtain ⟨v, z⟩ := I.cell x c e
    exact ⟨v, cellK x c e v z⟩
  · obtain ⟨m, ⟨o, _, _, ho, _⟩, _⟩ := I.loc
    exact free _ o (fun z => (hch _ z).2.1 rfl) ho I.free
  · obtain ⟨v, o, ho, hd⟩ := I.cell x c e
    exact free c o (fun z => (hch c z).2.2.1 x c e rfl) ho (I.freeC x c e)
  · obtain ⟨e, n, ne, nf, d⟩ := I.pin p hp
    have nch : p.1 ∉ ch := fun z => (hch p.1 z).2.2.2 p hp rfl
    exact ⟨keep p.1 p.2 ne nf nch e n, free p.1 p.2 nch e n, ne, nf, d⟩
/-- .. where the frame's own object is kept too -/
theorem Inv.un {t' : Nat} (I : Inv X pins σ H s) (u : Un X.fs [] H H' s.heap h') (hok : HOk X.prog X.w H' h') : Inv X pins σ H' { s with heap := h', toks := t' } := by
  obtain ⟨m, ⟨o, es, ep, ho, r⟩, _⟩ := id I.loc
  obtain ⟨sl, hL⟩ := u.any ho I.free (by simp)
  exact I.step (g' := s.gens) (d' := s.drawn) (ch := []) (fun _ z => nomatch z) (fun b o _ hb _ e n => u.keep b o e n hb (by simp)) (fun b o _ hb _ e n => u.slot b o e n hb (by simp)) (fun b o _ e n => u.free b o e n (by simp)) (fun b o _ e => u.there b o e (by simp)) u.tups u.frzs u.tbls (fun m' hm => by
    obtain ⟨o', es', ep', ho', r'⟩ := hm
    rw [ho] at ho'; cases ho'
    exact ⟨_, es', ep', hL, r'⟩) hok I.bare
/-- behind a call (or a comprehension's block): the slots of this frame may have changed too, the records at ch may have turned -/
theorem Inv.call {g' : Array GenState} {t' : Nat} {d' : Drawn} {ch : List Addr} (I : Inv X pins σ H s) (u : Un (frs X.stack) ch H H' s.heap h') (hok : HOk X.prog X.w H' h') (hg : AllBare g')
    (hch : ∀ b ∈ ch, (b ∈ X.ex ∨ X.s₀.heap.objs.size ≤ b) ∧ b ≠ X.env.locals ∧ (∀ x c, X.env.cells.lookup x = some c → c ≠ b) ∧ ∀ p ∈ X.pn ++ pins, p.1 ≠ b) :
    Inv X pins σ H' { s with heap := h', gens := g', drawn := d', toks := t' } := by
  obtain ⟨m, ⟨o, es, ep, ho, r⟩, _⟩ := id I.loc
  obtain ⟨sl, hL⟩ := u.any ho I.free fun z => (hch _ z).2.1 rfl
  exact I.step (ch := ch) hch (fun b o hL hb hc e n => u.keep b o e n (fun z => (List.mem_cons.mp (I.stkSub b z)).elim hL hb) hc) (fun b o _ _ hc e n => u.any e n hc) (fun b o hc e n => u.free b o e n hc) (fun b o hc e => u.there b o e hc) u.tups u.frzs u.tbls (fun m' hm => by
    obtain ⟨o', es', ep', ho', r'⟩ := hm
    rw [ho] at ho'; cases ho'
    exact ⟨_, es', ep', hL, r'⟩) hok hg
/-- an untracked record of ours (an iterator) has turned -/
theorem Inv.turned {t' : Nat} {it : Addr} (I : Inv X pins σ H s) (k : ∀ b o, b ≠ it → s.heap.get? b = some o → h'.get? b = some o) (hn : H it = none) (hL : it ≠ X.env.locals)
    (h1 : it ∈ X.ex ∨ X.s₀.heap.objs.size ≤ it) (h2 : ∀ x c, X.env.cells.lookup x = some c → c ≠ it) (h3 : ∀ p ∈ X.pn ++ pins, p.1 ≠ it) : Inv X pins σ H { s with heap := h', toks := t' } := by
  have nit : ∀ b u, H b = some u → b ≠ it := fun b u e z => by rw [z, hn] at e; cases e
  refine I.step (g' := s.gens) (d' := s.drawn) (ch := [it]) (fun b hb => ?_) (fun b o _ _ hc e _ => k b o (fun z => hc (by simp [z])) e) (fun b o _ _ hc e _ => ⟨o.slots, k b o (fun z => hc (by simp [z])) e⟩) (fun _ _ _ _ n => n)
    (fun b o hc e => ⟨o, k b o (fun z => hc (by simp [z])) e⟩) (fun _ _ e => e) (fun _ _ _ e => e) (fun b ps e => ⟨#[], by rw [e]; simp⟩) (fun m hm => ?_) (fun b u e => ?_) I.bare
  · have e : b = it := by simpa using hb
    subst e
    exact ⟨h1, hL, h2, h3⟩
  · obtain ⟨o, es, ep, ho, r⟩ := hm
    exact ⟨o, es, ep, k _ o (Ne.symm hL) ho, r⟩
  · refine (I.hok b u e).stay (fun c v hc q => k c v ?_ q) (fun _ q => q) fun _ _ q => q
    rcases hc with z | z
    · rw [z]; exact nit b u e
    · exact nit c _ z
theorem Inv.tok (I : Inv X pins σ H s) (t : Nat) : Inv X pins σ H { s with toks := t } := I.un (h' := s.heap) (t' := t) Un.refl I.hok
/-- all objects kept -/
theorem Inv.kept {t' : Nat} (I : Inv X pins σ H s) (k : ∀ b u, s.heap.get? b = some u → h'.get? b = some u) : Inv X pins σ H { s with heap := h', toks := t' } := I.un (Un.kept k) (I.hok.kept k)
/-- a new object laid and tracked -/
theorem Inv.laid {a : Addr} {o : HO} {t' : Nat} (I : Inv X pins σ H s) (k : ∀ b u, s.heap.get? b = some u → h'.get? b = some u) (hp : s.heap.objs.size ≤ a) (new : ObjOk X.prog X.w (upd H a o) h' a o) :
    Inv X pins σ (upd H a o) { s with heap := h', toks := t' } := I.un (Un.laid k hp (I.hok.fresh hp)) (I.hok.laid k hp new)
/-- an object written -/
theorem Inv.write {x e : Addr} {o : HO} {t' : Nat} (I : Inv X pins σ H s) (mu : Mut (H x)) (he : e = x ∨ H e = some (.own x)) (k : ∀ b u, b ≠ e → s.heap.get? b = some u → h'.get? b = some u) (heo : ∃ u, h'.get? e = some u)
    (new : ObjOk X.prog X.w (upd H x o) h' x o) : Inv X pins σ (upd H x o) { s with heap := h', toks := t' } := I.un (Un.write mu he k heo) (I.hok.write mu he k heo new)
/-- forgetting slots, pins -/
theorem Inv.weak {σ' : List (Option V)} (I : Inv X pins σ H s) (hl : σ'.length = σ.length) (w : ∀ (i : Nat) v, σ'[i]? = some (some v) → σ[i]? = some (some v)) : Inv X pins σ' H s :=
  ⟨I.ok, I.os, I.bare, I.base, let ⟨m, hn, hl'⟩ := I.loc; ⟨m, hn, fun i x v e1 e2 e3 => hl' i x v e1 (w i v e2) e3⟩, I.cell, I.free, I.freeC, I.pin, I.hok, hl.trans I.len⟩
theorem Inv.pins_of {pins' : List (Addr × Obj)} (I : Inv X pins σ H s) (h : ∀ p ∈ pins', s.heap.get? p.1 = some p.2 ∧ H p.1 = none ∧ p.1 ≠ X.env.locals ∧ p.1 ∉ X.fs ∧ ∀ v, p.2.data ≠ .cell v) : Inv X pins' σ H s :=
  ⟨I.ok, I.os, I.bare, I.base, I.loc, I.cell, I.free, I.freeC, fun p hp => (List.mem_append.mp hp).elim (fun z => I.pin p (List.mem_append_left _ z)) (h p), I.hok, I.len⟩

theorem nodup_ix {N : List Str} (hN : N.Nodup) {i j : Nat} {x : Str} (a : N[i]? = some x) (b : N[j]? = some x) : i = j := by
  obtain ⟨h1, e1⟩ := List.getElem?_eq_some_iff.mp a
  obtain ⟨h2, e2⟩ := List.getElem?_eq_some_iff.mp b
  exact (List.getElem_inj hN).mp (e1.trans e2.symm)

/-- a name is stored; what changed -/
theorem store_ok2 {M : Model} {A : Around} {E : Value → Shared → Prop} {i : Nat} {x : Str} {v : V} {u : Value} {Q : Unit → Shared → Prop} (I : Inv X pins σ H s) (hN : X.N.Nodup) (hi : X.N[i]? = some x) (hx : Loc X.env.scope x) (r : RelV v u)
    (h : ∀ s', Inv X pins (σ.set i (some v)) H s' → (∃ a, Heap.SameBut a s.heap s'.heap ∧ (a = X.env.locals ∨ X.env.cells.lookup x = some a)) → Q () s') (hf : X.fn x = true ∨ X.env.scope.names.lookup x = some .local := by first | exact .inl rfl | exact .inr rfl | assumption) : wpAny M A (storeName X.env x u) Q E s := by
  obtain ⟨m, hn, hl⟩ := id I.loc
  have hcls : (X.env.scope.kind == .class || (X.env.scope.kind == .module && X.env.locals != X.env.globals)) = false := by rw [I.ok.kind]; rfl
  have hiσ : i < σ.length := by rw [I.len]; exact (List.getElem?_eq_some_iff.mp hi).1
  have cne := I.cne
  have tracked : ∀ {a : Addr} {h' : Heap}, (∃ o, s.heap.get? a = some o ∧ H a = none) → Heap.SameBut a s.heap h' → HOk X.prog X.w H h' := fun {a h'} ha hs b ob e => by
    obtain ⟨_, _, hfree⟩ := ha
    refine (I.hok b ob e).stay (fun c w' hc q => (hs.2 c ?_).trans q) (fun _ q => q) fun _ _ q => q
    rintro rfl
    rcases hc with rfl | hc
    · rw [hfree] at e; cases e
    · rw [hfree] at hc; cases hc
  rcases hx with hk | hk
  · refine wpAny_storeName_local hk hn (fun h' hn' hs => ?_) hcls
    obtain ⟨oL, _, _, hoL, _⟩ := id hn
    refine h _ ⟨I.ok, I.os, I.bare, ⟨fun b o e n hb hx => ?_, fun b o e n hb hx => ?_, I.base.free, fun b o e hx => ?_, I.base.tups, I.base.frzs, I.base.tbls⟩, ⟨_, hn', fun j y v' e1 e2 e3 => ?_⟩, fun y c e => ?_, I.free, I.freeC, fun p hp => ?_, tracked ⟨oL, hoL, I.free⟩ hs, by simpa using I.len⟩ ⟨_, hs, .inl rfl⟩
    · exact (hs.2 b (Nat.ne_of_lt (Nat.lt_of_lt_of_le (Heap.lt_size e) I.ok.above))).trans (I.base.keep b o e n hb hx)
    · obtain ⟨sl, e1⟩ := I.base.slot b o e n hb hx
      exact ⟨sl, (hs.2 b (Nat.ne_of_lt (Nat.lt_of_lt_of_le (Heap.lt_size e) I.ok.above))).trans e1⟩
    · obtain ⟨o', e1⟩ := I.base.there b o e hx
      exact ⟨o', (hs.2 b (Nat.ne_of_lt (Nat.lt_of_lt_of_le (Heap.lt_size e) I.ok.above))).trans e1⟩
    · by_cases hj : j = i
      · subst hj
        rw [hi] at e1; cases e1
        rw [List.getElem?_set_self hiσ] at e2
        cases e2
        exact ⟨u, r, .inl ⟨hk, by simp⟩⟩
      · rw [List.getElem?_set_ne (Ne.symm hj)] at e2
        obtain ⟨u', r', q⟩ := hl j y v' e1 e2 e3
        refine ⟨u', r', ?_⟩
        rcases q with ⟨k, e⟩ | ⟨k, c, e, z⟩
        · refine .inl ⟨k, ?_⟩
          have : y ≠ x := fun e => hj (nodup_ix hN e1 (e ▸ hi))
          simp [this, e]
        · exact .inr ⟨k, c, e, z.sameBut hs (cne y c e)⟩
    · obtain ⟨w', z⟩ := I.cell y c e
      exact ⟨w', z.sameBut hs (cne y c e)⟩
    · obtain ⟨e, n, ne, nf, d⟩ := I.pin p hp
      exact ⟨(hs.2 p.1 ne).trans e, n, ne, nf, d⟩
  · have hfn : X.fn x = true := by
      rcases hf with z | z
      · exact z
      · rw [z] at hk; cases hk
    obtain ⟨c, hc⟩ := I.ok.has x (.inl hk)
    obtain ⟨w', z⟩ := I.cell x c hc
    refine wpAny_storeName_cell I.ok.kind hk hc z (fun h' hc' hs => ?_)
    obtain ⟨oc, hoc, hocd⟩ := id z
    refine h { s with heap := h' } ⟨I.ok, I.os, I.bare, ⟨fun b o e n hb hx => ?_, fun b o e n hb hx => ?_, I.base.free, fun b o e hx => ?_, I.base.tups, I.base.frzs, I.base.tbls⟩, ⟨m, hn.sameBut hs (Ne.symm (cne x c hc)), fun j y v' e1 e2 e3 => ?_⟩, fun y c' e => ?_, I.free, I.freeC, fun p hp => ?_, tracked ⟨oc, hoc, I.freeC x c hc⟩ hs, by simpa using I.len⟩ ⟨c, hs, .inr hc⟩
    · exact (hs.2 b (Nat.ne_of_lt (Nat.lt_of_lt_of_le (Heap.lt_size e) (I.ok.cab x c hfn hc)))).trans (I.base.keep b o e n hb hx)
    · obtain ⟨sl, e1⟩ := I.base.slot b o e n hb hx
      exact ⟨sl, (hs.2 b (Nat.ne_of_lt (Nat.lt_of_lt_of_le (Heap.lt_size e) (I.ok.cab x c hfn hc)))).trans e1⟩
    · obtain ⟨o', e1⟩ := I.base.there b o e hx
      exact ⟨o', (hs.2 b (Nat.ne_of_lt (Nat.lt_of_lt_of_le (Heap.lt_size e) (I.ok.cab x c hfn hc)))).trans e1⟩
    · by_cases hj : j = i
      · subst hj
        rw [hi] at e1; cases e1
        rw [List.getElem?_set_self hiσ] at e2
        cases e2
        exact ⟨u, r, .inr ⟨.inl hk, c, hc, hc'⟩⟩
      · rw [List.getElem?_set_ne (Ne.symm hj)] at e2
        obtain ⟨u', r', q⟩ := hl j y v' e1 e2 e3
        refine ⟨u', r', ?_⟩
        rcases q with q | ⟨k, c', e, z'⟩
        · exact .inl q
        · refine .inr ⟨k, c', e, z'.sameBut hs ?_⟩
          rintro rfl
          exact hj (nodup_ix hN e1 (I.ok.inj _ _ _ e hc ▸ hi))
    · by_cases hcc : c' = c
      · subst hcc; exact ⟨_, hc'⟩
      · obtain ⟨w2, z2⟩ := I.cell y c' e
        exact ⟨w2, z2.sameBut hs hcc⟩
    · obtain ⟨e, n, ne, nf, d⟩ := I.pin p hp
      refine ⟨(hs.2 p.1 ?_).trans e, n, ne, nf, d⟩
      intro q
      rw [q, hoc] at e
      have q' : oc = p.2 := Option.some.inj e
      exact d w' (by rw [← q']; exact hocd)
theorem store_ok {M : Model} {A : Around} {E : Value → Shared → Prop} {i : Nat} {x : Str} {v : V} {u : Value} {Q : Unit → Shared → Prop} (I : Inv X pins σ H s) (hN : X.N.Nodup) (hi : X.N[i]? = some x) (hx : Loc X.env.scope x) (r : RelV v u)
    (h : ∀ s', Inv X pins (σ.set i (some v)) H s' → Q () s') (hf : X.fn x = true ∨ X.env.scope.names.lookup x = some .local := by first | exact .inl rfl | exact .inr rfl | assumption) : wpAny M A (storeName X.env x u) Q E s :=
  store_ok2 I hN hi hx r (fun s' I' _ => h s' I') hf
/-- behind a call or a block, the state as it is -/
theorem Inv.call' {s' : Shared} {ch : List Addr} (I : Inv X pins σ H s) (ho : s'.os = s.os) (u : Un (frs X.stack) ch H H' s.heap s'.heap) (hok : HOk X.prog X.w H' s'.heap) (hg : AllBare s'.gens)
    (hch : ∀ b ∈ ch, (b ∈ X.ex ∨ X.s₀.heap.objs.size ≤ b) ∧ b ≠ X.env.locals ∧ (∀ x c, X.env.cells.lookup x = some c → c ≠ b) ∧ ∀ p ∈ X.pn ++ pins, p.1 ≠ b) : Inv X pins σ H' s' := by
  obtain ⟨h', g', d', t', o'⟩ := s'
  have e : o' = s.os := ho
  subst e
  exact I.call (g' := g') (t' := t') (d' := d') u hok hg hch
end

/-! ### the judgements -/
/-- an exception: its class, its own dict's address (where it has one), the abstract heap behind it -/
abbrev XK := Value → Option Addr → Hp → Prop
abbrev St := List (Option V)
abbrev VK := V → Hp → Prop
/-- an expression's reading; a test's; an argument list's -/
abbrev TE := St → Hp → VK → Prop
abbrev TT := St → Hp → (Bool → Hp → Prop) → Prop
abbrev TA := St → Hp → (List V → Hp → Prop) → Prop
/-- what is wanted behind a statement -/
structure Ends where
  nx : St → Hp → Prop
  rt : VK
  bk : St → Hp → Prop := fun _ _ => False
  ct : St → Hp → Prop := fun _ _ => False
abbrev TS := Ends → St → Hp → Prop

def EP (X : Cx) (pins : List (Addr × Obj)) (σ : St) (Q : VK) (u : Value) (s' : Shared) : Prop := ∃ v H', Inv X pins σ H' s' ∧ RelV v u ∧ Q v H'
def TP (X : Cx) (pins : List (Addr × Obj)) (σ : St) (Q : Bool → Hp → Prop) (b : Bool) (s' : Shared) : Prop := ∃ H', Inv X pins σ H' s' ∧ Q b H'
def AP (X : Cx) (pins : List (Addr × Obj)) (σ : St) (Q : List V → Hp → Prop) (us : List Value) (s' : Shared) : Prop := ∃ vs H', Inv X pins σ H' s' ∧ Vals vs us ∧ Q vs H'
def SP (X : Cx) (pins : List (Addr × Obj)) (D : Ends) (f : Flow) (s' : Shared) : Prop :=
  match f with
  | .next => ∃ σ' H', Inv X pins σ' H' s' ∧ D.nx σ' H'
  | .brk => ∃ σ' H', Inv X pins σ' H' s' ∧ D.bk σ' H'
  | .cont => ∃ σ' H', Inv X pins σ' H' s' ∧ D.ct σ' H'
  | .ret u => ∃ v σ' H', Inv X pins σ' H' s' ∧ RelV v u ∧ D.rt v H'

def PE (X : Cx) (e : Expr) (t : TE) : Prop :=
  ∀ (pins : List (Addr × Obj)) (s : Shared) (σ : St) (H : Hp) (Q : VK), Inv X pins σ H s → t σ H Q → wpAny (model X.prog X.w) X.A (eval e X.env) (EP X pins σ Q) X.xe s
def PT (X : Cx) (e : Expr) (t : TT) : Prop :=
  ∀ (pins : List (Addr × Obj)) (s : Shared) (σ : St) (H : Hp) (Q : Bool → Hp → Prop), Inv X pins σ H s → t σ H Q → wpAny (model X.prog X.w) X.A (isTrue e X.env (eval e X.env)) (TP X pins σ Q) X.xe s
/-- a test whatever its 'whole' is (and, or) -/
def PW (X : Cx) (e : Expr) (t : TT) : Prop :=
  ∀ (whole : Sem Value) (pins : List (Addr × Obj)) (s : Shared) (σ : St) (H : Hp) (Q : Bool → Hp → Prop), Inv X pins σ H s → t σ H Q → wpAny (model X.prog X.w) X.A (isTrue e X.env whole) (TP X pins σ Q) X.xe s
theorem PW.pt {X : Cx} {e : Expr} {t : TT} (h : PW X e t) : PT X e t := h _
/-- an argument list (no star), from the left -/
def PA (X : Cx) (es : List Expr) (t : TA) : Prop :=
  ∀ (pos : Pos) (pins : List (Addr × Obj)) (s : Shared) (σ : St) (H : Hp) (Q : List V → Hp → Prop), Inv X pins σ H s → t σ H Q → wpAny (model X.prog X.w) X.A (spliced (backTo pos (starEach es X.env))) (AP X pins σ Q) X.xe s
def PS (X : Cx) (st : Stmt) (t : TS) : Prop :=
  ∀ (pins : List (Addr × Obj)) (s : Shared) (σ : St) (H : Hp) (D : Ends), Inv X pins σ H s → t D σ H → wpAny (model X.prog X.w) X.A (exec st X.env) (SP X pins D) X.xe s
def PSs (X : Cx) (st : List Stmt) (t : TS) : Prop :=
  ∀ (pins : List (Addr × Obj)) (s : Shared) (σ : St) (H : Hp) (D : Ends), Inv X pins σ H s → t D σ H → wpAny (model X.prog X.w) X.A (execs st X.env) (SP X pins D) X.xe s
/-- weaken the end -/
theorem thn {α : Type} {t : Sem α} {Q Q' : α → Shared → Prop} {M : Model} {A : Around} {E : Value → Shared → Prop} {s : Shared} (h : wpAny M A t Q E s) (hQ : ∀ a s, Q a s → Q' a s) : wpAny M A t Q' E s := wpAny_mono h hQ fun _ _ x => x
end L2

namespace L2
open PySem PySem.Spec PyProof.Rows
section
variable {X : Cx}

/-! ### names and constants -/
def tVar (i : Nat) : TE := fun σ H Q => ∃ v, σ[i]? = some (some v) ∧ Q v H
def tC (v : V) : TE := fun _ H Q => Q v H
theorem pe_var {i : Nat} {x : Str} {pos : Pos} (hN : X.N[i]? = some x) (hv : Vis X.env.scope x) (hd : (x == ("__debug__" : Str)) = false := by decide) (hcd : (x == ("__classdict__" : Str)) = false := by decide) : PE X (.Name x pos) (tVar i) := by
  intro pins s σ H Q I h
  obtain ⟨v, e, h⟩ := h
  obtain ⟨m, hn, hl⟩ := I.loc
  obtain ⟨u, r, l⟩ := hl i x v hN e hv
  have fin : EP X pins σ Q u s := ⟨v, H, I, r, h⟩
  rcases l with ⟨hk, hm⟩ | ⟨hk, c, hc, hcell⟩
  · exact wpAny_Name (wpAny_loadName_local I.ok.kind hk hn hm fin) hd
  · rcases hk with hk | hk
    · exact wpAny_Name (wpAny_loadName_cell I.ok.kind hk hc hcell fin) hd
    · exact wpAny_Name (wpAny_loadName_free I.ok.kind hk hc hcell fin hcd) hd
theorem pe_int {i j pos} : PE X (.Constant (.int i) j pos) (tC (.int i)) := fun _ _ _ H _ I h => wpAny_Constant_int ⟨.int i, H, I.tok _, ⟨_, rfl⟩, h⟩
theorem pe_bl {b j pos} : PE X (.Constant (.bool b) j pos) (tC (.bl b)) := fun _ _ _ H _ I h => Constant_bool ⟨.bl b, H, I, rfl, h⟩
theorem pe_non {j pos} : PE X (.Constant .none j pos) (tC .non) := fun _ _ _ H _ I h => Constant_none ⟨.non, H, I, rfl, h⟩
theorem pe_str {x j pos} : PE X (.Constant (.str x) j pos) (tC (.str x)) := fun _ _ _ H _ I h => Calls.Constant_str ⟨.str x, H, I.tok _, ⟨_, rfl⟩, h⟩

/-- a global name of the def -/
def Gl (X : Cx) (x : Str) : Prop := X.env.kindOf x = some .globalImplicit
theorem ld_glob {E : Value → Shared → Prop} {pins : List (Addr × Obj)} {s : Shared} {σ : St} {H : Hp} {x : Str} {u : Value} {pos : Pos} {Q : Value → Shared → Prop} (I : Inv X pins σ H s) (hg : Gl X x) (hm : X.mg x = some u) (h : Q u s)
    (hd : (x == ("__debug__" : Str)) = false := by decide) : wpAny (model X.prog X.w) X.A (eval (.Name x pos) X.env) Q E s :=
  Calls.Name_function_global I.ok.kind hg (Calls.loadGlobal_global (by rw [I.ok.glob]; exact I.mod.glob.keeps I.bk) hm h) hd
theorem ld_blt {E : Value → Shared → Prop} {pins : List (Addr × Obj)} {s : Shared} {σ : St} {H : Hp} {x : Str} {u : Value} {pos : Pos} {Q : Value → Shared → Prop} (I : Inv X pins σ H s) (hg : Gl X x) (hm : X.mg x = none) (hv : bootBuiltins x = some u) (h : Q u s)
    (hn : x ≠ "__name__" := by decide) (hd : (x == ("__debug__" : Str)) = false := by decide) : wpAny (model X.prog X.w) X.A (eval (.Name x pos) X.env) Q E s := by
  obtain ⟨mb, h1, h2⟩ := I.mod.blt
  exact Calls.Name_function_global I.ok.kind hg (Calls.loadGlobal_builtin (by rw [I.ok.glob]; exact I.mod.glob.keeps I.bk) hm (by rw [I.ok.blt]; exact h1.keeps I.bk) ((h2 x hn).trans hv) h) hd
/-- a module's constant, a class, a function, as a value -/
theorem pe_glob {x : Str} {v : V} {u : Value} {pos : Pos} (hg : Gl X x) (hm : X.mg x = some u) (r : RelV v u) (hd : (x == ("__debug__" : Str)) = false := by decide) : PE X (.Name x pos) (tC v) :=
  fun _ _ _ H _ I h => ld_glob I hg hm ⟨v, H, I, r, h⟩ hd
theorem pe_bltn {x : Str} {v : V} {u : Value} {pos : Pos} (hg : Gl X x) (hm : X.mg x = none) (hv : bootBuiltins x = some u) (r : RelV v u) (hn : x ≠ "__name__" := by decide) (hd : (x == ("__debug__" : Str)) = false := by decide) : PE X (.Name x pos) (tC v) :=
  fun _ _ _ H _ I h => ld_blt I hg hm hv ⟨v, H, I, r, h⟩ hn hd

/-! ### arithmetic -/
variable {a b : Expr} {ta tb : TE} {pos : Pos}
/-! ### comparisons -/
def PC (X : Cx) (op : CmpOp) (a b : Expr) (t : TE) : Prop :=
  ∀ (pins : List (Addr × Obj)) (s : Shared) (σ : St) (H : Hp) (Q : VK), Inv X pins σ H s → t σ H Q →
    wpAny (model X.prog X.w) X.A (eval a X.env) (fun v s₁ => wpAny (model X.prog X.w) X.A (eval b X.env) (fun u s₂ => wpAny (model X.prog X.w) X.A (compareOp op v u) (EP X pins σ Q) X.xe s₂) X.xe s₁) X.xe s
/-- a comparison as a value, as a test -/
def tB (t : TE) : TT := fun σ H Q => t σ H fun x H1 => ∃ c, x = .bl c ∧ Q c H1
/-- an expression whose value is a bool, as a test -/
theorem pt_val {e : Expr} {t : TE} (h : PE X e t) (he : ∀ whole, isTrue e X.env whole = (do let v ← whole; standAt e.pos; holding [v] (truthy v)) := by intro _; rfl) : PT X e (tB t) := by
  intro pins s σ H Q I hw
  refine isTrue_plain (thn (h pins s σ H _ I hw) fun v s1 ⟨x, H1, I1, r1, q1⟩ => ?_) (he _)
  obtain ⟨d, rfl, q⟩ := q1
  cases r1
  exact wpAny_truthy_bool ⟨H1, I1, q⟩

/-! ### and, or, not -/
variable {tA tB' : TT} {rest : List Expr}
def tAnd (t u : TT) : TT := fun σ H Q => t σ H fun c H1 => if c = true then u σ H1 Q else Q false H1
def tOr (t u : TT) : TT := fun σ H Q => t σ H fun c H1 => if c = true then Q true H1 else u σ H1 Q
def tNot (t : TT) : TT := fun σ H Q => t σ H fun c H1 => Q (!c) H1
theorem pw_and1 (ha : PT X a tA) : PW X (.BoolOp .And [a] pos) tA := by
  intro wh pins s σ H Q I h
  refine isTrue_and (thn (ha pins s σ H Q I h) fun c s1 e => ?_)
  cases c with
  | true => exact isTrue_and_nil e
  | false => exact e
theorem pw_or1 (ha : PT X a tA) : PW X (.BoolOp .Or [a] pos) tA := by
  intro wh pins s σ H Q I h
  refine isTrue_or (thn (ha pins s σ H Q I h) fun c s1 e => ?_)
  cases c with
  | false => exact isTrue_or_nil e
  | true => exact e
theorem pw_and (ha : PT X a tA) (hb : PW X (.BoolOp .And (b :: rest) pos) tB') : PW X (.BoolOp .And (a :: b :: rest) pos) (tAnd tA tB') := by
  intro wh pins s σ H Q I h
  refine isTrue_and (thn (ha pins s σ H _ I h) fun c s1 ⟨H1, I1, q1⟩ => ?_)
  cases c with
  | true => exact hb wh pins s1 σ H1 Q I1 q1
  | false => exact ⟨H1, I1, q1⟩
theorem pw_or (ha : PT X a tA) (hb : PW X (.BoolOp .Or (b :: rest) pos) tB') : PW X (.BoolOp .Or (a :: b :: rest) pos) (tOr tA tB') := by
  intro wh pins s σ H Q I h
  refine isTrue_or (thn (ha pins s σ H _ I h) fun c s1 ⟨H1, I1, q1⟩ => ?_)
  cases c with
  | true => exact ⟨H1, I1, q1⟩
  | false => exact hb wh pins s1 σ H1 Q I1 q1
theorem pt_not (ha : PT X a tA) : PT X (.UnaryOp .Not a pos) (tNot tA) := by
  intro pins s σ H Q I h
  exact isTrue_not (ha pins s σ H (fun c H1 => Q (!c) H1) I h)
/-- .. as values (bools) -/
def tAndV (ta tb : TE) : TE := fun σ H Q => ta σ H fun x H1 => ∃ c, x = .bl c ∧ if c = true then tb σ H1 Q else Q (.bl false) H1
def tNotV (ta : TE) : TE := fun σ H Q => ta σ H fun x H1 => ∃ c, x = .bl c ∧ Q (.bl (!c)) H1
theorem pe_one {op} {t : TE} (h : PE X a t) : PE X (.BoolOp op [a] pos) t := fun pins s σ H Q I hw => BoolOp_one (h pins s σ H Q I hw)
theorem pe_and (ha : PE X a ta) (hb : PE X (.BoolOp .And (b :: rest) pos) tb) : PE X (.BoolOp .And (a :: b :: rest) pos) (tAndV ta tb) := by
  intro pins s σ H Q I h
  refine BoolOp_and (thn (ha pins s σ H _ I h) fun v s1 ⟨x, H1, I1, r1, q1⟩ => ?_)
  obtain ⟨c, rfl, q1⟩ := q1
  cases r1
  refine wpAny_truthy_bool ?_
  cases c with
  | true => exact hb pins s1 σ H1 Q I1 q1
  | false => exact ⟨.bl false, H1, I1, rfl, q1⟩
theorem pe_not (ha : PE X a ta) : PE X (.UnaryOp .Not a pos) (tNotV ta) := by
  intro pins s σ H Q I h
  refine UnaryOp_ (thn (ha pins s σ H _ I h) fun v s1 ⟨x, H1, I1, r1, q1⟩ => ?_)
  obtain ⟨c, rfl, q1⟩ := q1
  cases r1
  exact not_of (wpAny_truthy_bool ⟨.bl (!c), H1, I1, rfl, q1⟩)
/-- a if t else b -/
def tIf (t : TT) (ta tb : TE) : TE := fun σ H Q => t σ H fun c H1 => if c = true then ta σ H1 Q else tb σ H1 Q
theorem pe_ifExp {c : Expr} (hc : PT X c tA) (ha : PE X a ta) (hb : PE X b tb) : PE X (.IfExp c a b pos) (tIf tA ta tb) := by
  intro pins s σ H Q I h
  refine wpAny_IfExp (thn (hc pins s σ H _ I h) fun d s1 ⟨H1, I1, q1⟩ => ?_)
  cases d with
  | true => exact ha pins s1 σ H1 Q I1 q1
  | false => exact hb pins s1 σ H1 Q I1 q1
end
end L2

namespace L2
open PySem PySem.Spec PyProof.Rows

/-! ### a list, a tuple that is read: tracked, frozen, or an object of the module -/
def SqL (K : PySem.W.Frag) (H : Hp) (a : Addr) (xs : List V) : Prop :=
  Rd H a (.lst xs) ∨
    ∃ (o : Obj) (its : Array Value) (n : Nat), K.lookup a = some o ∧ o.cls = .type "list" ∧ o.dict = none ∧ o.data = .seq its n ∧ its.size ≤ sizeLine ∧ Vals xs its.toList
def SqT (K : PySem.W.Frag) (H : Hp) (a : Addr) (xs : List V) : Prop :=
  Rd H a (.tup xs) ∨
    ∃ (o : Obj) (its : Array Value) (n : Nat), K.lookup a = some o ∧ o.cls = .type "tuple" ∧ o.data = .seq its n ∧ its.size ≤ sizeLine ∧ Vals xs its.toList
def absV : Value → Option V
  | .none => some .non
  | .bool b => some (.bl b)
  | .int i _ => some (.int i)
  | .str x _ => some (.str x)
  | .bytes b _ => some (.byt b)
  | .float b _ => some (.flt b)
  | .ref a => some (.ref a)
  | .type n => some (.ty n)
  | _ => none
theorem RelV.abs {x : V} {u : Value} (r : RelV x u) : absV u = some x := by
  cases x with
  | non => cases r; rfl
  | bl _ => cases r; rfl
  | int _ => obtain ⟨t, rfl⟩ := r; rfl
  | str _ => obtain ⟨t, rfl⟩ := r; rfl
  | byt _ => obtain ⟨t, rfl⟩ := r; rfl
  | flt _ => obtain ⟨t, rfl⟩ := r; rfl
  | ref _ => cases r; rfl
  | ty _ => cases r; rfl
theorem RelV.inj {x y : V} {u : Value} (r : RelV x u) (q : RelV y u) : x = y := Option.some.inj (r.abs.symm.trans q.abs)
theorem Vals.inj : ∀ {xs ys : List V} {us : List Value}, Vals xs us → Vals ys us → xs = ys
  | _, _, _, .nil, .nil => rfl
  | _, _, _, .cons r t, .cons r' t' => by rw [r.inj r', Vals.inj t t']
section
variable {X : Cx} {pins : List (Addr × Obj)} {σ : St} {H : Hp} {s : Shared} {a : Addr} {xs ys : List V}
theorem SqL.of {K : PySem.W.Frag} (h : H a = some (.lst xs)) : SqL K H a xs := .inl (.inl h)
theorem SqT.of {K : PySem.W.Frag} (h : H a = some (.tup xs)) : SqT K H a xs := .inl (.inl h)
theorem Inv.list (I : Inv X pins σ H s) (h : SqL X.K H a xs) : ∃ its : List Value, Vals xs its ∧ PlainL s.heap a its.toArray ∧ xs.length ≤ sizeLine := by
  rcases h with h | ⟨o, its, n, hk, hc, hd, hs, hz, r⟩
  · obtain ⟨z, its, n, r, e⟩ := h.ok I.hok
    exact ⟨its, r, ⟨_, n, e, rfl, rfl, rfl⟩, z⟩
  · refine ⟨its.toList, r, ⟨o, n, I.kIn a o hk, hc, hd, by simpa using hs⟩, ?_⟩
    have e := r.length
    simp only [Array.length_toList] at e
    omega
theorem Inv.tuple (I : Inv X pins σ H s) (h : SqT X.K H a xs) : ∃ its : List Value, Vals xs its ∧ IsTup s.heap a its.toArray ∧ xs.length ≤ sizeLine := by
  rcases h with h | ⟨o, its, n, hk, hc, hs, hz, r⟩
  · obtain ⟨z, its, r, p⟩ := h.ok I.hok
    exact ⟨its, r, p, z⟩
  · refine ⟨its.toList, r, ⟨o, I.kIn a o hk, hc, n, by simpa using hs⟩, ?_⟩
    have e := r.length
    simp only [Array.length_toList] at e
    omega
theorem Inv.list_inj (I : Inv X pins σ H s) (h : SqL X.K H a xs) (h' : SqL X.K H a ys) : xs = ys := by
  obtain ⟨its, r, ⟨o, n, e, _, _, d⟩, _⟩ := I.list h
  obtain ⟨its', r', ⟨o', n', e', _, _, d'⟩, _⟩ := I.list h'
  rw [e] at e'; cases e'
  rw [d] at d'
  injection d' with d1 _
  have : its = its' := by simpa using congrArg Array.toList d1
  subst this
  exact r.inj r'
theorem Inv.tuple_inj (I : Inv X pins σ H s) (h : SqT X.K H a xs) (h' : SqT X.K H a ys) : xs = ys := by
  obtain ⟨its, r, ⟨o, e, _, n, d⟩, _⟩ := I.tuple h
  obtain ⟨its', r', ⟨o', e', _, n', d'⟩, _⟩ := I.tuple h'
  rw [e] at e'; cases e'
  rw [d] at d'
  injection d' with d1 _
  have : its = its' := by simpa using congrArg Array.toList d1
  subst this
  exact r.inj r'
end

/-! ### another wish about exceptions -/
abbrev Cx.wish (X : Cx) (E : Value → Shared → Prop) : Cx := { X with xe := E }
/-- no exception leaves -/
abbrev Cx.nox (X : Cx) : Cx := X.wish fun _ _ => False
theorem Cx.Ok.wish {X : Cx} (ok : X.Ok) (E : Value → Shared → Prop) : (X.wish E).Ok :=
  ⟨ok.mod, ok.kind, ok.glob, ok.blt, ok.above, ok.inj, ok.has, ok.cab, ok.hd, ok.frames, ok.stk, ok.exf, ok.bs, ok.bsz, ok.noex, ok.exfs, ok.funs, ok.frf⟩
theorem Cx.Ok.unwish {X : Cx} {E : Value → Shared → Prop} (ok : (X.wish E).Ok) : X.Ok :=
  ⟨ok.mod, ok.kind, ok.glob, ok.blt, ok.above, ok.inj, ok.has, ok.cab, ok.hd, ok.frames, ok.stk, ok.exf, ok.bs, ok.bsz, ok.noex, ok.exfs, ok.funs, ok.frf⟩
section
variable {X : Cx} {pins : List (Addr × Obj)} {σ : St} {H : Hp} {s : Shared} {E : Value → Shared → Prop}
theorem Inv.wish (I : Inv X pins σ H s) (E : Value → Shared → Prop) : Inv (X.wish E) pins σ H s := ⟨I.ok.wish E, I.os, I.bare, I.base, I.loc, I.cell, I.free, I.freeC, I.pin, I.hok, I.len⟩
theorem Inv.unwish (I : Inv (X.wish E) pins σ H s) : Inv X pins σ H s := ⟨I.ok.unwish, I.os, I.bare, I.base, I.loc, I.cell, I.free, I.freeC, I.pin, I.hok, I.len⟩
theorem SP.unwish {D : Ends} {f : Flow} {s' : Shared} (h : SP (X.wish E) pins D f s') : SP X pins D f s' := by
  cases f with
  | next => obtain ⟨σ', H', I, q⟩ := h; exact ⟨σ', H', I.unwish, q⟩
  | brk => obtain ⟨σ', H', I, q⟩ := h; exact ⟨σ', H', I.unwish, q⟩
  | cont => obtain ⟨σ', H', I, q⟩ := h; exact ⟨σ', H', I.unwish, q⟩
  | ret u => obtain ⟨v, σ', H', I, r, q⟩ := h; exact ⟨v, σ', H', I.unwish, r, q⟩
theorem PE.nox {e : Expr} {t : TE} (h : PE X.nox e t) : PE X e t := fun pins s σ H Q I hw =>
  wpAny_mono (h pins s σ H Q (I.wish _) hw) (fun _ _ ⟨v, H', I', r, q⟩ => ⟨v, H', I'.unwish, r, q⟩) fun _ _ z => False.elim z
theorem PT.nox {e : Expr} {t : TT} (h : PT X.nox e t) : PT X e t := fun pins s σ H Q I hw =>
  wpAny_mono (h pins s σ H Q (I.wish _) hw) (fun _ _ ⟨H', I', q⟩ => ⟨H', I'.unwish, q⟩) fun _ _ z => False.elim z
theorem PSs.nox {st : List Stmt} {t : TS} (h : PSs X.nox st t) : PSs X st t := fun pins s σ H D I hw =>
  wpAny_mono (h pins s σ H D (I.wish _) hw) (fun _ _ q => q.unwish) fun _ _ z => False.elim z
end

/-! ### blocks and small statements -/
section
variable {X : Cx} {st : Stmt} {rest : List Stmt} {t u : TS} {e : Expr} {te : TE} {pos : Pos}
def tNext : TS := fun D σ H => D.nx σ H
def tSeq (t u : TS) : TS := fun D σ H => t { D with nx := u D } σ H
theorem pss_nil : PSs X [] tNext := fun _ _ σ H _ I h => wpAny_execs_nil ⟨σ, H, I, h⟩
theorem pss_cons (h1 : PS X st t) (h2 : PSs X rest u) : PSs X (st :: rest) (tSeq t u) := by
  intro pins s σ H D I h
  refine wpAny_execs_cons (thn (h1 pins s σ H { D with nx := u D } I h) fun f s1 q => ?_)
  cases f with
  | next =>
    obtain ⟨σ', H', I', q⟩ := q
    exact h2 pins s1 σ' H' D I' q
  | ret v => exact q
  | brk => exact q
  | cont => exact q
theorem pss_one (h1 : PS X st t) : PSs X [st] t := by
  intro pins s σ H D I h
  refine wpAny_execs_cons (thn (h1 pins s σ H D I h) fun f s1 q => ?_)
  cases f with
  | next => exact wpAny_execs_nil q
  | ret v => exact q
  | brk => exact q
  | cont => exact q
/-- in a def's body nothing is shown -/
theorem Inv.quiet {pins : List (Addr × Obj)} {σ : St} {H : Hp} {s : Shared} (I : Inv X pins σ H s) : interactive X.env = false := by simp [interactive, I.ok.kind]
/-- an expression whose value is dropped -/
def tDrop (te : TE) : TS := fun D σ H => te σ H fun _ H1 => D.nx σ H1
theorem ps_expr (he : PE X e te) (hs : swapsWith e none pos.line X.env = pure false := by rfl) : PS X (.Expr e pos) (tDrop te) := by
  intro pins s σ H D I h
  exact wpAny_Expr_any (thn (he pins s σ H _ I h) fun v s1 ⟨x, H1, I1, r1, q1⟩ => ⟨σ, H1, I1, q1⟩) I.quiet hs
def tRet (te : TE) : TS := fun D σ H => te σ H D.rt
theorem ps_ret (he : PE X e te) : PS X (.Return (some e) pos) (tRet te) := by
  intro pins s σ H D I h
  exact wpAny_Return_some (thn (he pins s σ H _ I h) fun v s1 ⟨x, H1, I1, r1, q1⟩ => ⟨x, σ, H1, I1, r1, q1⟩)
def tIfS (c : TT) (t u : TS) : TS := fun D σ H => c σ H fun b H1 => if b = true then t D σ H1 else u D σ H1
theorem ps_if {c : Expr} {a b : List Stmt} {tc : TT} (hc : PT X c tc) (ha : PSs X a t) (hb : PSs X b u) : PS X (.If c a b pos) (tIfS tc t u) := by
  intro pins s σ H D I h
  refine wpAny_If (thn (hc pins s σ H _ I h) fun d s1 ⟨H1, I1, q1⟩ => ?_)
  cases d with
  | true => exact ha pins s1 σ H1 D I1 q1
  | false => exact hb pins s1 σ H1 D I1 q1
end

/-! ### targets -/
abbrev TG := V → St → Hp → (St → Hp → Prop) → Prop
abbrev TGs := List V → St → Hp → (St → Hp → Prop) → Prop
def PG (X : Cx) (target : Expr) (t : TG) : Prop :=
  ∀ (pins : List (Addr × Obj)) (s : Shared) (σ : St) (H : Hp) (v : V) (u : Value) (Q : St → Hp → Prop), Inv X pins σ H s → RelV v u → t v σ H Q →
    wpAny (model X.prog X.w) X.A (assign target X.env u) (fun _ s' => ∃ σ' H', Inv X pins σ' H' s' ∧ Q σ' H') X.xe s
/-- several targets, one after another -/
def PGs (X : Cx) (ts : List Expr) (t : TGs) : Prop :=
  ∀ (pins : List (Addr × Obj)) (s : Shared) (σ : St) (H : Hp) (vs : List V) (us : List Value) (Q : St → Hp → Prop), Inv X pins σ H s → Vals vs us → t vs σ H Q →
    wpAny (model X.prog X.w) X.A (assignInOrder ((assignEach ts X.env).map (·.2)) us) (fun _ s' => ∃ σ' H', Inv X pins σ' H' s' ∧ Q σ' H') X.xe s
/-- o[i] = v, by values -/
abbrev TSet := V → V → V → Hp → (Hp → Prop) → Prop
def PSet (X : Cx) (t : TSet) : Prop :=
  ∀ (pins : List (Addr × Obj)) (s : Shared) (σ : St) (H : Hp) (o i v : V) (ov iv u : Value) (Q : Hp → Prop), Inv X pins σ H s → RelV o ov → RelV i iv → RelV v u → t o i v H Q →
    wpAny (model X.prog X.w) X.A (setItem ov iv u) (fun _ s' => ∃ H', Inv X pins σ H' s' ∧ Q H') X.xe s
section
variable {X : Cx} {pos : Pos}
def gName (i : Nat) : TG := fun v σ H Q => Q (σ.set i (some v)) H
theorem pg_name {i : Nat} {x : Str} (hN : X.N.Nodup) (hi : X.N[i]? = some x) (hx : Loc X.env.scope x) (hf : X.fn x = true ∨ X.env.scope.names.lookup x = some .local := by first | exact .inl rfl | exact .inr rfl | assumption) : PG X (.Name x pos) (gName i) := by
  intro pins s σ H v u Q I r h
  exact wpAny_assign_Name (store_ok I hN hi hx r (fun s' I' => ⟨_, H, I', h⟩) hf)
def gNil : TGs := fun vs σ H Q => vs = [] ∧ Q σ H
def gCons (t : TG) (u : TGs) : TGs := fun vs σ H Q => ∃ v r, vs = v :: r ∧ t v σ H fun σ' H' => u r σ' H' Q
theorem pgs_nil : PGs X [] gNil := by
  intro pins s σ H vs us Q I r h
  obtain ⟨e, h⟩ := h
  subst e
  cases r
  exact assignInOrder_nil ⟨σ, H, I, h⟩
theorem pgs_cons {e : Expr} {es : List Expr} {t : TG} {u : TGs} (h1 : PG X e t) (h2 : PGs X es u)
    (hs : (assignEach (e :: es) X.env).map (·.2) = assign e X.env :: (assignEach es X.env).map (·.2) := by rfl) : PGs X (e :: es) (gCons t u) := by
  intro pins s σ H vs us Q I r h
  obtain ⟨v, vr, e1, h⟩ := h
  subst e1
  cases r with
  | cons r rr =>
    rw [hs]
    refine assignInOrder_cons (thn (h1 pins s σ H _ _ _ I r h) fun _ s1 ⟨σ1, H1, I1, q1⟩ => ?_)
    exact h2 pins s1 σ1 H1 _ _ Q I1 rr q1
/-- (a, b, ..) = a tuple of that length -/
def gTup (K : PySem.W.Frag) (n : Nat) (t : TGs) : TG := fun v σ H Q => ∃ a xs, v = .ref a ∧ SqT K H a xs ∧ xs.length = n ∧ t xs σ H Q
theorem pg_tup {es : List Expr} {k : Nat} {t : TGs} {n : Nat} (hc : X.calm = true) (h : PGs X es t)
    (hn : (assignEach es X.env).length = n := by rfl) (hst : (assignEach es X.env).findIdx? (·.1) = none := by rfl) : PG X (.Tuple es k pos) (gTup X.K n t) := by
  intro pins s σ H v u Q I r hw
  obtain ⟨a, xs, e1, hq, hl, hw⟩ := hw
  subst e1
  cases r
  obtain ⟨its, rv, ht, hz⟩ := I.tuple hq
  refine assign_Tuple_tuple (I.ok.hd hc) ht (by simp [hn, ← hl, rv.length]) hst fun h' hx => ?_
  have I1 : Inv X pins σ H { s with heap := h' } := I.kept (t' := s.toks) fun b o e => hx b o (Nat.ne_of_lt (Heap.lt_size e)) e
  exact h pins _ σ H xs _ Q I1 (by simpa using rv) hw
/-- o[i] = .. -/
def gSub (to ti : TE) (t : TSet) : TG := fun v σ H Q => to σ H fun o H1 => ti σ H1 fun i H2 => t o i v H2 fun H3 => Q σ H3
theorem pg_sub {o i : Expr} {to ti : TE} {t : TSet} (ho : PE X o to) (hi : PE X i ti) (hs : PSet X t)
    (ha : ∀ v, assign (.Subscript o i pos) X.env v = (do
      let ov ← holding [v] (eval o X.env)
      let iv ← holding [v, ov] (eval i X.env)
      standAt pos
      holding [v, ov, iv] (setItem ov iv v)
      release [v, ov, iv] []) := by intro _; rfl) : PG X (.Subscript o i pos) (gSub to ti t) := by
  intro pins s σ H v u Q I r h
  rw [ha]
  refine wpAny_bind (wpAny_holding (thn (ho pins s σ H _ I h) fun ov s1 ⟨x, H1, I1, r1, q1⟩ => ?_))
  refine wpAny_bind (wpAny_holding (thn (hi pins s1 σ H1 _ I1 q1) fun iv s2 ⟨y, H2, I2, r2, q2⟩ => ?_))
  refine wpAny_bind (wpAny_standAt (wpAny_bind (wpAny_holding (thn (hs pins s2 σ H2 x y v ov iv u _ I2 r1 r2 r q2) fun _ s3 ⟨H3, I3, q3⟩ => ?_))))
  exact wpAny_release ⟨σ, H3, I3, q3⟩
/-- target = value -/
def tAsg (te : TE) (g : TG) : TS := fun D σ H => te σ H fun x H1 => g x σ H1 D.nx
theorem ps_asg {tg e : Expr} {te : TE} {g : TG} (he : PE X e te) (hg : PG X tg g) (hs : swapsWithSole [tg] e pos.line X.env = pure false := by rfl) (hw : swappedStores [tg] e X.env = pure none := by rfl)
    (h1 : (assignEach [tg] X.env).map (·.2) = [assign tg X.env] := by rfl) : PS X (.Assign [tg] e pos) (tAsg te g) := by
  intro pins s σ H D I h
  refine wpAny_Assign_stores (thn (he pins s σ H _ I h) fun v s1 ⟨x, H1, I1, r1, q1⟩ => ?_) hs hw
  rw [h1]
  exact thn (hg pins s1 σ H1 x v _ I1 r1 q1) fun _ s2 q => q
/-- name = value -/
theorem ps_set {i : Nat} {x : Str} {e : Expr} {te : TE} {pos' : Pos} (hN : X.N.Nodup) (hi : X.N[i]? = some x) (hx : Loc X.env.scope x) (he : PE X e te) (hs : swapsWith e (some (.Name x pos')) pos.line X.env = pure false := by rfl) (hf : X.fn x = true ∨ X.env.scope.names.lookup x = some .local := by first | exact .inl rfl | exact .inr rfl | assumption) :
    PS X (.Assign [.Name x pos'] e pos) (tAsg te (gName i)) := by
  intro pins s σ H D I h
  refine wpAny_Assign_Name (thn (he pins s σ H _ I h) fun v s1 ⟨y, H1, I1, r1, q1⟩ => ?_) hs
  exact store_ok I1 hN hi hx r1 (fun s2 I2 => ⟨_, H1, I2, q1⟩) hf
end

/-! ### while -/
section
variable {X : Cx} {pos : Pos}
/-- the invariant W with its measure -/
def tWhile (c : TT) (tb : TS) : TS := fun D σ H => ∃ W : Nat → St → Hp → Prop, (∃ m, W m σ H) ∧ ∀ m σ H, W m σ H →
  c σ H fun b H1 => if b = true then ∃ N : St → Hp → Prop, (∀ σ' H', N σ' H' → ∃ m', m' < m ∧ W m' σ' H') ∧ tb { D with nx := N, ct := N, bk := D.nx } σ H1 else D.nx σ H1
theorem ps_while {c : Expr} {body : List Stmt} {tc : TT} {tb : TS} (hp : PassesOwn (model X.prog X.w) X.A X.env X.xe) (hc : PT X c tc) (hb : PSs X body tb) : PS X (.While c body [] pos) (tWhile tc tb) := by
  intro pins s σ H D I h
  obtain ⟨W, ⟨m0, w0⟩, turn⟩ := h
  refine wpAny_While (codeAny_whileLoop (fun n s' => ∃ σ' H', Inv X pins σ' H' s' ∧ W n σ' H') ?_ m0 ⟨σ, H, I, w0⟩)
  rintro n s1 ⟨σ1, H1, I1, w1⟩
  refine wpAny_passesOwn hp (thn (hc pins s1 σ1 H1 _ I1 (turn n σ1 H1 w1)) fun b s2 ⟨H2, I2, q2⟩ => ?_)
  cases b with
  | true =>
    obtain ⟨N, hN, q2⟩ := q2
    rw [if_pos rfl]
    refine wpAny_passesOwn hp (thn (hb pins s2 σ1 H2 _ I2 q2) fun f s3 q3 => ?_)
    cases f with
    | next =>
      obtain ⟨σ3, H3, I3, n3⟩ := q3
      obtain ⟨m', hm, w3⟩ := hN σ3 H3 n3
      exact ⟨m', hm, σ3, H3, I3, w3⟩
    | cont =>
      obtain ⟨σ3, H3, I3, n3⟩ := q3
      obtain ⟨m', hm, w3⟩ := hN σ3 H3 n3
      exact ⟨m', hm, σ3, H3, I3, w3⟩
    | brk => exact q3
    | ret v => exact q3
  | false =>
    rw [if_neg Bool.false_ne_true]
    exact wpAny_execs_nil ⟨σ1, H2, I2, q2⟩
end

/-! ### what a loop or a comprehension walks -/
/-- at turn i: it yields x (the heap may grow), or it stops -/
structure It where
  go : Nat → Hp → Prop
  yld : Nat → Hp → V → Hp → Prop
  stop : Nat → Hp → Prop
/-- the iterator's own objects may turn: they are not the frame's, not pinned, younger than the entry (or a comprehension's own) -/
def FpOk (X : Cx) (pins : List (Addr × Obj)) (H : Hp) (b : Addr) : Prop :=
  H b = none ∧ b ≠ X.env.locals ∧ b ∉ X.fs ∧ (b ∈ X.ex ∨ X.s₀.heap.objs.size ≤ b) ∧ (∀ x c, X.env.cells.lookup x = some c → c ≠ b) ∧ ∀ p ∈ X.pn ++ pins, p.1 ≠ b
theorem Inv.fpOk {X : Cx} {pins : List (Addr × Obj)} {σ : St} {H H' : Hp} {s : Shared} {b : Addr} (I : Inv X pins σ H s) (hb : s.heap.objs.size ≤ b) (hn : H' b = none) : FpOk X pins H' b := by
  refine ⟨hn, Nat.ne_of_gt (Nat.lt_of_lt_of_le I.lt hb), I.nofs hb, .inr (Nat.le_trans I.sz hb), fun x c e z => ?_, fun p hp z => ?_⟩
  · obtain ⟨v, q⟩ := I.cell x c e
    exact absurd (Nat.lt_of_lt_of_le q.lt (by rw [z]; exact hb)) (Nat.lt_irrefl _)
  · exact absurd (Nat.lt_of_lt_of_le (Heap.lt_size (I.pin p hp).1) (by rw [z]; exact hb)) (Nat.lt_irrefl _)
structure Turn (P : Program) (w : World) (K : PySem.W.Frag) (tg : Expr) (J : It) (fp : List Addr) (it : Addr) (tn : Nat → Heap → Prop) : Prop where
  mem : it ∈ fp
  obj : ∀ i h, tn i h → ∀ b ∈ fp, ∃ o, h.get? b = some o ∧ ∀ v, o.data ≠ .cell v
  keep : ∀ i h h', tn i h → (∀ b ∈ fp, ∀ o, h.get? b = some o → h'.get? b = some o) → tn i h'
  item : ∀ (X : Cx), X.prog = P → X.w = w → X.K = K → X.calm = true → ∀ (i : Nat) (pins : List (Addr × Obj)) (s : Shared) (σ : St) (H : Hp) (E : Value → Shared → Prop), Inv X pins σ H s → (∀ b ∈ fp, FpOk X pins H b) → tn i s.heap → J.go i H →
    wpAny (model P w) X.A (pyNext (.ref it)) (fun r s1 => ∃ u, r = some u ∧
      wpAny (model P w) X.A (letOwnedTupleGo tg (.ref it) u) (fun _ s2 => ∃ x H', Inv X pins σ H' s2 ∧ RelV x u ∧ J.yld i H x H' ∧ tn (i + 1) s2.heap ∧ ∀ b ∈ fp, H' b = none) E s1) E s
  done : ∀ (X : Cx), X.prog = P → X.w = w → X.K = K → X.calm = true → ∀ (i : Nat) (pins : List (Addr × Obj)) (s : Shared) (σ : St) (H : Hp) (E : Value → Shared → Prop), Inv X pins σ H s → (∀ b ∈ fp, FpOk X pins H b) → tn i s.heap → J.stop i H →
    wpAny (model P w) X.A (pyNext (.ref it)) (fun r s1 => r = none ∧ Inv X pins σ H s1) E s
  self : ∀ (A : Around) (i : Nat) (s : Shared) (Q : Value → Shared → Prop) (E : Value → Shared → Prop), tn i s.heap → Q (.ref it) s → wpAny (model P w) A (pyIter (.ref it)) Q E s
abbrev TI := St → Hp → (It → Hp → Prop) → Prop
/-- an iterator has come -/
def PIE (X : Cx) (pins : List (Addr × Obj)) (σ : St) (tg : Expr) (R : It → Hp → Prop) (itv : Value) (s2 : Shared) : Prop :=
  ∃ (it : Addr) (fp : List Addr) (tn : Nat → Heap → Prop) (J : It) (H' : Hp), itv = .ref it ∧ Inv X pins σ H' s2 ∧ Turn X.prog X.w X.K tg J fp it tn ∧ tn 0 s2.heap ∧ (∀ b ∈ fp, FpOk X pins H' b) ∧ R J H'
def PI (X : Cx) (tg iter : Expr) (wi : TI) : Prop :=
  ∀ (pins : List (Addr × Obj)) (s : Shared) (σ : St) (H : Hp) (R : It → Hp → Prop), Inv X pins σ H s → wi σ H R →
    wpAny (model X.prog X.w) X.A (eval iter X.env) (fun v s1 => wpAny (model X.prog X.w) X.A (pyIter v) (PIE X pins σ tg R) X.xe s1) X.xe s

/-- the step ahead of the store is nothing for an iterator that keeps no tuple -/
theorem go_of {M : Model} {A : Around} {E : Value → Shared → Prop} {s : Shared} {tg : Expr} {it : Addr} {u : Value} {o : Obj} {n : String} {vs : Array Value} {Q : Unit → Shared → Prop} (ho : s.heap.get? it = some o) (hc : o.cls = .type n) (hd : o.data = .fields vs)
    (hn : ["enumerate", "zip", "dict_itemiterator", "dict_reverseitemiterator", "odict_iterator", "itertools.zip_longest", "itertools.pairwise"].contains n = false) (hQ : Q () s) : wpAny M A (letOwnedTupleGo tg (.ref it) u) Q E s := by
  unfold letOwnedTupleGo
  cases tg <;> first
    | exact wpAny_pure hQ
    | (cases u <;> first
        | exact wpAny_pure hQ
        | (refine wpAny_bind (wpAny_load ho ?_)
           rw [hc, hd]
           show wpAny M A (if (["enumerate", "zip", "dict_itemiterator", "dict_reverseitemiterator", "odict_iterator", "itertools.zip_longest", "itertools.pairwise"].contains n && vs[0]? == some (rawInt _)) = true then _ else _) Q E s
           rw [if_neg (by intro h; rw [hn, Bool.false_and] at h; cases h)]
           exact wpAny_pure hQ))

/-- the list at a, as it stands at each turn (a loop may append to it) -/
def Itl (K : PySem.W.Frag) (a : Addr) : It :=
  ⟨fun i H => ∃ xs x, SqL K H a xs ∧ xs[i]? = some x, fun i H x H' => H' = H ∧ ∀ xs, SqL K H a xs → xs[i]? = some x, fun i H => ∃ xs, SqL K H a xs ∧ xs.length ≤ i⟩
def Itt (K : PySem.W.Frag) (a : Addr) : It :=
  ⟨fun i H => ∃ xs x, SqT K H a xs ∧ xs[i]? = some x, fun i H x H' => H' = H ∧ ∀ xs, SqT K H a xs → xs[i]? = some x, fun i H => ∃ xs, SqT K H a xs ∧ xs.length ≤ i⟩
/-- lo, lo + 1, .. (n of them) -/
def Itr (lo : Int) (n : Nat) : It := ⟨fun i _ => i < n, fun i H x H' => H' = H ∧ x = .int (lo + i), fun i _ => n ≤ i⟩
theorem turn_list {P : Program} {w : World} {K : PySem.W.Frag} {tg : Expr} (a it : Addr) : Turn P w K tg (Itl K a) [it] it (fun i h => h.IsListIter it a i) where
  mem := by simp
  obj := fun i h st b hb => by
    have e : b = it := by simpa using hb
    subst e
    obtain ⟨o, e, c, d⟩ := st
    exact ⟨o, e, fun v z => by rw [d] at z; cases z⟩
  keep := fun i h h' st k => st.at fun o e => k it (by simp) o e
  item := by
    intro X hP hw hK hc i pins s σ H E I hf st hg
    subst hP hw hK
    obtain ⟨xs, x, hq, hx⟩ := hg
    obtain ⟨its, rv, p, hz⟩ := I.list hq
    obtain ⟨u, hu, ru⟩ := rv.get hx
    obtain ⟨f0, f1, f2, f3, f4, f5⟩ := hf it (by simp)
    refine wpAny_pyNext_list_item st p.isList (x := u) (by simpa using hu) fun h' st' sb => ?_
    have I1 : Inv X pins σ H { s with heap := h' } := I.turned (t' := s.toks) (fun b o hb e => (sb.2 b hb).trans e) f0 f1 f3 f4 f5
    obtain ⟨o, e, c, d⟩ := id st'
    exact ⟨u, rfl, go_of (s := { s with heap := h' }) e c d (by decide) ⟨x, H, I1, ru, ⟨rfl, fun ys hy => by rw [I.list_inj hy hq]; exact hx⟩, st', fun b hb => (hf b hb).1⟩⟩
  done := by
    intro X hP hw hK hc i pins s σ H E I hf st hg
    subst hP hw hK
    obtain ⟨xs, hq, hx⟩ := hg
    obtain ⟨its, rv, p, hz⟩ := I.list hq
    obtain ⟨f0, f1, f2, f3, f4, f5⟩ := hf it (by simp)
    have hl := rv.length
    exact wpAny_pyNext_list_end (I.ok.hd hc) st p.isList (by simp; omega) fun h' eb => ⟨rfl, I.turned (t' := s.toks) (fun b o hb e => eb b o hb e) f0 f1 f3 f4 f5⟩
  self := fun _ _ _ _ _ st h => wpAny_pyIter_listiter st h
theorem turn_tuple {P : Program} {w : World} {K : PySem.W.Frag} {tg : Expr} (a it : Addr) : Turn P w K tg (Itt K a) [it] it (fun i h => h.IsTupleIter it a i) where
  mem := by simp
  obj := fun i h st b hb => by
    have e : b = it := by simpa using hb
    subst e
    obtain ⟨o, e, c, d⟩ := st
    exact ⟨o, e, fun v z => by rw [d] at z; cases z⟩
  keep := fun i h h' st k => st.at fun o e => k it (by simp) o e
  item := by
    intro X hP hw hK hc i pins s σ H E I hf st hg
    subst hP hw hK
    obtain ⟨xs, x, hq, hx⟩ := hg
    obtain ⟨its, rv, p, hz⟩ := I.tuple hq
    obtain ⟨u, hu, ru⟩ := rv.get hx
    obtain ⟨f0, f1, f2, f3, f4, f5⟩ := hf it (by simp)
    refine wpAny_pyNext_tuple_item st (show s.heap.IsTuple a its.toArray from p) (x := u) (by simpa using hu) fun h' st' sb => ?_
    have I1 : Inv X pins σ H { s with heap := h' } := I.turned (t' := s.toks) (fun b o hb e => (sb.2 b hb).trans e) f0 f1 f3 f4 f5
    obtain ⟨o, e, c, d⟩ := id st'
    exact ⟨u, rfl, go_of (s := { s with heap := h' }) e c d (by decide) ⟨x, H, I1, ru, ⟨rfl, fun ys hy => by rw [I.tuple_inj hy hq]; exact hx⟩, st', fun b hb => (hf b hb).1⟩⟩
  done := by
    intro X hP hw hK hc i pins s σ H E I hf st hg
    subst hP hw hK
    obtain ⟨xs, hq, hx⟩ := hg
    obtain ⟨its, rv, p, hz⟩ := I.tuple hq
    obtain ⟨f0, f1, f2, f3, f4, f5⟩ := hf it (by simp)
    have hl := rv.length
    exact wpAny_pyNext_tuple_end (I.ok.hd hc) st (show s.heap.IsTuple a its.toArray from p) (by simp; omega) fun h' eb => ⟨rfl, I.turned (t' := s.toks) (fun b o hb e => eb b o hb e) f0 f1 f3 f4 f5⟩
  self := fun _ _ _ _ _ st h => wpAny_pyIter_tupleiter st h
theorem turn_range {P : Program} {w : World} {K : PySem.W.Frag} {tg : Expr} (it : Addr) (lo : Int) (n : Nat) : Turn P w K tg (Itr lo n) [it] it (fun i h => IsRangeIter h it (lo + (i : Nat) * 1) ((n : Int) - (i : Nat)) 1) where
  mem := by simp
  obj := fun i h st b hb => by
    have e : b = it := by simpa using hb
    subst e
    exact ⟨_, st, fun v z => by
      have z' : Data.fields _ = Data.cell v := z
      cases z'⟩
  keep := fun i h h' st k => k it (by simp) _ st
  item := by
    intro X hP hw hK hc i pins s σ H E I hf st hg
    subst hP hw hK
    obtain ⟨f0, f1, f2, f3, f4, f5⟩ := hf it (by simp)
    have W := Walks.range (prog := X.prog) (w := X.w) (I.ok.hd hc) it lo 1 n
    refine W.item i s _ _ hg st fun v h' tk hv st' kk => ?_
    obtain ⟨t, rfl⟩ := hv
    have I1 : Inv X pins σ H { s with heap := h', toks := tk } := I.turned (fun b o hb e => kk b o (by simpa using hb) e) f0 f1 f3 f4 f5
    refine ⟨_, rfl, go_of (s := { s with heap := h', toks := tk }) (n := "range_iterator") st' rfl rfl (by decide) ⟨.int (lo + i), H, I1, ⟨t, ?_⟩, ⟨rfl, rfl⟩, st', fun b hb => (hf b hb).1⟩⟩
    rw [Int.mul_one]
  done := by
    intro X hP hw hK hc i pins s σ H E I hf st hg
    subst hP hw hK
    obtain ⟨f0, f1, f2, f3, f4, f5⟩ := hf it (by simp)
    exact wpAny_pyNext_range_end (I.ok.hd hc) st (by have : n ≤ i := hg; omega) fun h' eb => ⟨rfl, I.turned (t' := s.toks) (fun b o hb e => eb b o hb e) f0 f1 f3 f4 f5⟩
  self := fun _ _ _ _ _ st h => wpAny_pyIter_rangeiter st h
end L2

namespace L2
open PySem PySem.Spec PyProof.Rows
section
variable {X : Cx} {tg : Expr}
def iList (K : PySem.W.Frag) (tl : TE) : TI := fun σ H R => tl σ H fun x H1 => ∃ a, x = .ref a ∧ (∃ xs, SqL K H1 a xs) ∧ R (Itl K a) H1
def iTup (K : PySem.W.Frag) (tl : TE) : TI := fun σ H R => tl σ H fun x H1 => ∃ a, x = .ref a ∧ (∃ xs, SqT K H1 a xs) ∧ R (Itt K a) H1
theorem pi_list {l : Expr} {tl : TE} (hl : PE X l tl) : PI X tg l (iList X.K tl) := by
  intro pins s σ H R I h
  refine thn (hl pins s σ H _ I h) fun v s1 ⟨x, H1, I1, r1, q1⟩ => ?_
  obtain ⟨a, e, ⟨xs, hq⟩, q⟩ := q1
  subst e
  cases r1
  obtain ⟨its, rv, p, hz⟩ := I1.list hq
  refine wpAny_pyIter_list p.isList ?_
  refine ⟨s1.heap.objs.size, [s1.heap.objs.size], _, _, H1, rfl, I1.kept (t' := s1.toks) fun b o e => Heap.get?_push_of_some _ e, turn_list a _, ⟨_, Heap.get?_push_size _ rfl, rfl, rfl⟩, fun b hb => ?_, q⟩
  have e : b = s1.heap.objs.size := by simpa using hb
  subst e
  exact I1.fpOk (Nat.le_refl _) (I1.hok.fresh (Nat.le_refl _))
theorem pi_tup {l : Expr} {tl : TE} (hl : PE X l tl) : PI X tg l (iTup X.K tl) := by
  intro pins s σ H R I h
  refine thn (hl pins s σ H _ I h) fun v s1 ⟨x, H1, I1, r1, q1⟩ => ?_
  obtain ⟨a, e, ⟨xs, hq⟩, q⟩ := q1
  subst e
  cases r1
  obtain ⟨its, rv, p, hz⟩ := I1.tuple hq
  refine wpAny_pyIter_tuple (show s1.heap.IsTuple a its.toArray from p) ?_
  refine ⟨s1.heap.objs.size, [s1.heap.objs.size], _, _, H1, rfl, I1.kept (t' := s1.toks) fun b o e => Heap.get?_push_of_some _ e, turn_tuple a _, ⟨_, Heap.get?_push_size _ rfl, rfl, rfl⟩, fun b hb => ?_, q⟩
  have e : b = s1.heap.objs.size := by simpa using hb
  subst e
  exact I1.fpOk (Nat.le_refl _) (I1.hok.fresh (Nat.le_refl _))
/-- a range object just made, walked -/
theorem range_it {pins : List (Addr × Obj)} {σ : St} {H : Hp} {s : Shared} {R : It → Hp → Prop} {E : Value → Shared → Prop} {lo hi : Int} {t u v : Tok} {tk : Nat} (I : Inv X pins σ H s) (h1 : -(2 ^ 62) ≤ lo) (h2 : lo < 2 ^ 62) (h3 : -(2 ^ 62) ≤ hi) (h4 : hi < 2 ^ 62)
    (q : R (Itr lo (hi - lo).toNat) H) : wpAny (model X.prog X.w) X.A (pyIter (.ref s.heap.objs.size)) (PIE X pins σ tg R) E { s with heap := s.heap.push { cls := .type "range", data := .fields #[.int lo t, .int hi u, .int 1 v] }, toks := tk } := by
  refine wpAny_pyIter_range (IsRange.new ..) (small_one h1 h2 h3 h4) ?_
  have I1 : Inv X pins σ H { s with heap := s.heap.push { cls := .type "range", data := .fields #[.int lo t, .int hi u, .int 1 v] }, toks := tk } := I.kept fun b o e => Heap.get?_push_of_some _ e
  refine ⟨(s.heap.push { cls := .type "range", data := .fields #[.int lo t, .int hi u, .int 1 v] }).objs.size, [(s.heap.push { cls := .type "range", data := .fields #[.int lo t, .int hi u, .int 1 v] }).objs.size], _, _, H, rfl,
    I1.kept (t' := tk) fun b o e => Heap.get?_push_of_some _ e, turn_range _ lo (hi - lo).toNat, ?_, fun b hb => ?_, q⟩
  · have e1 : lo + ((0 : Nat) : Int) * 1 = lo := by simp
    have e2 : (((hi - lo).toNat : Nat) : Int) - ((0 : Nat) : Int) = Builtin.Range.rangeSize lo hi 1 := by rw [rangeSize_one]; split <;> omega
    show IsRangeIter _ _ (lo + ((0 : Nat) : Int) * 1) ((((hi - lo).toNat : Nat) : Int) - ((0 : Nat) : Int)) 1
    rw [e1, e2]
    exact Heap.get?_push_size _ rfl
  · have e : b = (s.heap.push { cls := .type "range", data := .fields #[.int lo t, .int hi u, .int 1 v] }).objs.size := by simpa using hb
    subst e
    exact I1.fpOk (Nat.le_refl _) (I1.hok.fresh (Nat.le_refl _))
def iRng1 (ta : TA) : TI := fun σ H R => ta σ H fun vs H1 => ∃ j : Int, vs = [.int j] ∧ -(2 ^ 62) ≤ j ∧ j < 2 ^ 62 ∧ R (Itr 0 j.toNat) H1
theorem pi_range1 {a : Expr} {ta : TA} {p pos : Pos} (hg : Gl X "range") (hm : X.mg "range" = none) (ha : PA X [a] ta) (hs : starEach [a] X.env = [(false, eval a X.env)] := by rfl) : PI X tg (.Call (.Name "range" p) [a] [] pos) (iRng1 ta) := by
  intro pins s σ H R I h
  refine Call_ (ld_blt I hg hm boot_range (PyProof.Rows.callWith_type1 (thn (ha pos pins s σ H _ I h) fun us s1 ⟨vs, H1, I1, r1, q1⟩ => ?_) hs rfl))
  obtain ⟨j, e, q1, q2, q⟩ := q1
  subst e
  cases r1 with
  | cons r rr =>
    cases rr
    obtain ⟨t, rfl⟩ := r
    exact call_range_1 (range_it I1 (by omega) (by omega) q1 q2 (by simpa using q))
/-! ### for -/
/-- W: the invariant by the turn and a measure; N: what the body is to reach -/
def tFor (wi : TI) (g : TG) (tb : TS) : TS := fun D σ H => wi σ H fun J H1 => ∃ W : Nat → Nat → St → Hp → Prop, (∃ m, W 0 m σ H1) ∧ ∀ i m σ H, W i m σ H →
  (J.stop i H ∧ D.nx σ H) ∨ (J.go i H ∧ ∃ N : St → Hp → Prop, (∀ σ' H', N σ' H' → ∃ m', m' < m ∧ W (i + 1) m' σ' H') ∧ ∀ x H', J.yld i H x H' → g x σ H' fun σ2 H2 => tb { D with nx := N, ct := N, bk := D.nx } σ2 H2)
/-- the records at fp as they stand -/
def pinsAt (fp : List Addr) (h : Heap) : List (Addr × Obj) := fp.filterMap fun b => (h.get? b).map fun o => (b, o)
theorem mem_pinsAt {fp : List Addr} {h : Heap} {b : Addr} {o : Obj} (hb : b ∈ fp) (e : h.get? b = some o) : (b, o) ∈ pinsAt fp h := List.mem_filterMap.mpr ⟨b, hb, by rw [e]; rfl⟩
theorem of_pinsAt {fp : List Addr} {h : Heap} {p : Addr × Obj} (hp : p ∈ pinsAt fp h) : p.1 ∈ fp ∧ h.get? p.1 = some p.2 := by
  obtain ⟨b, hb, e⟩ := List.mem_filterMap.mp hp
  cases q : h.get? b with
  | none => rw [q] at e; cases e
  | some o =>
    rw [q] at e
    have e' : (b, o) = p := Option.some.inj e
    subst e'
    exact ⟨hb, q⟩
theorem Inv.pinned {pins : List (Addr × Obj)} {σ : St} {H : Hp} {s : Shared} {fp : List Addr} (I : Inv X pins σ H s) (hf : ∀ b ∈ fp, FpOk X pins H b) (ho : ∀ b ∈ fp, ∃ o, s.heap.get? b = some o ∧ ∀ v, o.data ≠ .cell v) : Inv X (pins ++ pinsAt fp s.heap) σ H s :=
  I.pins_of fun p hp => (List.mem_append.mp hp).elim (fun z => I.pin p (List.mem_append_right _ z)) fun z => by
    obtain ⟨hb, e⟩ := of_pinsAt z
    obtain ⟨f0, f1, f2, _⟩ := hf p.1 hb
    obtain ⟨o, e', d⟩ := ho p.1 hb
    rw [e] at e'; cases e'
    exact ⟨e, f0, f1, f2, d⟩
theorem Inv.unpinned {pins pl : List (Addr × Obj)} {σ : St} {H : Hp} {s : Shared} (I : Inv X (pins ++ pl) σ H s) : Inv X pins σ H s := I.pins_of fun p hp => I.pin p (List.mem_append_right _ (List.mem_append_left _ hp))
theorem ps_for {iter : Expr} {body : List Stmt} {wi : TI} {g : TG} {tb : TS} {pos : Pos} (hp : PassesOwn (model X.prog X.w) X.A X.env X.xe) (hc : X.calm = true) (hi : PI X tg iter wi) (hg : PG X tg g) (hb : PSs X body tb)
    (hs : ∀ x, foldedSetIterable iter X.env x = pure x := by intro _; rfl) : PS X (.For tg iter body [] pos) (tFor wi g tb) := by
  intro pins s σ H D I h
  refine wpAny_For (thn (hi pins s σ H _ I h) fun v s1 h1 => thn h1 fun itv s2 h2 => ?_) hs
  obtain ⟨it, fp, tn, J, H2, e, I2, T, st2, f2, W, ⟨m0, w0⟩, turn⟩ := h2
  subst e
  -- what stays true of the iterator's objects through the loop
  have stat : ∀ {H' : Hp}, (∀ b ∈ fp, H' b = none) → ∀ b ∈ fp, FpOk X pins H' b := fun hn b hb => ⟨hn b hb, (f2 b hb).2⟩
  refine codeAny_forLoop_any (fun n s' => ∃ i σ' H', Inv X pins σ' H' s' ∧ tn i s'.heap ∧ (∀ b ∈ fp, H' b = none) ∧ W i n σ' H') ?_ m0 ⟨0, σ, H2, I2, st2, fun b hb => (f2 b hb).1, w0⟩
  rintro n s3 ⟨i, σ3, H3, I3, st3, fr3, w3⟩
  rcases turn i n σ3 H3 w3 with ⟨stop, qn⟩ | ⟨go, N, hN, step⟩
  · refine wpAny_passesOwn hp (thn (T.done X rfl rfl rfl hc i pins s3 σ3 H3 X.xe I3 (stat fr3) st3 stop) fun r s4 ⟨hr, I4⟩ => ?_)
    subst hr
    exact wpAny_execs_nil ⟨σ3, H3, I4, qn⟩
  · refine wpAny_passesOwn hp (thn (T.item X rfl rfl rfl hc i pins s3 σ3 H3 X.xe I3 (stat fr3) st3 go) fun r s4 ⟨u, hr, h4⟩ => ?_)
    subst hr
    refine wpAny_passesOwn hp (thn h4 fun _ s5 ⟨x, H5, I5, r5, y5, st5, fr5⟩ => ?_)
    have I5' := I5.pinned (stat fr5) (T.obj _ _ st5)
    refine wpAny_passesOwn hp (thn (hg _ s5 σ3 H5 x u _ I5' r5 (step x H5 y5)) fun _ s6 ⟨σ6, H6, I6, q6⟩ => ?_)
    refine wpAny_passesOwn hp (thn (hb _ s6 σ6 H6 _ I6 q6) fun f s7 q7 => ?_)
    have again : ∀ {σ7 : St} {H7 : Hp}, Inv X (pins ++ pinsAt fp s5.heap) σ7 H7 s7 → N σ7 H7 → ∃ m, m < n ∧ ∃ i σ' H', Inv X pins σ' H' s7 ∧ tn i s7.heap ∧ (∀ b ∈ fp, H' b = none) ∧ W i m σ' H' := fun {σ7 H7} I7 n7 => by
      obtain ⟨m', hm, w7⟩ := hN σ7 H7 n7
      refine ⟨m', hm, i + 1, σ7, H7, I7.unpinned, T.keep _ _ _ st5 fun b hb o e => (I7.pin (b, o) (List.mem_append_right _ (List.mem_append_right _ (mem_pinsAt hb e)))).1, fun b hb => ?_, w7⟩
      obtain ⟨o, e, d⟩ := T.obj _ _ st5 b hb
      exact (I7.pin (b, o) (List.mem_append_right _ (List.mem_append_right _ (mem_pinsAt hb e)))).2.1
    cases f with
    | next => obtain ⟨σ7, H7, I7, n7⟩ := q7; exact again I7 n7
    | cont => obtain ⟨σ7, H7, I7, n7⟩ := q7; exact again I7 n7
    | brk => obtain ⟨σ7, H7, I7, q7⟩ := q7; exact ⟨σ7, H7, I7.unpinned, q7⟩
    | ret v => obtain ⟨x7, σ7, H7, I7, r7, q7⟩ := q7; exact ⟨x7, σ7, H7, I7.unpinned, r7, q7⟩
end

/-! ### the forms one uses -/
/-- over a list that the body leaves as it is -/
theorem for_list {K : PySem.W.Frag} {a : Addr} {xs : List V} {g : TG} {tb : TS} {D : Ends} {σ : St} {H : Hp} (Pv : Nat → St → Hp → Prop) (h0 : Pv 0 σ H) (hl : ∀ i σ H, i ≤ xs.length → Pv i σ H → SqL K H a xs)
    (hs : ∀ i x σ H, xs[i]? = some x → Pv i σ H → g x σ H fun σ2 H2 => tb { D with nx := Pv (i + 1), ct := Pv (i + 1), bk := D.nx } σ2 H2) (hd : ∀ σ H, Pv xs.length σ H → D.nx σ H) :
    ∃ W : Nat → Nat → St → Hp → Prop, (∃ m, W 0 m σ H) ∧ ∀ i m σ H, W i m σ H →
      ((Itl K a).stop i H ∧ D.nx σ H) ∨ ((Itl K a).go i H ∧ ∃ N : St → Hp → Prop, (∀ σ' H', N σ' H' → ∃ m', m' < m ∧ W (i + 1) m' σ' H') ∧ ∀ x H', (Itl K a).yld i H x H' → g x σ H' fun σ2 H2 => tb { D with nx := N, ct := N, bk := D.nx } σ2 H2) := by
  refine ⟨fun i m σ H => m = xs.length - i ∧ i ≤ xs.length ∧ Pv i σ H, ⟨xs.length, by simp, Nat.zero_le _, h0⟩, ?_⟩
  rintro i m σ H ⟨rfl, hi, p⟩
  have q := hl i σ H hi p
  by_cases hlt : i < xs.length
  · refine .inr ⟨⟨xs, xs[i], q, by simp [hlt]⟩, Pv (i + 1), fun σ' H' p' => ⟨xs.length - (i + 1), by omega, rfl, hlt, p'⟩, fun x H' y => ?_⟩
    obtain ⟨e, y⟩ := y
    subst e
    exact hs i x σ _ (y xs q) p
  · have e : i = xs.length := by omega
    subst e
    exact .inl ⟨⟨xs, q, Nat.le_refl _⟩, hd σ H p⟩
theorem for_range {lo : Int} {n : Nat} {g : TG} {tb : TS} {D : Ends} {σ : St} {H : Hp} (Pv : Nat → St → Hp → Prop) (h0 : Pv 0 σ H)
    (hs : ∀ i σ H, i < n → Pv i σ H → g (.int (lo + i)) σ H fun σ2 H2 => tb { D with nx := Pv (i + 1), ct := Pv (i + 1), bk := D.nx } σ2 H2) (hd : ∀ σ H, Pv n σ H → D.nx σ H) :
    ∃ W : Nat → Nat → St → Hp → Prop, (∃ m, W 0 m σ H) ∧ ∀ i m σ H, W i m σ H →
      ((Itr lo n).stop i H ∧ D.nx σ H) ∨ ((Itr lo n).go i H ∧ ∃ N : St → Hp → Prop, (∀ σ' H', N σ' H' → ∃ m', m' < m ∧ W (i + 1) m' σ' H') ∧ ∀ x H', (Itr lo n).yld i H x H' → g x σ H' fun σ2 H2 => tb { D with nx := N, ct := N, bk := D.nx } σ2 H2) := by
  refine ⟨fun i m σ H => m = n - i ∧ i ≤ n ∧ Pv i σ H, ⟨n, by simp, Nat.zero_le _, h0⟩, ?_⟩
  rintro i m σ H ⟨rfl, hi, p⟩
  by_cases hlt : i < n
  · refine .inr ⟨hlt, Pv (i + 1), fun σ' H' p' => ⟨n - (i + 1), by omega, rfl, hlt, p'⟩, fun x H' y => ?_⟩
    obtain ⟨e, y⟩ := y
    subst e y
    exact hs i σ _ hlt p
  · have e : i = n := by omega
    subst e
    exact .inl ⟨Nat.le_refl _, hd σ H p⟩
end L2

namespace L2
open PySem PySem.Spec PyProof.Rows

abbrev R2 := V → V → Hp → VK → Prop
/-- a two-place operation on values: f is binaryOp op, inplaceOp op or compareOp op -/
def OpR (X : Cx) (f : Value → Value → Sem Value) (r : R2) : Prop :=
  ∀ (pins : List (Addr × Obj)) (s : Shared) (σ : St) (H : Hp) (x y : V) (v u : Value) (Q : VK), Inv X pins σ H s → RelV x v → RelV y u → r x y H Q →
    wpAny (model X.prog X.w) X.A (f v u) (EP X pins σ Q) X.xe s
/-- a one-place operation -/
def UnR (X : Cx) (f : Value → Sem Value) (r : V → Hp → VK → Prop) : Prop :=
  ∀ (pins : List (Addr × Obj)) (s : Shared) (σ : St) (H : Hp) (x : V) (v : Value) (Q : VK), Inv X pins σ H s → RelV x v → r x H Q →
    wpAny (model X.prog X.w) X.A (f v) (EP X pins σ Q) X.xe s
/-- a call of a value that is known (a builtin, a type) with values -/
def CallR (X : Cx) (f : Value) (r : List V → Hp → VK → Prop) : Prop :=
  ∀ (pins : List (Addr × Obj)) (s : Shared) (σ : St) (H : Hp) (xs : List V) (us : List Value) (Q : VK), Inv X pins σ H s → Vals xs us → r xs H Q →
    wpAny (model X.prog X.w) X.A (call f us) (EP X pins σ Q) X.xe s
/-- a value's truth -/
def TruR (X : Cx) (r : V → Hp → (Bool → Hp → Prop) → Prop) : Prop :=
  ∀ (pins : List (Addr × Obj)) (s : Shared) (σ : St) (H : Hp) (x : V) (v : Value) (Q : Bool → Hp → Prop), Inv X pins σ H s → RelV x v → r x H Q →
    wpAny (model X.prog X.w) X.A (truthy v) (TP X pins σ Q) X.xe s

def tOp (r : R2) (ta tb : TE) : TE := fun σ H Q => ta σ H fun x H1 => tb σ H1 fun y H2 => r x y H2 Q
def tUn (r : V → Hp → VK → Prop) (ta : TE) : TE := fun σ H Q => ta σ H fun x H1 => r x H1 Q
/-- ints in, under C, and a value out -/
def rI (C : Int → Int → Prop) (g : Int → Int → V) : R2 := fun x y H Q => ∃ i j, x = .int i ∧ y = .int j ∧ C i j ∧ Q (g i j) H
def rI0 (g : Int → Int → V) : R2 := fun x y H Q => ∃ i j, x = .int i ∧ y = .int j ∧ Q (g i j) H
def rU (g : Int → V) : V → Hp → VK → Prop := fun x H Q => ∃ i, x = .int i ∧ Q (g i) H

section
variable {X : Cx} {a b c : Expr} {ta tb tc : TE} {pos : Pos}

theorem binT (ha : PE X a ta) (hb : PE X b tb) {pins : List (Addr × Obj)} {s : Shared} {σ : St} {H : Hp} {R : V → V → Hp → Prop} (I : Inv X pins σ H s)
    (h : ta σ H fun x H1 => tb σ H1 fun y H2 => R x y H2) {Q : Value → Shared → Prop} {f : Value → Value → Sem Value}
    (hf : ∀ v u s2 x y H2, Inv X pins σ H2 s2 → RelV x v → RelV y u → R x y H2 → wpAny (model X.prog X.w) X.A (f v u) Q X.xe s2) :
    wpAny (model X.prog X.w) X.A (eval a X.env) (fun v s₁ => wpAny (model X.prog X.w) X.A (eval b X.env) (fun u s₂ => wpAny (model X.prog X.w) X.A (f v u) Q X.xe s₂) X.xe s₁) X.xe s := by
  refine thn (ha pins s σ H _ I h) fun v s1 ⟨x, H1, I1, r1, q1⟩ => ?_
  refine thn (hb pins s1 σ H1 _ I1 q1) fun u s2 ⟨y, H2, I2, r2, q2⟩ => ?_
  exact hf v u s2 x y H2 I2 r1 r2 q2

theorem pe_op {op : Operator} {r : R2} (ho : OpR X (binaryOp op) r) (ha : PE X a ta) (hb : PE X b tb) : PE X (.BinOp a op b pos) (tOp r ta tb) := by
  intro pins s σ H Q I h
  exact wpAny_BinOp (binT ha hb I h fun v u s2 x y H2 I2 rx ry q => ho pins s2 σ H2 x y v u Q I2 rx ry q)
theorem pe_un {op : UnaryOp} {r : V → Hp → VK → Prop} (ho : UnR X (unaryOp op) r) (ha : PE X a ta) : PE X (.UnaryOp op a pos) (tUn r ta) := by
  intro pins s σ H Q I h
  exact UnaryOp_ (thn (ha pins s σ H _ I h) fun v s1 ⟨x, H1, I1, r1, q1⟩ => ho pins s1 σ H1 x v Q I1 r1 q1)
/-! ### ints -/
theorem opI {f : Value → Value → Sem Value} {C : Int → Int → Prop} {g : Int → Int → Int}
    (rule : ∀ (i j : Int) (t u : Tok) (s : Shared) (Q : Value → Shared → Prop) (E : Value → Shared → Prop), C i j → Q (.int (g i j) s.toks) { s with toks := s.toks + 1 } → wpAny (model X.prog X.w) X.A (f (.int i t) (.int j u)) Q E s) :
    OpR X f (rI C fun i j => .int (g i j)) := by
  intro pins s σ H x y v u Q I rx ry h
  obtain ⟨i, j, rfl, rfl, hc, q⟩ := h
  obtain ⟨t, rfl⟩ := rx
  obtain ⟨t', rfl⟩ := ry
  exact rule i j t t' s _ _ hc ⟨.int (g i j), H, I.tok _, ⟨_, rfl⟩, q⟩
theorem opI0 {f : Value → Value → Sem Value} {g : Int → Int → Int}
    (rule : ∀ (i j : Int) (t u : Tok) (s : Shared) (Q : Value → Shared → Prop) (E : Value → Shared → Prop), Q (.int (g i j) s.toks) { s with toks := s.toks + 1 } → wpAny (model X.prog X.w) X.A (f (.int i t) (.int j u)) Q E s) :
    OpR X f (rI0 fun i j => .int (g i j)) := by
  intro pins s σ H x y v u Q I rx ry h
  obtain ⟨i, j, rfl, rfl, q⟩ := h
  obtain ⟨t, rfl⟩ := rx
  obtain ⟨t', rfl⟩ := ry
  exact rule i j t t' s _ _ ⟨.int (g i j), H, I.tok _, ⟨_, rfl⟩, q⟩
theorem opB0 {f : Value → Value → Sem Value} {g : Int → Int → Bool}
    (rule : ∀ (i j : Int) (t u : Tok) (s : Shared) (Q : Value → Shared → Prop) (E : Value → Shared → Prop), Q (.bool (g i j)) s → wpAny (model X.prog X.w) X.A (f (.int i t) (.int j u)) Q E s) :
    OpR X f (rI0 fun i j => .bl (g i j)) := by
  intro pins s σ H x y v u Q I rx ry h
  obtain ⟨i, j, rfl, rfl, q⟩ := h
  obtain ⟨t, rfl⟩ := rx
  obtain ⟨t', rfl⟩ := ry
  exact rule i j t t' s _ _ ⟨.bl (g i j), H, I, rfl, q⟩

def CDiv (i j : Int) : Prop := 0 < j ∧ j < 1073741824
def CPow (i j : Int) : Prop := 0 ≤ j ∧ j ≤ 1000000 ∧ i.natAbs < 2 ^ 64
def CMul (i j : Int) : Prop := (-(2 ^ 64) < i ∧ i < 2 ^ 64) ∨ (-(2 ^ 64) < j ∧ j < 2 ^ 64)
theorem CMul.ok {i j : Int} (h : CMul i j) : IntMulOk i j := by
  rcases h with ⟨h1, h2⟩ | ⟨h1, h2⟩
  · exact .of_left (intBits_le_64 h1 h2)
  · exact .of_right (intBits_le_64 h1 h2)
theorem op_add : OpR X (binaryOp .Add) (rI0 fun i j => .int (i + j)) := opI0 fun _ _ _ _ _ _ _ q => add_int q
theorem op_sub : OpR X (binaryOp .Sub) (rI0 fun i j => .int (i - j)) := opI0 fun _ _ _ _ _ _ _ q => sub_int q
/-- // by a positive divisor -/
theorem op_fdiv : OpR X (binaryOp .FloorDiv) (rI CDiv fun i j => .int (i / j)) := opI fun i j _ _ _ _ _ hc q => by
  have h1 : (0 : Int) < j := hc.1
  have h2 : j < 1073741824 := hc.2
  exact floordiv_int (by omega) (by rw [Int.fdiv_eq_ediv_of_nonneg i (by omega)]; exact q) (.inl (PyProof.noPylong_small (by omega)))
/-- % by a positive divisor of any size -/
theorem op_mod : OpR X (binaryOp .Mod) (rI (fun _ j => 0 < j) fun i j => .int (i % j)) := opI fun i j _ _ _ _ _ hc q => by
  have h1 : (0 : Int) < j := hc
  exact mod_int' (by omega) (by rw [Int.fmod_eq_emod_of_nonneg i (by omega)]; exact q)
theorem op_pow : OpR X (binaryOp .Pow) (rI CPow fun i j => .int (i ^ j.toNat)) := opI fun _ _ _ _ _ _ _ hc q => pow_int_small hc.1 hc.2.1 hc.2.2 q
theorem unI {f : Value → Sem Value} {g : Int → Int}
    (rule : ∀ (i : Int) (t : Tok) (s : Shared) (Q : Value → Shared → Prop) (E : Value → Shared → Prop), Q (.int (g i) s.toks) { s with toks := s.toks + 1 } → wpAny (model X.prog X.w) X.A (f (.int i t)) Q E s) :
    UnR X f (rU fun i => .int (g i)) := by
  intro pins s σ H x v Q I rx h
  obtain ⟨i, rfl, q⟩ := h
  obtain ⟨t, rfl⟩ := rx
  exact rule i t s _ _ ⟨.int (g i), H, I.tok _, ⟨_, rfl⟩, q⟩
theorem un_neg : UnR X (unaryOp .USub) (rU fun i => .int (-i)) := unI fun _ _ _ _ _ q => neg_int q
/-! ### bools among ints: n += (a < b) -/
end

/-! ### comparisons -/
/-- the scalars that == tells apart as data does -/
def scal : V → V → Bool
  | .non, .non => true | .non, .int _ => true | .int _, .non => true | .non, .bl _ => true | .bl _, .non => true | .non, .str _ => true | .str _, .non => true
  | .int _, .int _ => true | .bl _, .bl _ => true | .str _, .str _ => true | .byt _, .byt _ => true
  | .int _, .str _ => true | .str _, .int _ => true | .bl _, .str _ => true | .str _, .bl _ => true
  | _, _ => false
def rEq : R2 := fun x y H Q => scal x y = true ∧ Q (.bl (decide (x = y))) H
def rNe : R2 := fun x y H Q => scal x y = true ∧ Q (.bl (!decide (x = y))) H

theorem dec_int {i j : Int} : decide (V.int i = V.int j) = (i == j) := by
  rw [Bool.eq_iff_iff]
  simp
theorem dec_bl {i j : Bool} : decide (V.bl i = V.bl j) = (i == j) := by
  rw [Bool.eq_iff_iff]
  simp
theorem dec_str {i j : Str} : decide (V.str i = V.str j) = (i == j) := by
  rw [Bool.eq_iff_iff]
  simp
theorem dec_byt {i j : Array UInt8} : decide (V.byt i = V.byt j) = (i.toList == j.toList) := by
  rw [Bool.eq_iff_iff]
  cases i
  cases j
  simp

section
variable {X : Cx} {a b c : Expr} {ta tb tc : TE} {pos : Pos}
theorem fin_bl {pins : List (Addr × Obj)} {σ : St} {H : Hp} {s : Shared} {Q : VK} {k k' : Bool} (I : Inv X pins σ H s) (q : Q (.bl k) H) (e : k = k') : EP X pins σ Q (.bool k') s := by
  subst e
  exact ⟨.bl k, H, I, rfl, q⟩
theorem op_eq : OpR X (compareOp .Eq) rEq := by
  intro pins s σ H x y v u Q I rx ry h
  obtain ⟨hs, q⟩ := h
  cases x with
  | non =>
    cases rx
    cases y with
    | non => cases ry; exact PySem.EqNone.eq_none_none (fin_bl I q (by simp))
    | bl j => cases ry; exact PySem.EqNone.eq_none_bool (fin_bl I q (by simp))
    | int j => obtain ⟨t', rfl⟩ := ry; exact PySem.EqNone.eq_none_int (fin_bl I q (by simp))
    | str j => obtain ⟨t', rfl⟩ := ry; exact PySem.EqNone.eq_none_str (fin_bl I q (by simp))
    | _ => exact absurd (show false = true from hs) Bool.false_ne_true
  | bl i =>
    cases rx
    cases y with
    | non => cases ry; exact PySem.EqNone.eq_bool_none (fin_bl I q (by simp))
    | bl j => cases ry; exact eq_bool (fin_bl I q dec_bl)
    | str j => obtain ⟨t', rfl⟩ := ry; exact PySem.EqMixed.eq_bool_str (fin_bl I q (by simp))
    | _ => exact absurd (show false = true from hs) Bool.false_ne_true
  | int i =>
    obtain ⟨t, rfl⟩ := rx
    cases y with
    | non => cases ry; exact PySem.EqNone.eq_int_none (fin_bl I q (by simp))
    | int j => obtain ⟨t', rfl⟩ := ry; exact eq_int (fin_bl I q dec_int)
    | str j => obtain ⟨t', rfl⟩ := ry; exact PySem.EqMixed.eq_int_str (fin_bl I q (by simp))
    | _ => exact absurd (show false = true from hs) Bool.false_ne_true
  | str i =>
    obtain ⟨t, rfl⟩ := rx
    cases y with
    | non => cases ry; exact PySem.EqNone.eq_str_none (fin_bl I q (by simp))
    | bl j => cases ry; exact PySem.EqMixed.eq_str_bool (fin_bl I q (by simp))
    | int j => obtain ⟨t', rfl⟩ := ry; exact PySem.EqMixed.eq_str_int (fin_bl I q (by simp))
    | str j => obtain ⟨t', rfl⟩ := ry; exact eq_str (fin_bl I q dec_str)
    | _ => exact absurd (show false = true from hs) Bool.false_ne_true
  | byt i =>
    obtain ⟨t, rfl⟩ := rx
    cases y with
    | byt j => obtain ⟨t', rfl⟩ := ry; exact PySem.W.eq_bytes (fin_bl I q dec_byt)
    | _ => exact absurd (show false = true from hs) Bool.false_ne_true
  | _ => cases y <;> exact absurd (show false = true from hs) Bool.false_ne_true
theorem op_ne : OpR X (compareOp .NotEq) rNe := by
  intro pins s σ H x y v u Q I rx ry h
  obtain ⟨hs, q⟩ := h
  cases x with
  | non =>
    cases rx
    cases y with
    | non => cases ry; exact PySem.EqNone.ne_none_none (fin_bl I q (by simp))
    | bl j => cases ry; exact PySem.EqNone.ne_none_bool (fin_bl I q (by simp))
    | int j => obtain ⟨t', rfl⟩ := ry; exact PySem.EqNone.ne_none_int (fin_bl I q (by simp))
    | str j => obtain ⟨t', rfl⟩ := ry; exact PySem.EqNone.ne_none_str (fin_bl I q (by simp))
    | _ => exact absurd (show false = true from hs) Bool.false_ne_true
  | bl i =>
    cases rx
    cases y with
    | non => cases ry; exact PySem.EqNone.ne_bool_none (fin_bl I q (by simp))
    | bl j => cases ry; exact ne_bool (fin_bl I q (congrArg not dec_bl))
    | str j => obtain ⟨t', rfl⟩ := ry; exact PySem.EqMixed.ne_bool_str (fin_bl I q (by simp))
    | _ => exact absurd (show false = true from hs) Bool.false_ne_true
  | int i =>
    obtain ⟨t, rfl⟩ := rx
    cases y with
    | non => cases ry; exact PySem.EqNone.ne_int_none (fin_bl I q (by simp))
    | int j => obtain ⟨t', rfl⟩ := ry; exact ne_int (fin_bl I q (congrArg not dec_int))
    | str j => obtain ⟨t', rfl⟩ := ry; exact PySem.EqMixed.ne_int_str (fin_bl I q (by simp))
    | _ => exact absurd (show false = true from hs) Bool.false_ne_true
  | str i =>
    obtain ⟨t, rfl⟩ := rx
    cases y with
    | non => cases ry; exact PySem.EqNone.ne_str_none (fin_bl I q (by simp))
    | bl j => cases ry; exact PySem.EqMixed.ne_str_bool (fin_bl I q (by simp))
    | int j => obtain ⟨t', rfl⟩ := ry; exact PySem.EqMixed.ne_str_int (fin_bl I q (by simp))
    | str j => obtain ⟨t', rfl⟩ := ry; exact ne_str (fin_bl I q (congrArg not dec_str))
    | _ => exact absurd (show false = true from hs) Bool.false_ne_true
  | byt i =>
    obtain ⟨t, rfl⟩ := rx
    cases y with
    | byt j => obtain ⟨t', rfl⟩ := ry; exact PySem.W.ne_bytes (fin_bl I q (congrArg not dec_byt))
    | _ => exact absurd (show false = true from hs) Bool.false_ne_true
  | _ => cases y <;> exact absurd (show false = true from hs) Bool.false_ne_true

theorem op_lt : OpR X (compareOp .Lt) (rI0 fun i j => .bl (decide (i < j))) := opB0 fun _ _ _ _ _ _ _ q => lt_int q
theorem op_le : OpR X (compareOp .LtE) (rI0 fun i j => .bl (decide (i ≤ j))) := opB0 fun _ _ _ _ _ _ _ q => le_int q
theorem op_gt : OpR X (compareOp .Gt) (rI0 fun i j => .bl (decide (j < i))) := opB0 fun _ _ _ _ _ _ _ q => gt_int q
/-- the one string within the other -/
theorem op_in_str : OpR X (compareOp .In) (fun x y H Q => ∃ i j, x = .str i ∧ y = .str j ∧ Q (.bl (!(Builtin.Str.occurrences j i 0 j.length 1).isEmpty)) H) := by
  intro pins s σ H x y v u Q I rx ry h
  obtain ⟨i, j, rfl, rfl, q⟩ := h
  obtain ⟨t, rfl⟩ := rx
  obtain ⟨t', rfl⟩ := ry
  exact in_str (fin_bl I q rfl)

/-- two rules for one operation: by cases -/
theorem OpR.or {f : Value → Value → Sem Value} {r r' : R2} (h : OpR X f r) (h' : OpR X f r') : OpR X f (fun x y H Q => r x y H Q ∨ r' x y H Q) := by
  intro pins s σ H x y v u Q I rx ry q
  rcases q with q | q
  · exact h pins s σ H x y v u Q I rx ry q
  · exact h' pins s σ H x y v u Q I rx ry q

theorem nomark (b : Expr) {op : CmpOp} (h : op ≠ .In := by decide) (h2 : op ≠ .NotIn := by decide) : behindInMarks op b = false := by
  have e1 : (op == CmpOp.In) = false := by cases op <;> first | rfl | exact absurd rfl h
  have e2 : (op == CmpOp.NotIn) = false := by cases op <;> first | rfl | exact absurd rfl h2
  cases b <;> simp [behindInMarks, e1, e2]
/-- a comparison as a value; hm: nomark b, or (for in, not in) by with_unfolding_all rfl -/
theorem pe_cmpR {op : CmpOp} {r : R2} (ho : OpR X (compareOp op) r) (ha : PE X a ta) (hb : PE X b tb) (hm : behindInMarks op b = false) : PE X (.Compare a [op] [b] pos) (tOp r ta tb) := by
  intro pins s σ H Q I h
  exact wpAny_Compare1 (binT ha hb I h fun v u s2 x y H2 I2 rx ry q => ho pins s2 σ H2 x y v u Q I2 rx ry q) hm
/-- a reading of a value as a test -/
def tTest (t : TE) : TT := fun σ H Q => t σ H fun x H' => ∃ k, x = .bl k ∧ Q k H'
theorem pt_cmpR {op : CmpOp} {r : R2} (ho : OpR X (compareOp op) r) (ha : PE X a ta) (hb : PE X b tb) (hm : behindInMarks op b = false) : PT X (.Compare a [op] [b] pos) (tTest (tOp r ta tb)) := by
  intro pins s σ H Q I h
  refine wpAny_isTrue_Compare1 (thn (ha pins s σ H _ I h) fun v s1 ⟨x, H1, I1, r1, q1⟩ => thn (hb pins s1 σ H1 _ I1 q1) fun u s2 ⟨y, H2, I2, r2, q2⟩ =>
    thn (ho pins s2 σ H2 x y v u _ I2 r1 r2 q2) fun c s3 ⟨z, H3, I3, r3, k, e, q3⟩ => ?_) hm
  subst e
  cases r3
  exact wpAny_truthy_bool ⟨H3, I3, q3⟩
/-- a op1 b op2 c -/
def tChain (r r' : R2) (ta tb tc : TE) : TE := fun σ H Q => ta σ H fun x H1 => tb σ H1 fun y H2 => r x y H2 fun z H3 => ∃ k, z = .bl k ∧
  (if k = true then tc σ H3 fun w' H4 => r' y w' H4 Q else Q (.bl false) H3)
theorem pe_chain {op op' : CmpOp} {r r' : R2} (ho : OpR X (compareOp op) r) (ho' : OpR X (compareOp op') r') (ha : PE X a ta) (hb : PE X b tb) (hc : PE X c tc)
    (hm : lastMarks [op, op'] [b, c] = false := by with_unfolding_all rfl) : PE X (.Compare a [op, op'] [b, c] pos) (tChain r r' ta tb tc) := by
  intro pins s σ H Q I h
  refine Compare_chain (thn (ha pins s σ H _ I h) fun v s1 ⟨x, H1, I1, r1, q1⟩ => chain_link (thn (hb pins s1 σ H1 _ I1 q1) fun u s2 ⟨y, H2, I2, r2, q2⟩ =>
    thn (ho pins s2 σ H2 x y v u _ I2 r1 r2 q2) fun d s3 ⟨z, H3, I3, r3, k, e, q3⟩ => ?_)) hm
  subst e
  cases r3
  refine wpAny_truthy_bool ?_
  cases k with
  | false => exact ite_ff ⟨.bl false, H3, I3, rfl, q3⟩
  | true => exact ite_tt (chain_last (thn (hc pins s3 σ H3 _ I3 q3) fun w' s4 ⟨z', H4, I4, r4, q4⟩ => ho' pins s4 σ H4 y z' u w' Q I4 r2 r4 q4))
/-! ### truth -/
theorem line63 : (sizeLine : Nat) < 2 ^ 63 := by rw [sizeLine_eq]; decide
/-! ### strs and bytes -/
theorem op_add_str : OpR X (binaryOp .Add) (fun x y H Q => ∃ i j, x = .str i ∧ y = .str j ∧ i.length + j.length ≤ sizeLine ∧ Q (.str (i ++ j)) H) := by
  intro pins s σ H x y v u Q I rx ry h
  obtain ⟨i, j, rfl, rfl, hz, q⟩ := h
  obtain ⟨t, rfl⟩ := rx
  obtain ⟨t', rfl⟩ := ry
  exact add_str (fun t' tk => ⟨.str (i ++ j), H, I.tok _, ⟨_, rfl⟩, q⟩) hz
/-! ### scalar builtins, by CallR -/
theorem vals1 {x : V} {us : List Value} (r : Vals [x] us) : ∃ u, us = [u] ∧ RelV x u := by
  cases r with
  | cons r1 r2 => cases r2; exact ⟨_, rfl, r1⟩
theorem vals2 {x y : V} {us : List Value} (r : Vals [x, y] us) : ∃ u w', us = [u, w'] ∧ RelV x u ∧ RelV y w' := by
  cases r with
  | cons r1 r2 =>
    cases r2 with
    | cons r3 r4 => cases r4; exact ⟨_, _, rfl, r1, r3⟩
theorem call_abs : CallR X (.builtin "abs") (fun xs H Q => ∃ i, xs = [.int i] ∧ Q (.int (if i < 0 then -i else i)) H) := by
  intro pins s σ H xs us Q I r h
  obtain ⟨i, rfl, q⟩ := h
  obtain ⟨u, rfl, t, rfl⟩ := vals1 r
  exact call_abs_int fun u tk => ⟨.int (if i < 0 then -i else i), H, I.tok _, ⟨_, rfl⟩, q⟩
theorem call_str_int : CallR X (.type "str") (fun xs H Q => ∃ i, xs = [.int i] ∧ i.natAbs.log2 < 1920 ∧ Q (.str (toString i)) H) := by
  intro pins s σ H xs us Q I r h
  obtain ⟨i, rfl, hz, q⟩ := h
  obtain ⟨u, rfl, t, rfl⟩ := vals1 r
  exact PySem.P.str_of_int hz ⟨.str _, H, I.tok _, ⟨_, rfl⟩, q⟩
end
end L2

namespace L2
open PySem PySem.Spec PyProof.Rows

/-! ### an instance, its attributes a map -/
structure ObjM (h : Heap) (x dx C : Addr) (mA : Str → Option Value) : Prop where
  obj : h.get? x = some (PySem.W.instObj C dx)
  ns : h.Ns1 dx mA
  ne : dx ≠ x

theorem lookIn_ns {h : Heap} {dx : Addr} {mA : Str → Option Value} (n : h.Ns1 dx mA) : ∃ od, h.get? dx = some od ∧ ∀ name, PySem.W.lookIn name od = some (mA name) := by
  obtain ⟨o, es, ep, ho, hd, hk, _, hm⟩ := n
  refine ⟨o, ho, fun name => ?_⟩
  have e := hm name
  unfold nsFind findBy at e
  rw [← Array.find?_toList] at e
  unfold PySem.W.lookIn
  rw [hd]
  dsimp only
  split
  · rename_i y q
    rw [q] at e
    exact congrArg some e
  · rename_i q
    rw [q] at e
    have a : es.toList.any (·.refKey) = false := by
      rw [List.any_eq_false]
      intro y hy
      obtain ⟨z, t, hkey⟩ := hk y (Array.mem_toList_iff.mp hy)
      simp [DictEntry.refKey, hkey]
    have a' : ¬ es.toList.any (·.refKey) = true := by rw [a]; exact Bool.false_ne_true
    rw [if_neg a']
    exact congrArg some e

theorem ObjM.look {h : Heap} {x dx C : Addr} {mA : Str → Option Value} (I : ObjM h x dx C mA) : ∃ od, PySem.W.InstAt h x (PySem.W.instObj C dx) C (some od) ∧ ∀ name, PySem.W.lookIn name od = some (mA name) :=
  let ⟨od, ho, hl⟩ := lookIn_ns I.ns
  ⟨od, ⟨I.obj, rfl, rfl, ho⟩, hl⟩

section
variable {prog : Program} {w : World} {A : Around} {E : Value → Shared → Prop} {s : Shared} {K : PySem.W.Frag} {x dx C f : Addr} {mA : Str → Option Value} {name : Str} {v : Value}

theorem get_map {expr : Bool} {Q : Value → Shared → Prop} (X : K.In s.heap) (I : ObjM s.heap x dx C mA) (hg : PySem.W.plainGet K C name = true) (hh : PySem.W.hasDictIn K C = true)
    (ha : PySem.W.findIn K (.ref C) name = some none) (hv : mA name = some v) (hv' : PySem.W.handedIn v = true) (h : Q v { s with toks := s.toks + 1 }) :
    wpAny (model prog w) A (getAttr (.ref x) name expr) Q E s := by
  obtain ⟨od, J, hl⟩ := I.look
  exact PySem.W.get_value X J (PySem.W.plainGet_of hg).1 (PySem.W.findObj_own hh ha rfl (by rw [hl, hv])) hv' h

theorem get_meth {pl : Sem Bool} {Q : Value × List Value → Shared → Prop} (X : K.In s.heap) (I : ObjM s.heap x dx C mA) (hg : PySem.W.plainGet K C name = true)
    (hf : PySem.W.findIn K (.ref C) name = some (some (.ref f))) (ht : PySem.W.isFn K (.ref f) = true) (hv : mA name = none) (h : Q (.ref f, [.ref x]) s) :
    wpAny (model prog w) A (getMethod (.ref x) name pl) Q E s := by
  obtain ⟨od, J, hl⟩ := I.look
  exact PySem.W.method_fn X J (PySem.W.plainGet_of hg).1 (PySem.W.plainGet_of hg).2 hf (beq_iff_eq.mp ht) (by show (PySem.W.lookIn name od).map (·.isSome) = some false; rw [hl, hv]; rfl) h

theorem set_map {ns : List Str} {Q : Unit → Shared → Prop} (X : K.In s.heap) (I : ObjM s.heap x dx C mA)
    (hs : PySem.W.findIn K (.ref C) "__setattr__" = some (some (.builtin "object.__setattr__"))) (hp : PySem.W.plainOver K C = true) (ht : PySem.W.takerIn K C name = some none) (hh : PySem.W.hasDictIn K C = true)
    (hw : PySem.Within mA ns) (hsz : ns.length ≤ sizeLine)
    (h : ∀ h', ObjM h' x dx C (fun y => if y = name then some v else mA y) → Heap.SameBut dx s.heap h' → Q () { s with heap := h', toks := s.toks + 2 }) :
    wpAny (model prog w) A (setAttr (.ref x) name v) Q E s := by
  obtain ⟨od, J, hl⟩ := I.look
  refine PySem.W.set_plain X J hs (PySem.W.osa_open (s := { s with toks := s.toks + 1 }) (r := none) X J hp ht fun b => ?_)
  obtain ⟨cd, hc, hd'⟩ := PySem.W.any_some hh
  have hx : s.heap.get? x = some ⟨.ref C, some dx, .plain, #[]⟩ := I.obj
  refine wpAny_bind (wpAny_pure (wpAny_bind (wpAny_bind (wpAny_loadPart hx (wpAny_bind (PySem.W.Looks.here (s := { s with toks := s.toks + 1 }) (PySem.W.looks_clsIn X hc) ?_))))))
  rw [hd']
  refine wpAny_pure (a := some dx) (wpAny_bind (wpAny_pure (wpAny_bind ?_)))
  refine wpAny_nsSet1 (s := { s with toks := s.toks + 1 }) I.ns fun h' hn2 hs2 => ?_
  obtain ⟨oD, esD, epD, hoD, hdD, hcD⟩ := hn2.count (PySem.Within.cons name v hw)
  refine wpAny_bind (wpAny_lookBehind hoD (by rw [hdD]; exact pastItsLine_dict (Nat.le_trans hcD (by rw [List.length_cons]; omega))) ?_)
  exact wpAny_pure (h _ ⟨(hs2.2 _ (Ne.symm I.ne)).trans I.obj, hn2, I.ne⟩ hs2)

/-- C(..): the dict at the heap's end, the instance behind it; then its __init__ -/
theorem make_map {R : Result → Shared → Prop} {vs : List Value} {kw : List (Str × Value)} (X : K.In s.heap) (hm : PySem.W.makesIn K C = true)
    (hi : PySem.W.findIn K (.ref C) "__init__" = some (some (.ref f))) (hf : PySem.W.typeIn K (.ref f) = some (.type "function"))
    (h : codeAny (model prog w) (A.under (.builtin "type.__call__" ⟨.ref C :: vs, kw⟩)) (.call (.ref f) ⟨.ref (s.heap.objs.size + 1) :: vs, kw⟩) (PySem.W.InitBack (s.heap.objs.size + 1) R)
      { s with heap := (s.heap.push PySem.W.emptyDict).push (PySem.W.instObj C s.heap.objs.size) }) :
    codeAny (model prog w) A (.call (.ref C) ⟨vs, kw⟩) R s := by
  obtain ⟨hh, g, d, t, os⟩ := s
  exact PySem.W.make_core (PySem.W.makes_of X hm) (PySem.W.looks_findIn X hi) (fun self => PySem.W.bind_fn X self hf) (.inl rfl) h
end

/-! ### the attributes as a list of pairs -/
def putF (f : Str) (v : V) : List (Str × V) → List (Str × V)
  | [] => [(f, v)]
  | (g, x) :: r => if g = f then (g, v) :: r else (g, x) :: putF f v r
theorem lookup_putF (f g : Str) (v : V) : ∀ fs : List (Str × V), (putF f v fs).lookup g = if g = f then some v else fs.lookup g
  | [] => by
    show List.lookup g [(f, v)] = _
    by_cases h : g = f
    · have hb : (g == f) = true := beq_iff_eq.mpr h
      simp only [List.lookup, hb, if_pos h]
    · have hb : (g == f) = false := beq_eq_false_iff_ne.mpr h
      simp only [List.lookup, hb, if_neg h]
  | (k, x) :: r => by
    have ih := lookup_putF f g v r
    rw [show putF f v ((k, x) :: r) = (if k = f then (k, v) :: r else (k, x) :: putF f v r) from rfl]
    by_cases hk : k = f
    · rw [if_pos hk]
      by_cases h : g = k
      · have hb : (g == k) = true := beq_iff_eq.mpr h
        simp only [List.lookup, hb, if_pos (h.trans hk)]
      · have hb : (g == k) = false := beq_eq_false_iff_ne.mpr h
        simp only [List.lookup, hb, if_neg (fun e : g = f => h (e.trans hk.symm))]
    · rw [if_neg hk]
      by_cases h : g = k
      · have hb : (g == k) = true := beq_iff_eq.mpr h
        simp only [List.lookup, hb, if_neg (fun e : g = f => hk (h.symm.trans e))]
      · have hb : (g == k) = false := beq_eq_false_iff_ne.mpr h
        simp only [List.lookup, hb]
        exact ih
theorem keys_putF (f : Str) (v : V) : ∀ fs : List (Str × V), f ∈ (putF f v fs).map (·.1) ∧ ∀ g, g ∈ fs.map (·.1) → g ∈ (putF f v fs).map (·.1)
  | [] => ⟨by simp [putF], fun g h => by simp at h⟩
  | (k, x) :: r => by
    obtain ⟨i1, i2⟩ := keys_putF f v r
    rw [show putF f v ((k, x) :: r) = (if k = f then (k, v) :: r else (k, x) :: putF f v r) from rfl]
    by_cases hk : k = f
    · rw [if_pos hk]
      subst hk
      exact ⟨by simp, fun g h => by simpa using h⟩
    · rw [if_neg hk]
      refine ⟨?_, fun g h => ?_⟩
      · rw [List.map_cons]
        exact List.mem_cons_of_mem _ i1
      · rw [List.map_cons] at h ⊢
        rcases List.mem_cons.mp h with e | e
        · exact List.mem_cons.mpr (.inl e)
        · exact List.mem_cons_of_mem _ (i2 g e)
theorem length_putF (f : Str) (v : V) : ∀ fs : List (Str × V), (putF f v fs).length ≤ fs.length + 1
  | [] => by simp [putF]
  | (k, x) :: r => by
    have ih := length_putF f v r
    rw [show putF f v ((k, x) :: r) = (if k = f then (k, v) :: r else (k, x) :: putF f v r) from rfl]
    by_cases hk : k = f
    · rw [if_pos hk, List.length_cons, List.length_cons]; omega
    · rw [if_neg hk, List.length_cons, List.length_cons]; omega

theorem RelO.some_of {v : V} {o : Option Value} (r : RelO (some v) o) : ∃ u, o = some u ∧ RelV v u := by
  cases o with
  | none => exact (show False from r).elim
  | some u => exact ⟨u, rfl, r⟩
theorem RelO.none_of {o : Option Value} (r : RelO none o) : o = none := by
  cases o with
  | none => rfl
  | some u => exact (show False from r).elim
theorem handed_of {v : V} {u : Value} (r : RelV v u) : PySem.W.handedIn u = true := by
  cases v with
  | non => cases (show u = Value.none from r); rfl
  | bl b => cases (show u = Value.bool b from r); rfl
  | int i => obtain ⟨t, e⟩ := (show ∃ t, u = Value.int i t from r); cases e; rfl
  | str x => obtain ⟨t, e⟩ := (show ∃ t, u = Value.str x t from r); cases e; rfl
  | byt b => obtain ⟨t, e⟩ := (show ∃ t, u = Value.bytes b t from r); cases e; rfl
  | flt b => obtain ⟨t, e⟩ := (show ∃ t, u = Value.float b t from r); cases e; rfl
  | ref a => cases (show u = Value.ref a from r); rfl
  | ty n => cases (show u = Value.type n from r); rfl

section
variable {P : Program} {w : World} {H H' : Hp} {h h' : Heap} {a C dx : Addr} {fs fs' : List (Str × V)}
theorem ins_get (hok : HOk P w H h) (e : H a = some (.ins C dx fs)) : ∃ mA, ObjM h a dx C mA ∧ (∀ f, RelO (fs.lookup f) (mA f)) ∧ PySem.Within mA (fs.map (·.1)) ∧ fs.length ≤ 1000 ∧ H dx = some (.own a) := by
  obtain ⟨d, z, ne, ob, mA, n, r, q⟩ := (show ObjOk P w H h a (.ins C dx fs) from hok a _ e)
  exact ⟨mA, ⟨ob, n, ne⟩, r, q, z, d⟩
end

/-! ### what of the text a class must have -/
structure Cls (K : PySem.W.Frag) (C : Addr) : Prop where
  pg : PySem.W.plainGet K C Str.empty = true
  hd : PySem.W.hasDictIn K C = true
  po : PySem.W.plainOver K C = true
  sa : PySem.W.findIn K (.ref C) "__setattr__" = some (some (.builtin "object.__setattr__"))
theorem Cls.get {K : PySem.W.Frag} {C : Addr} (c : Cls K C) (f : Str) : PySem.W.plainGet K C f = true := c.pg
/-- no class of it has the name -/
def NoAttr (K : PySem.W.Frag) (C : Addr) (f : Str) : Prop := PySem.W.findIn K (.ref C) f = some none
theorem NoAttr.taker {K : PySem.W.Frag} {C : Addr} {f : Str} (n : NoAttr K C f) : PySem.W.takerIn K C f = some none := by
  unfold PySem.W.takerIn
  rw [show PySem.W.findIn K (.ref C) f = some none from n]
  rfl
/-- a constant of the class -/
structure Con (K : PySem.W.Frag) (C : Addr) (f : Str) (v : V) (u : Value) : Prop where
  at_ : PySem.W.findIn K (.ref C) f = some (some u)
  rel : RelV v u
  get : PySem.W.specialIn K u "__get__" = some none
  cp : PySem.W.copiedNames.contains f = false
/-- a method: a plain def of the class or of one above it -/
structure Meth (K : PySem.W.Frag) (C : Addr) (m : Str) (f : Addr) : Prop where
  at_ : PySem.W.findIn K (.ref C) m = some (some (.ref f))
  fn : PySem.W.isFn K (.ref f) = true
  kp : PySem.W.keepIn K (.ref f) = true

section
variable {X : Cx} {pins : List (Addr × Obj)} {σ : St} {H : Hp} {s : Shared} {a C dx : Addr} {fs : List (Str × V)} {f : Str} {v : V} {A : Around} {E : Value → Shared → Prop}

theorem getattr_ok {b : Bool} {Q : Value → Shared → Prop} (I : Inv X pins σ H s) (e : H a = some (.ins C dx fs)) (c : Cls X.K C) (n : NoAttr X.K C f) (l : fs.lookup f = some v)
    (h : ∀ u s', Inv X pins σ H s' → RelV v u → Q u s') : wpAny (model X.prog X.w) A (getAttr (.ref a) f b) Q E s := by
  obtain ⟨mA, O, r, _, _, _⟩ := ins_get I.hok e
  obtain ⟨u, hu, ru⟩ := RelO.some_of (v := v) (o := mA f) (by rw [← l]; exact r f)
  exact get_map I.kIn O (c.get f) c.hd n hu (handed_of ru) (h u _ (I.tok _) ru)

theorem getmeth_ok {m : Str} {g : Addr} {pl : Sem Bool} {Q : Value × List Value → Shared → Prop} (I : Inv X pins σ H s) (e : H a = some (.ins C dx fs)) (c : Cls X.K C) (k : Meth X.K C m g) (l : fs.lookup m = none)
    (h : Q (.ref g, [.ref a]) s) : wpAny (model X.prog X.w) A (getMethod (.ref a) m pl) Q E s := by
  obtain ⟨mA, O, r, _, _, _⟩ := ins_get I.hok e
  have hn : mA m = none := RelO.none_of (by rw [← l]; exact r m)
  exact get_meth I.kIn O (c.get m) k.at_ k.fn hn h

theorem setattr_ok {y : V} {u : Value} {Q : Unit → Shared → Prop} (I : Inv X pins σ H s) (e : H a = some (.ins C dx fs)) (c : Cls X.K C) (n : NoAttr X.K C f) (hl : fs.length < 1000) (ry : RelV y u)
    (h : ∀ s', Inv X pins σ (upd H a (.ins C dx (putF f y fs))) s' → Q () s') : wpAny (model X.prog X.w) A (setAttr (.ref a) f u) Q E s := by
  obtain ⟨mA, O, r, wi, _, ho⟩ := ins_get I.hok e
  have hz : (fs.map (·.1)).length ≤ sizeLine := by rw [List.length_map, sizeLine_eq]; omega
  refine set_map I.kIn O c.sa c.po n.taker c.hd wi hz fun h' O' sb => h _ ?_
  have hd : ∃ o, h'.get? dx = some o := let ⟨o, _, _, e', _⟩ := O'.ns; ⟨o, e'⟩
  refine I.write (x := a) (e := dx) (by rw [e]; exact True.intro) (.inr ho) (fun b q hb z => (sb.2 b hb).trans z) hd ?_
  refine ⟨by rw [upd_ne O.ne]; exact ho, ?_, O.ne, O'.obj, _, O'.ns, fun g => ?_, fun g hg => ?_⟩
  · have := length_putF f y fs; omega
  · show RelO ((putF f y fs).lookup g) (if g = f then some u else mA g)
    rw [lookup_putF]
    by_cases q : g = f
    · rw [if_pos q, if_pos q]; exact ry
    · rw [if_neg q, if_neg q]; exact r g
  · by_cases q : g = f
    · rw [q]; exact (keys_putF f y fs).1
    · refine (keys_putF f y fs).2 g (wi g fun z => hg ?_)
      show (if g = f then some u else mA g) = none
      rw [if_neg q]; exact z

/-- a new instance, tracked, without attributes -/
theorem Inv.made (I : Inv X pins σ H s) : Inv X pins σ (upd (upd H s.heap.objs.size (.own (s.heap.objs.size + 1))) (s.heap.objs.size + 1) (.ins C s.heap.objs.size []))
    { s with heap := (s.heap.push PySem.W.emptyDict).push (PySem.W.instObj C s.heap.objs.size) } := by
  have e1 : (s.heap.push PySem.W.emptyDict).get? s.heap.objs.size = some PySem.W.emptyDict := Heap.get?_push_size s.heap rfl
  have e2 : ((s.heap.push PySem.W.emptyDict).push (PySem.W.instObj C s.heap.objs.size)).get? (s.heap.objs.size + 1) = some (PySem.W.instObj C s.heap.objs.size) := by
    have := Heap.get?_push_size (s.heap.push PySem.W.emptyDict) (o := PySem.W.instObj C s.heap.objs.size) rfl
    rwa [Heap.size_push] at this
  have e3 : (s.heap.push PySem.W.emptyDict).Ns s.heap.objs.size (fun _ => none) := ⟨PySem.W.emptyDict, #[], _, e1, rfl, (fun e he => absurd he (by simp)), fun _ => rfl⟩
  have I1 := I.laid (a := s.heap.objs.size) (o := .own (s.heap.objs.size + 1)) (h' := s.heap.push PySem.W.emptyDict) (t' := s.toks) (fun b u q => Heap.get?_push_of_some _ q) (Nat.le_refl _) ⟨_, e1⟩
  refine I1.laid (a := s.heap.objs.size + 1) (o := .ins C s.heap.objs.size []) (t' := s.toks) (fun b u q => Heap.get?_push_of_some _ q) (Nat.le_of_eq (Heap.size_push _ _)) ?_
  have ne : s.heap.objs.size ≠ s.heap.objs.size + 1 := Nat.ne_of_lt (Nat.lt_succ_self _)
  refine ⟨by rw [upd_ne ne, upd_same], Nat.zero_le _, ne, e2, fun _ => none, (Heap.Ns1.of_empty e3).at fun o q => Heap.get?_push_of_some _ q, fun _ => True.intro, fun y hy => absurd rfl hy⟩

/-- e.f where nothing but the object is asked: through attributeBase (super) and the last hold -/
theorem attr_of {prog : Program} {w : World} {env : Env} {e : Expr} {f : Str} {pos : Pos} {s : Shared} {Q : Value → Shared → Prop} (hb : attributeBase e f env (eval e env) = eval e env)
    (h : wpAny (model prog w) A (eval e env) (fun o s₁ => wpAny (model prog w) A (getAttr o f true) Q E s₁) E s) : wpAny (model prog w) A (eval (.Attribute e f pos) env) Q E s :=
  Attribute_any_ h (by rw [arm_eval_Attribute, hb])
end

/-! ### readings and rules -/
/-- e.f, an attribute of the instance -/
def tFld (K : PySem.W.Frag) (ta : TE) (f : Str) : TE := fun σ H Q => ta σ H fun x H1 => ∃ a C dx fs v, x = .ref a ∧ H1 a = some (.ins C dx fs) ∧ Cls K C ∧ NoAttr K C f ∧ fs.lookup f = some v ∧ Q v H1
/-- e.f = value -/
def sFld (K : PySem.W.Frag) (ta tv : TE) (f : Str) : TS := fun D σ H => tv σ H fun y H1 => ta σ H1 fun x H2 => ∃ a C dx fs, x = .ref a ∧ H2 a = some (.ins C dx fs) ∧ Cls K C ∧ NoAttr K C f ∧ fs.length < 1000 ∧
  D.nx σ (upd H2 a (.ins C dx (putF f y fs)))
section
variable {X : Cx} {o e value : Expr} {f : Str} {pos pos' tpos : Pos} {ta tv : TE}
theorem pe_fld (he : PE X e ta) (hb : attributeBase e f X.env (eval e X.env) = eval e X.env) : PE X (.Attribute e f pos) (tFld X.K ta f) := by
  intro pins s σ H Q I h
  refine attr_of hb (thn (he pins s σ H _ I h) fun u s1 ⟨x, H1, I1, rx, a, C, dx, fs, v, ex, ea, c, n, l, q⟩ => ?_)
  subst ex
  obtain rfl : u = Value.ref a := rx
  exact getattr_ok I1 ea c n l fun u' s2 I2 ru => ⟨v, H1, I2, ru, q⟩
theorem ps_fld (ha : PE X o ta) (hv : PE X value tv) (hs : swapsWith value (some (.Attribute o f pos')) pos.line X.env = pure false) : PS X (.Assign [.Attribute o f pos'] value pos) (sFld X.K ta tv f) := by
  intro pins s σ H D I h
  refine plainObj_wpAny_Assign_Attribute (thn (hv pins s σ H _ I h) fun u s1 ⟨y, H1, I1, ry, q⟩ => thn (ha pins s1 σ H1 _ I1 q) fun ov s2 ⟨x, H2, I2, rx, a, C, dx, fs, ex, ea, c, n, l, q2⟩ => ?_) hs
  subst ex
  obtain rfl : ov = Value.ref a := rx
  exact setattr_ok I2 ea c n l ry fun s3 I3 => ⟨σ, _, I3, q2⟩
end

/-! ### isinstance -/
section
variable {X : Cx} {pins : List (Addr × Obj)} {σ : St} {H : Hp} {s : Shared} {A : Around} {E : Value → Shared → Prop} {Q : Value → Shared → Prop} {c : Value} {b : Bool}
/-- the type of a value, as the fragment's deciders take it; for an instance its class -/
inductive TyOf (K : PySem.W.Frag) (H : Hp) : V → Value → Prop where
  | non : TyOf K H .non (.type "NoneType")
  | bl (x : Bool) : TyOf K H (.bl x) (.type "bool")
  | int (i : Int) : TyOf K H (.int i) (.type "int")
  | str (x : Str) : TyOf K H (.str x) (.type "str")
  | flt (x : UInt64) : TyOf K H (.flt x) (.type "float")
  | lst {a : Addr} {xs : List V} (e : H a = some (.lst xs)) : TyOf K H (.ref a) (.type "list")
  | frz {a : Addr} {o : Obj} {xs : List V} (e : H a = some (.frz o (.lst xs))) : TyOf K H (.ref a) (.type "list")
  | tup {a : Addr} {xs : List V} (e : H a = some (.tup xs)) : TyOf K H (.ref a) (.type "tuple")
  | dK {a : Addr} {kvs : List (Key × V)} (e : H a = some (.dK kvs)) : TyOf K H (.ref a) (.type "dict")
  | dT {a : Addr} {kvs : List (List Key × V)} (e : H a = some (.dT kvs)) : TyOf K H (.ref a) (.type "dict")
  | ins {a C dx : Addr} {fs : List (Str × V)} (e : H a = some (.ins C dx fs)) (cl : Cls K C) (ha : PySem.W.findIn K (.ref C) "__class__" = some (some (.builtin "object.__class__")))
      (hn : PySem.W.specialIn K (.builtin "object.__class__") "__get__" = some (some (.builtin "getset_descriptor.__get__"))) (htk : PySem.W.takesIn K (.builtin "object.__class__") = some true)
      (hm : PySem.W.mroIn K C (.type "object") = some true) : TyOf K H (.ref a) (.ref C)
end
end L2

namespace L2
open PySem PySem.Spec PyProof.Rows

/-! ### room -/
structure Room (k : Nat) (A : Around) : Prop where
  hd : A.handled = none
  dp : A.depth + 3 * k + 5 < recursionLimit
  un : A.units + 16 * k + 200 < cLine
theorem Room.mono {j k : Nat} {A : Around} (r : Room k A) (h : j ≤ k) : Room j A := ⟨r.hd, by have := r.dp; omega, by have := r.un; omega⟩
theorem Room.deeper {k : Nat} {A : Around} (r : Room (k + 1) A) (env : Env) : Room k (A.deeper env) :=
  ⟨r.hd, by have := r.dp; show A.depth + 1 + 3 * k + 5 < _; omega, by have := r.un; show A.units + 3 + 16 * k + 200 < _; omega⟩
theorem Room.in1 {k : Nat} {A : Around} (r : Room (k + 1) A) : Room k A.in1 :=
  ⟨r.hd, by have := r.dp; show A.depth + 3 * k + 5 < _; omega, by have := r.un; show A.units + 1 + 16 * k + 200 < _; omega⟩
theorem make_depth {A : Around} {C : Addr} {us : List Value} {kw : List (Str × Value)} : (A.under (.builtin "type.__call__" ⟨.ref C :: us, kw⟩)).depth = A.depth + 1 := by
  first | rfl | simp [Around.under, Code.weight, Code.isCreation, Code.isGuard, Code.isCaller, Code.frames, Code.isFrame, guardIds]
theorem make_units {A : Around} {C : Addr} {us : List Value} {kw : List (Str × Value)} : (A.under (.builtin "type.__call__" ⟨.ref C :: us, kw⟩)).units = A.units + 1 := by
  first | rfl | simp [Around.under, Code.cUnits, Code.frames, Code.isFrame]
theorem Room.make {k : Nat} {A : Around} (r : Room (k + 1) A) (C : Addr) (us : List Value) (kw : List (Str × Value)) : Room k (A.under (.builtin "type.__call__" ⟨.ref C :: us, kw⟩)) :=
  ⟨r.hd, by have := r.dp; rw [make_depth]; omega, by have := r.un; rw [make_units]; omega⟩
theorem Room.depth {k : Nat} {A : Around} (r : Room k A) : A.depth < recursionLimit := by have := r.dp; omega
theorem Room.units {k : Nat} {A : Around} (r : Room k A) : A.units + 64 < cLine := by have := r.un; omega
/-! ### argument lists and displays -/
def tNil : TA := fun _ H Q => Q [] H
def tCons (ta : TE) (tr : TA) : TA := fun σ H Q => ta σ H fun x H1 => tr σ H1 fun xs H2 => Q (x :: xs) H2
section
variable {X : Cx} {e : Expr} {es : List Expr} {te : TE} {t : TA} {pos : Pos}
theorem pa_nil : PA X [] tNil := fun _ _ _ _ H Q I h => Calls.spliced_nil ⟨[], H, I, .nil, h⟩
theorem pa_cons (ha : PE X e te) (hr : PA X es t) (hs : starEach (e :: es) X.env = (false, eval e X.env) :: starEach es X.env := by rfl) : PA X (e :: es) (tCons te t) := by
  intro pos pins s σ H Q I h
  rw [hs]
  show wpAny _ _ (spliced ((false, eval e X.env) :: backTo pos (starEach es X.env))) _ _ s
  refine Calls.spliced_cons (thn (ha pins s σ H _ I h) fun u s1 ⟨x, H1, I1, r1, q1⟩ => ?_)
  exact thn (hr pos pins s1 σ H1 _ I1 q1) fun us s2 ⟨xs, H2, I2, r2, q2⟩ => ⟨x :: xs, H2, I2, .cons r1 r2, q2⟩

/-- a tuple, a list of written items -/
def tTup (t : TA) : TE := fun σ H Q => t σ H fun xs H1 => xs.length ≤ sizeLine ∧ ∀ p, H1 p = none → Q (.ref p) (upd H1 p (.tup xs))
def tLst (t : TA) : TE := fun σ H Q => t σ H fun xs H1 => xs.length ≤ sizeLine ∧ ∀ p, H1 p = none → Q (.ref p) (upd H1 p (.lst xs))
theorem pe_tup {x1} (h : PA X es t) : PE X (.Tuple es x1 pos) (tTup t) := by
  intro pins s σ H Q I hq
  refine wpAny_Tuple_spliced (thn (h pos pins s σ H _ I hq) fun us s1 ⟨xs, H1, I1, r, z, q⟩ => ⟨by rw [← r.length]; exact z, ?_⟩)
  have hf : H1 s1.heap.objs.size = none := I1.hok.fresh (Nat.le_refl _)
  refine ⟨.ref s1.heap.objs.size, upd H1 s1.heap.objs.size (.tup xs), I1.laid (t' := s1.toks) (fun b u e => Heap.get?_push_of_some _ e) (Nat.le_refl _) ?_, rfl, q _ hf⟩
  exact ⟨z, us, r, ⟨_, Heap.get?_push_size _ rfl, rfl, _, rfl⟩⟩
theorem pe_lst (h : PA X es t) : PE X (.List es pos) (tLst t) := by
  intro pins s σ H Q I hq
  refine wpAny_List_spliced (thn (h pos pins s σ H _ I hq) fun us s1 ⟨xs, H1, I1, r, z, q⟩ => ⟨by rw [← r.length]; exact z, ?_⟩)
  have hf : H1 s1.heap.objs.size = none := I1.hok.fresh (Nat.le_refl _)
  refine ⟨.ref s1.heap.objs.size, upd H1 s1.heap.objs.size (.lst xs), I1.laid (t' := s1.toks) (fun b u e => Heap.get?_push_of_some _ e) (Nat.le_refl _) ?_, rfl, q _ hf⟩
  exact ⟨z, us, 0, r, Heap.get?_push_size _ rfl⟩
end

/-! ### what a def promises -/
/-- a def's promise: the bound arguments in the parameters' order, the heap, the wanted end, the wanted exception -/
abbrev Sp := List V → Hp → VK → XK → Prop
/-- how an exception lies behind a call (file 08 gives it): the callers' frames, abstract heap and state ahead of the call, the wish, the exception, the state -/
abbrev CXT := List Env → Hp → Shared → XK → Value → Shared → Prop

/-- the state at a call -/
structure Env0 (P : Program) (w : World) (K : PySem.W.Frag) (mg : Str → Option Value) (base : Heap) (A : Around) (outer : List Env) (s : Shared) (H : Hp) : Prop where
  frames : A.frames = some outer
  mod : Mod K mg base
  bs : ∀ b o, base.get? b = some o → s.heap.get? b = some o ∧ H b = none
  bsz : base.objs.size ≤ s.heap.objs.size
  funs : s.heap.FunFrames base outer
  frf : ∀ b ∈ frs outer, H b = none
  hok : HOk P w H s.heap
  bare : AllBare s.gens
/-- a call's end -/
def CE (outer : List Env) (P : Program) (w : World) (H : Hp) (s : Shared) (Q : VK) (u : Value) (s' : Shared) : Prop :=
  ∃ v H', s'.os = s.os ∧ AllBare s'.gens ∧ Un (frs outer) [] H H' s.heap s'.heap ∧ HOk P w H' s'.heap ∧ RelV v u ∧ Q v H'
def CR (CX : CXT) (outer : List Env) (P : Program) (w : World) (H : Hp) (s : Shared) (Q : VK) (E : XK) (r : Result) (s' : Shared) : Prop :=
  match r with
  | .ok (.ret u) => CE outer P w H s Q u s'
  | .ok _ => False
  | .error e => CX outer H s E e s'
structure FnOk (P : Program) (w : World) (K : PySem.W.Frag) (mg : Str → Option Value) (base : Heap) (CX : CXT) (k : Nat) (f : Addr) (fd : FuncData) (ps : List Str) (sp : Sp) : Prop where
  len : ∀ vs H Q E, sp vs H Q E → vs.length = ps.length
  run : ∀ (A : Around) (outer : List Env) (s : Shared) (H : Hp) (args : Args) (us : List Value) (vs : List V) (Q : VK) (E : XK), Room k A → Env0 P w K mg base A outer s H → BindsTo s fd args (ps.zip us) → Vals vs us → sp vs H Q E →
    codeAny (model P w) A (.call (.ref f) args) (CR CX outer P w H s Q E) s
theorem FnOk.mono {P : Program} {w : World} {K : PySem.W.Frag} {mg : Str → Option Value} {base : Heap} {CX : CXT} {j k : Nat} {f : Addr} {fd : FuncData} {ps : List Str} {sp : Sp} (F : FnOk P w K mg base CX j f fd ps sp) (h : j ≤ k) :
    FnOk P w K mg base CX k f fd ps sp := ⟨F.len, fun A outer s H args us vs Q E hr => F.run A outer s H args us vs Q E (hr.mono h)⟩
/-- a weaker promise -/
theorem FnOk.imp {P : Program} {w : World} {K : PySem.W.Frag} {mg : Str → Option Value} {base : Heap} {CX : CXT} {k : Nat} {f : Addr} {fd : FuncData} {ps : List Str} {sp sp' : Sp} (F : FnOk P w K mg base CX k f fd ps sp)
    (h : ∀ vs H Q E, sp' vs H Q E → sp vs H Q E) : FnOk P w K mg base CX k f fd ps sp' :=
  ⟨fun vs H Q E q => F.len vs H Q E (h _ _ _ _ q), fun A outer s H args us vs Q E hr he hb hv hs => F.run A outer s H args us vs Q E hr he hb hv (h _ _ _ _ hs)⟩

theorem Env0.make {P : Program} {w : World} {K : PySem.W.Frag} {mg : Str → Option Value} {base : Heap} {A : Around} {outer : List Env} {s : Shared} {H : Hp} (e : Env0 P w K mg base A outer s H) (C : Addr) (us : List Value) (kw : List (Str × Value)) :
    Env0 P w K mg base (A.under (.builtin "type.__call__" ⟨.ref C :: us, kw⟩)) outer s H := ⟨by first | exact e.frames | (simpa [Around.under, Code.envs, Code.isFrame, pushEnvs] using e.frames), e.mod, e.bs, e.bsz, e.funs, e.frf, e.hok, e.bare⟩
theorem Env0.in1 {P : Program} {w : World} {K : PySem.W.Frag} {mg : Str → Option Value} {base : Heap} {A : Around} {outer : List Env} {s : Shared} {H : Hp} (e : Env0 P w K mg base A outer s H) :
    Env0 P w K mg base A.in1 outer s H := ⟨e.frames, e.mod, e.bs, e.bsz, e.funs, e.frf, e.hok, e.bare⟩

section
variable {X : Cx} {pins : List (Addr × Obj)} {σ : St} {H : Hp} {s s' : Shared}
/-- from a body: what a callee wants -/
theorem Inv.env0 (I : Inv X pins σ H s) : Env0 X.prog X.w X.K X.mg X.base X.A X.stack s H :=
  ⟨I.ok.frames, I.ok.mod, I.bs, Nat.le_trans I.ok.bsz I.sz, I.stack, I.stkFree, I.hok, I.bare⟩
/-- behind a call -/
theorem Inv.after {Q : VK} {u : Value} (I : Inv X pins σ H s) (h : CE X.stack X.prog X.w H s Q u s') : EP X pins σ Q u s' := by
  obtain ⟨v, H', os, bare, un, hok, r, q⟩ := h
  obtain ⟨hh, g, d, t, os'⟩ := s'
  obtain rfl : os' = s.os := os
  exact ⟨v, H', I.call (h' := hh) (g' := g) (d' := d) (t' := t) (ch := []) un hok bare (fun b z => absurd z (by simp)), r, q⟩
end

/-! ### calls -/
/-- f(..): the written arguments, then the defaults dvs; E: what is wanted of an exception -/
def tCall (sp : Sp) (dvs : List V) (E : XK) (t : TA) : TE := fun σ H Q => t σ H fun vs H1 => sp (vs ++ dvs) H1 Q E
/-- C(..): a new instance and its dict, then __init__ -/
def tMake (C : Addr) (sp : Sp) (dvs : List V) (E : XK) (t : TA) : TE := fun σ H Q => t σ H fun vs H1 => ∀ x dx, H1 x = none → H1 dx = none → dx ≠ x →
  sp (.ref x :: (vs ++ dvs)) (upd (upd H1 dx (.own x)) x (.ins C dx [])) (fun v H2 => v = .non ∧ Q (.ref x) H2) E

/-- how the parameters are bound: us the positional arguments, kw the keywords' values by name, ds the defaults that fill up -/
def Binds (K : PySem.W.Frag) (fd : FuncData) (ps : List Str) (ds : List Value) : Prop :=
  ∀ (s : Shared) (us : List Value), K.In s.heap → (us ++ ds).length = ps.length → BindsTo s fd ⟨us, []⟩ (ps.zip (us ++ ds))
/-- every parameter is given -/
theorem Binds.all {K : PySem.W.Frag} {fd : FuncData} {ps : List Str} (h : ∀ us : List Value, us.length = ps.length → bindArgs fd ⟨us, []⟩ = pure (ps.zip us)) : Binds K fd ps [] := fun s us _ hl => by
  rw [List.append_nil] at hl ⊢
  exact .of_eq (h us hl)

/-- an exception of a callee reaches what this body wants of exceptions -/
def Passes (CX : CXT) (X : Cx) (E : XK) : Prop := ∀ (pins : List (Addr × Obj)) (σ : St) (H : Hp) (s : Shared) (e : Value) (s' : Shared), Inv X pins σ H s → CX X.stack H s E e s' → X.xe e s'

section
variable {X : Cx} {CX : CXT} {k : Nat} {f C : Addr} {fd : FuncData} {ps : List Str} {sp : Sp} {dvs : List V} {ds : List Value} {E : XK} {x m : Str} {p pos apos : Pos} {e o : Expr} {es : List Expr} {ta : TE} {t : TA}

/-- the callee runs -/
theorem run_fn {pins : List (Addr × Obj)} {σ : St} {H : Hp} {s : Shared} {Q : VK} {us : List Value} {vs : List V} (F : FnOk X.prog X.w X.K X.mg X.base CX k f fd ps sp) (hr : Room k X.A) (hb : Binds X.K fd ps ds) (hd : Vals dvs ds) (hx : Passes CX X E)
    (I : Inv X pins σ H s) (r : Vals vs us) (h : sp (vs ++ dvs) H Q E) : wpAny (model X.prog X.w) X.A (call (.ref f) us) (EP X pins σ Q) X.xe s := by
  have r2 : Vals (vs ++ dvs) (us ++ ds) := r.append hd
  have hl : (us ++ ds).length = ps.length := by rw [← r2.length]; exact F.len _ _ _ _ h
  refine wpAny_call (codeAny_mono (F.run X.A X.stack s H ⟨us, []⟩ (us ++ ds) (vs ++ dvs) Q E hr I.env0 (hb s us I.kIn hl) r2 h) fun r s' hq => ?_)
  cases r with
  | error e => exact hx pins σ H s e s' I hq
  | ok fl =>
    cases fl with
    | ret u => exact I.after hq
    | next => exact False.elim hq
    | brk => exact False.elim hq
    | cont => exact False.elim hq

theorem pe_call (F : FnOk X.prog X.w X.K X.mg X.base CX k f fd ps sp) (hr : Room k X.A) (hg : Gl X x) (hm : X.mg x = some (.ref f)) (hk : PySem.W.keepIn X.K (.ref f) = true) (hb : Binds X.K fd ps ds) (hd : Vals dvs ds) (hx : Passes CX X E)
    (ha : PA X (e :: es) t) (hdb : (x == ("__debug__" : Str)) = false := by decide) (he : starEach (e :: es) X.env = (false, eval e X.env) :: starEach es X.env := by rfl) (hpl : (backTo pos (starEach es X.env)).any (·.1) = false := by rfl) :
    PE X (.Call (.Name x p) (e :: es) [] pos) (tCall sp dvs E t) := by
  intro pins s σ H Q I h
  refine wpAny_Call_Name_kw (ld_glob I hg hm ?_ hdb)
  refine PySem.W.callWith_K (h₀ := X.base) I.ok.mod.kin hk (thn (ha pos pins s σ H _ I h) fun us s1 ⟨vs, H1, I1, r, q⟩ => ⟨I1.kIn, ?_⟩) he hpl
  exact run_fn F hr hb hd hx I1 r q
/-- what a class must have to be made -/
structure Mk (K : PySem.W.Frag) (C f : Addr) : Prop where
  makes : PySem.W.makesIn K C = true
  init : PySem.W.findIn K (.ref C) "__init__" = some (some (.ref f))
  fn : PySem.W.isFn K (.ref f) = true
  kp : PySem.W.keepIn K (.ref C) = true

theorem run_make {pins : List (Addr × Obj)} {σ : St} {H : Hp} {s : Shared} {Q : VK} {us : List Value} {vs : List V} (M : Mk X.K C f) (F : FnOk X.prog X.w X.K X.mg X.base CX k f fd ps sp) (hr : Room (k + 1) X.A) (hb : Binds X.K fd ps ds) (hd : Vals dvs ds)
    (hx : Passes CX X E) (I : Inv X pins σ H s) (r : Vals vs us)
    (h : ∀ x dx, H x = none → H dx = none → dx ≠ x → sp (.ref x :: (vs ++ dvs)) (upd (upd H dx (.own x)) x (.ins C dx [])) (fun v H2 => v = .non ∧ Q (.ref x) H2) E) :
    wpAny (model X.prog X.w) X.A (call (.ref C) us) (EP X pins σ Q) X.xe s := by
  have hq := h (s.heap.objs.size + 1) s.heap.objs.size (I.hok.fresh (Nat.le_succ _)) (I.hok.fresh (Nat.le_refl _)) (Nat.ne_of_lt (Nat.lt_succ_self _))
  have I2 := Inv.made (C := C) I
  have r2 : Vals (V.ref (s.heap.objs.size + 1) :: (vs ++ dvs)) (Value.ref (s.heap.objs.size + 1) :: (us ++ ds)) := .cons rfl (r.append hd)
  have hl : (Value.ref (s.heap.objs.size + 1) :: us ++ ds).length = ps.length := by
    have e := r2.length
    rw [F.len _ _ _ _ hq] at e
    exact e.symm
  refine wpAny_call (make_map (f := f) I.kIn M.makes M.init (beq_iff_eq.mp M.fn) (codeAny_mono (F.run _ X.stack _ _ ⟨Value.ref (s.heap.objs.size + 1) :: us, []⟩ (Value.ref (s.heap.objs.size + 1) :: (us ++ ds)) _ _ E (hr.make C us [])
    (I2.env0.make C us []) (hb _ (Value.ref (s.heap.objs.size + 1) :: us) I2.kIn hl) r2 hq) fun r s' hq' => ?_))
  cases r with
  | error e => exact hx pins σ _ _ e s' I2 hq'
  | ok fl =>
    cases fl with
    | ret u =>
      obtain ⟨v, H', I3, rv, ev, q3⟩ := I2.after hq'
      subst ev
      exact ⟨rv, ⟨V.ref (s.heap.objs.size + 1), H', I3, rfl, q3⟩⟩
    | next => exact False.elim hq'
    | brk => exact False.elim hq'
    | cont => exact False.elim hq'
theorem pe_make (M : Mk X.K C f) (F : FnOk X.prog X.w X.K X.mg X.base CX k f fd ps sp) (hr : Room (k + 1) X.A) (hg : Gl X x) (hm : X.mg x = some (.ref C)) (hb : Binds X.K fd ps ds) (hd : Vals dvs ds) (hx : Passes CX X E)
    (ha : PA X (e :: es) t) (hdb : (x == ("__debug__" : Str)) = false := by decide) (he : starEach (e :: es) X.env = (false, eval e X.env) :: starEach es X.env := by rfl) (hpl : (backTo pos (starEach es X.env)).any (·.1) = false := by rfl) :
    PE X (.Call (.Name x p) (e :: es) [] pos) (tMake C sp dvs E t) := by
  intro pins s σ H Q I h
  refine wpAny_Call_Name_kw (ld_glob I hg hm ?_ hdb)
  refine PySem.W.callWith_K (h₀ := X.base) I.ok.mod.kin M.kp (thn (ha pos pins s σ H _ I h) fun us s1 ⟨vs, H1, I1, r, q⟩ => ⟨I1.kIn, ?_⟩) he hpl
  exact run_make M F hr hb hd hx I1 r q
theorem pe_make0 (M : Mk X.K C f) (F : FnOk X.prog X.w X.K X.mg X.base CX k f fd ps sp) (hr : Room (k + 1) X.A) (hg : Gl X x) (hm : X.mg x = some (.ref C)) (hb : Binds X.K fd ps ds) (hd : Vals dvs ds) (hx : Passes CX X E)
    (hdb : (x == ("__debug__" : Str)) = false := by decide) : PE X (.Call (.Name x p) [] [] pos) (tMake C sp dvs E tNil) := by
  intro pins s σ H Q I h
  refine wpAny_Call_Name_kw (ld_glob I hg hm ?_ hdb)
  exact PySem.W.callWith_K0 I.kIn M.kp (run_make (us := []) M F hr hb hd hx I .nil h)
end

/-! ### keywords -/
section
variable {X : Cx} {CX : CXT} {k : Nat} {f C : Addr} {fd : FuncData} {ps ks : List Str} {sp : Sp} {E : XK} {x m : Str} {p pos apos kpos : Pos} {e o : Expr} {es : List Expr} {kws : List Keyword} {te ta : TE} {t tk : TA} {nm : Option Str}
/-- how a call with keywords binds: g puts the positional values us and the keywords' values ws (names ks) in the parameters' order, defaults among them -/
structure KBinds (K : PySem.W.Frag) (fd : FuncData) (ps ks : List Str) (g : List Value → List Value → List Value) (gV : List V → List V → List V) : Prop where
  to : ∀ (s : Shared) (us ws : List Value), K.In s.heap → (g us ws).length = ps.length → BindsTo s fd ⟨us, ks.zip ws⟩ (ps.zip (g us ws))
  rel : ∀ {vs : List V} {us : List Value} {zs : List V} {ws : List Value}, Vals vs us → Vals zs ws → Vals (gV vs zs) (g us ws)
variable {g : List Value → List Value → List Value} {gV : List V → List V → List V}
end

/-! ### a def's body keeps its promise -/
/-- names: the parameters first -/
structure FnScope (N P : List Str) (sc : Scope) : Prop where
  kind : sc.kind = .function
  co : sc.isCoroutine = false
  gen : sc.isGenerator = false
  nd : N.Nodup
  pre : N.take P.length = P
  par : ∀ x ∈ P, sc.names.lookup x = some .local ∨ sc.names.lookup x = some .cell
  nofree : ∀ y ∈ sc.names, y.2 ≠ .free

theorem bindL_out {kindOf : Str → Option NameKind} {x : Str} : ∀ {binds : List (Str × Value)} {m : Str → Option Value}, (∀ v, (x, v) ∉ binds) → bindL kindOf binds m x = m x
  | [], _, _ => rfl
  | (n, v) :: r, m, h => by
    unfold bindL
    rw [bindL_out fun w hw => h w (List.mem_cons_of_mem _ hw)]
    split
    · have : x ≠ n := by rintro rfl; exact h v List.mem_cons_self
      simp [this]
    · rfl
theorem bindC_out {kindOf : Str → Option NameKind} {x : Str} : ∀ {binds : List (Str × Value)} {m : Str → Option Value}, (∀ v, (x, v) ∉ binds) → bindC kindOf binds m x = m x
  | [], _, _ => rfl
  | (n, v) :: r, m, h => by
    unfold bindC
    rw [bindC_out fun w hw => h w (List.mem_cons_of_mem _ hw)]
    split
    · rfl
    · have : x ≠ n := by rintro rfl; exact h v List.mem_cons_self
      simp [this]
theorem bindL_get {kindOf : Str → Option NameKind} {x : Str} {v : Value} : ∀ {P : List Str} {vs : List Value} {i : Nat} {m : Str → Option Value}, P.Nodup → P[i]? = some x → vs[i]? = some v → kindOf x = some .local →
    bindL kindOf (P.zip vs) m x = some v
  | [], _, _, _, _, h, _, _ => by simp at h
  | _ :: _, [], _, _, _, _, h, _ => by simp at h
  | p :: P, w :: vs, 0, m, nd, h1, h2, hk => by
    simp at h1 h2; subst h1; subst h2
    show bindL kindOf ((p, w) :: P.zip vs) m p = _
    unfold bindL
    rw [bindL_out fun v hv => (List.nodup_cons.mp nd).1 (List.of_mem_zip hv).1, if_pos hk]
    simp
  | p :: P, w :: vs, i + 1, m, nd, h1, h2, hk => by
    show bindL kindOf ((p, w) :: P.zip vs) m x = _
    unfold bindL
    exact bindL_get (i := i) (List.nodup_cons.mp nd).2 (by simpa using h1) (by simpa using h2) hk
theorem bindC_get {kindOf : Str → Option NameKind} {x : Str} {v : Value} : ∀ {P : List Str} {vs : List Value} {i : Nat} {m : Str → Option Value}, P.Nodup → P[i]? = some x → vs[i]? = some v → kindOf x ≠ some .local →
    bindC kindOf (P.zip vs) m x = some v
  | [], _, _, _, _, h, _, _ => by simp at h
  | _ :: _, [], _, _, _, _, h, _ => by simp at h
  | p :: P, w :: vs, 0, m, nd, h1, h2, hk => by
    simp at h1 h2; subst h1; subst h2
    show bindC kindOf ((p, w) :: P.zip vs) m p = _
    unfold bindC
    rw [bindC_out fun v hv => (List.nodup_cons.mp nd).1 (List.of_mem_zip hv).1, if_neg hk]
    simp
  | p :: P, w :: vs, i + 1, m, nd, h1, h2, hk => by
    show bindC kindOf ((p, w) :: P.zip vs) m x = _
    unfold bindC
    exact bindC_get (i := i) (List.nodup_cons.mp nd).2 (by simpa using h1) (by simpa using h2) hk

/-- the names' values at the entry -/
def start (N : List Str) (vs : List V) : St := vs.map some ++ List.replicate (N.length - vs.length) none

/-- the context of a def's body, at its entry; an exception leaves the frame, then lies as CX says -/
def cxOf (CX : CXT) (P : Program) (w : World) (K : PySem.W.Frag) (mg : Str → Option Value) (base : Heap) (N : List Str) (qual : Str) (scope : Scope) (f : Addr) (cd : Value) (A : Around) (outer : List Env) (s : Shared) (H : Hp) (E : XK) : Cx where
  prog := P
  w := w
  K := K
  mg := mg
  base := base
  A := A.deeper (envOfC qual scope s.heap.objs.size f cd)
  N := N
  s₀ := s
  H₀ := H
  env := envOfC qual scope s.heap.objs.size f cd
  outer := outer
  stack := envOfC qual scope s.heap.objs.size f cd :: outer
  ex := []
  calm := true
  fn := fun _ => true
  pn := []
  xe := fun e s' => wpAny (model P w) (A.deeper (envOfC qual scope s.heap.objs.size f cd)) (leaving (envOfC qual scope s.heap.objs.size f cd) e) (fun _ s'' => CX outer H s E e s'') (fun e' s'' => CX outer H s E e' s'') s'

theorem cell_has {sc : Scope} {n : Nat} {x : Str} (h : sc.names.lookup x = some .cell) : ∃ c, (cellsFrom n sc.names []).lookup x = some c := by
  have q := PySem.W.cellsFrom_some sc.names n [] (.inl h)
  exact Option.isSome_iff_exists.mp q

theorem inv_start {CX : CXT} {P : Program} {w : World} {K : PySem.W.Frag} {mg : Str → Option Value} {base : Heap} {N ps : List Str} {qual : Str} {scope : Scope} {f : Addr} {cd : Value} {A : Around} {outer : List Env} {s s1 : Shared} {H : Hp} {E : XK} {us : List Value} {vs : List V}
    (S : FnScope N ps scope) (hd : A.handled = none) (e0 : Env0 P w K mg base A outer s H) (hl : vs.length = ps.length) (r : Vals vs us)
    (x : InCallC s s.heap.objs.size (bindL (envOfC qual scope s.heap.objs.size f cd).kindOf (ps.zip us) fun _ => none) (cellsFrom (s.heap.objs.size + 1) scope.names []) (bindC (envOfC qual scope s.heap.objs.size f cd).kindOf (ps.zip us) fun _ => none) s1) :
    Inv (cxOf CX P w K mg base N qual scope f cd A outer s H E) [] (start N vs) H s1 := by
  have hpl : ps.length ≤ N.length := by have := congrArg List.length S.pre; rw [List.length_take] at this; omega
  obtain ⟨h1, tk, rfl, hk⟩ := x.done
  have noA : ∀ b : Addr, b ∉ (cxOf CX P w K mg base N qual scope f cd A outer s H E).ex := fun b z => absurd (show b ∈ ([] : List Addr) from z) (by simp)
  refine ⟨⟨e0.mod, S.kind, rfl, rfl, Nat.le_refl _, fun y z c h1 h2 => ?_, fun y hy => ?_, fun y c _ h => ?_, fun _ => hd, Around.frames_deeper e0.frames, .inr ⟨rfl, rfl⟩, fun b z => absurd z (noA b), e0.bs, e0.bsz, fun b _ _ => noA b, fun b z => absurd z (noA b), e0.funs, e0.frf⟩,
    rfl, e0.bare, Un.kept hk, ⟨_, x.toInCall.ns, fun i y v h1 h2 h3 => ?_⟩, fun y c h => ⟨_, x.cell y c h⟩, e0.hok.fresh (Nat.le_refl _), fun y c h => ?_, fun p hp => absurd (show p ∈ ([] : List (Addr × Obj)) from hp) (by simp), e0.hok.kept hk, ?_⟩
  · exact name_of_addr x.apart (PySem.mem_of_lookup h1) (PySem.mem_of_lookup h2)
  · have hy : scope.names.lookup y = some .cell ∨ scope.names.lookup y = some .free := hy
    rcases hy with hy | hy
    · exact cell_has hy
    · exact absurd rfl (S.nofree _ (PySem.mem_of_lookup hy))
  · exact Nat.le_of_lt (x.above y c (PySem.mem_of_lookup h))
  · have hi : i < vs.length := by
      unfold start at h2
      by_cases hi : i < vs.length
      · exact hi
      · rw [List.getElem?_append_right (by simpa using hi)] at h2
        rw [List.getElem?_replicate] at h2
        split at h2 <;> cases h2
    have ha : vs[i]? = some v := by
      unfold start at h2
      rw [List.getElem?_append_left (by simpa using hi), List.getElem?_map] at h2
      cases e : vs[i]? with
      | none => rw [e] at h2; cases h2
      | some a => rw [e] at h2; cases h2; rfl
    obtain ⟨u, hu, rv⟩ := r.get ha
    have hp : ps[i]? = some y := by
      rw [← S.pre, List.getElem?_take_of_lt (by omega)]; exact h1
    have ndP : ps.Nodup := by rw [← S.pre]; exact S.nd.sublist (List.take_sublist _ _)
    refine ⟨u, rv, ?_⟩
    rcases S.par y (List.mem_of_getElem? hp) with k | k
    · exact .inl ⟨k, bindL_get ndP hp hu k⟩
    · obtain ⟨c, e⟩ := cell_has (n := s.heap.objs.size + 1) k
      refine .inr ⟨.inl k, c, e, ?_⟩
      have q := x.cell y c e
      rw [bindC_get ndP hp hu (by show scope.names.lookup y ≠ _; rw [k]; decide)] at q
      exact q
  · exact e0.hok.fresh (Nat.le_of_lt (x.above y c (PySem.mem_of_lookup h)))
  · unfold start
    show _ = N.length
    rw [List.length_append, List.length_map, List.length_replicate]
    omega

/-- THE RULE: a def (or a method) of the text, by its body. The body's reading t is chosen for each entry; it is run at the parameters' values -/
theorem fn_of {CX : CXT} {P : Program} {w : World} {K : PySem.W.Frag} {mg : Str → Option Value} {base : Heap} {k : Nat} {f : Addr} {name qual : Str} {params : Arguments} {body : List Stmt} {scope : Scope} {dV kV doc pm cdv ct oc : Value} {an od : Option Addr}
    {osl : Array (Option Value)} {N ps : List Str} {sp : Sp} (lk : K.lookup f = some ⟨oc, od, .func (PySem.W.fnOf name qual params body scope dV kV doc pm an cdv ct), osl⟩) (hcd : PySem.W.codeIn K cdv qual = true) (S : FnScope N ps scope)
    (len : ∀ vs H Q E, sp vs H Q E → vs.length = ps.length)
    (hbody : ∀ (A : Around) (outer : List Env) (s : Shared) (H : Hp) (vs : List V) (Q : VK) (E : XK), Room k (A.deeper (envOfC qual scope s.heap.objs.size f cdv)) → sp vs H Q E →
      ∃ t, PSs (cxOf CX P w K mg base N qual scope f cdv A outer s H E) body t ∧ t { nx := fun _ H' => Q .non H', rt := Q } (start N vs) H) :
    FnOk P w K mg base CX (k + 1) f (PySem.W.fnOf name qual params body scope dV kV doc pm an cdv ct) ps sp := by
  refine ⟨len, fun A outer s H args us vs Q E hr e0 hb r hsp => ?_⟩
  have hl := len _ _ _ _ hsp
  have KX : K.In s.heap := e0.mod.kin.keeps fun b o e => (e0.bs b o e).1
  have lim : s.heap.NoLimit := e0.mod.nolimit.keeps fun b o e => (e0.bs b o e).1
  have hkind : ∀ y ∈ ps.zip us, scope.names.lookup y.1 = some .local ∨ (scope.names.lookup y.1 = some .cell ∧ ((cellsFrom (s.heap.objs.size + 1) scope.names []).lookup y.1).isSome = true) := fun ⟨n, v⟩ hy => by
    rcases S.par n (List.of_mem_zip hy).1 with q | q
    · exact .inl q
    · exact .inr ⟨q, PySem.W.cellsFrom_some _ _ _ (.inl q)⟩
  refine codeAny_call_function hr.depth (KX _ _ lk) rfl S.co S.gen rfl (PySem.W.codeRec_of KX hcd) (hb _ _ _ _ ?_)
  refine wpAny_newFunctionEnv_cells S.kind hkind fun env he s1 x => ?_
  subst he
  refine ⟨lim.keeps x.toInCall.keep, codeAny_func ?_⟩
  obtain ⟨t, ht, hq⟩ := hbody A outer s H vs Q E (hr.deeper _) hsp
  have I : Inv (cxOf CX P w K mg base N qual scope f cdv A outer s H E) [] (start N vs) H s1 := inv_start S hr.hd e0 hl r x
  refine wpAny_mono (ht [] s1 (start N vs) H _ I hq) (fun fl s' hs => ?_) fun e s' hs => hs
  have fin : ∀ {σ' : St} {H' : Hp} {v : V} {u : Value}, Inv (cxOf CX P w K mg base N qual scope f cdv A outer s H E) [] σ' H' s' → RelV v u → Q v H' → CE outer P w H s Q u s' :=
    fun {σ' H' v u} J rv q => ⟨v, H', J.os, J.bare, J.base, J.hok, rv, q⟩
  cases fl with
  | ret u =>
    obtain ⟨v, σ', H', J, rv, q⟩ := hs
    exact fin J rv q
  | next =>
    obtain ⟨σ', H', J, q⟩ := hs
    exact fin (v := V.non) (u := Value.none) J rfl q
  | brk =>
    obtain ⟨_, _, _, q⟩ := hs
    exact False.elim q
  | cont =>
    obtain ⟨_, _, _, q⟩ := hs
    exact False.elim q
end L2

namespace L2
open PySem PySem.Spec PyProof.Rows
section
variable {X : Cx} {x : Str} {p pos : Pos} {e : Expr} {es : List Expr} {t : TA} {id T : String} {r : List V → Hp → VK → Prop}

def tCB (r : List V → Hp → VK → Prop) (t : TA) : TE := fun σ H Q => t σ H fun vs H1 => r vs H1 Q
/-- f(e, ..), f a built-in function -/
theorem pe_callB (hc : CallR X (.builtin id) r) (hg : Gl X x) (hm : X.mg x = none) (hv : bootBuiltins x = some (.builtin id)) (ha : PA X (e :: es) t) (hn : x ≠ "__name__" := by decide) (hdb : (x == ("__debug__" : Str)) = false := by decide)
    (he : starEach (e :: es) X.env = (false, eval e X.env) :: starEach es X.env := by rfl) (hpl : (backTo pos (starEach es X.env)).any (·.1) = false := by rfl) : PE X (.Call (.Name x p) (e :: es) [] pos) (tCB r t) := by
  intro pins s σ H Q I h
  refine wpAny_Call_Name_kw (ld_blt I hg hm hv ?_ hn hdb)
  exact PyProof.Rows.callWith_builtin1 (thn (ha pos pins s σ H _ I h) fun us s1 ⟨vs, H1, I1, r1, q1⟩ => hc pins s1 σ H1 vs us Q I1 r1 q1) he hpl
/-- T(e, ..), T a built-in type -/
theorem pe_callTy (hc : CallR X (.type T) r) (hg : Gl X x) (hm : X.mg x = none) (hv : bootBuiltins x = some (.type T)) (ha : PA X (e :: es) t) (hn : x ≠ "__name__" := by decide) (hdb : (x == ("__debug__" : Str)) = false := by decide)
    (he : starEach (e :: es) X.env = (false, eval e X.env) :: starEach es X.env := by rfl) (hpl : (backTo pos (starEach es X.env)).any (·.1) = false := by rfl) : PE X (.Call (.Name x p) (e :: es) [] pos) (tCB r t) := by
  intro pins s σ H Q I h
  refine wpAny_Call_Name_kw (ld_blt I hg hm hv ?_ hn hdb)
  exact PyProof.Rows.callWith_type1 (thn (ha pos pins s σ H _ I h) fun us s1 ⟨vs, H1, I1, r1, q1⟩ => hc pins s1 σ H1 vs us Q I1 r1 q1) he hpl
end
end L2

namespace HT
open PySem PyProof.Rows

section
open PySem.SeqAt
open PySem.AutoSeq1 (wpAny_loadPart')
open PySem.MeetsSeq PySem.MeetsSeq2 PySem.MeetsSeq3

end

section
variable {prog : Program} {w : World} {A : Around} {E : Value → Shared → Prop} {s : Shared}

/-! ### t[a:b], not the whole -/
/-- a slice's bound as a place among n (d where it is left out) -/
def sIx (n d : Nat) : Option Int → Nat
  | none => d
  | some v => if v < 0 then (v + (n : Int)).toNat else min v.toNat n
theorem sIx_nat (n d k : Nat) : sIx n d (some (k : Int)) = min k n := by
  show (if (k : Int) < 0 then ((k : Int) + (n : Int)).toNat else min (k : Int).toNat n) = min k n
  rw [if_neg (by omega), Int.toNat_natCast]
theorem sIx_le (n d : Nat) (hd : d ≤ n) (o : Option Int) : sIx n d o ≤ n := by
  cases o with
  | none => exact hd
  | some v =>
    show (if v < 0 then (v + (n : Int)).toNat else min v.toNat n) ≤ n
    by_cases hv : v < 0
    · rw [if_pos hv]; omega
    · rw [if_neg hv]; exact Nat.min_le_right _ _
theorem clip_eq (v : Int) (n d : Nat) : (if v < 0 then max (v + (n : Int)) 0 else min v (n : Int)) = ((sIx n d (some v) : Nat) : Int) := by
  show (if v < 0 then max (v + (n : Int)) 0 else min v (n : Int)) = (((if v < 0 then (v + (n : Int)).toNat else min v.toNat n) : Nat) : Int)
  by_cases hv : v < 0
  · simp only [if_pos hv]; omega
  · simp only [if_neg hv]; omega
theorem adjust_gen (lo hi : Option Int) (n : Nat) : Builtin.Slice.sliceAdjust lo hi 1 (n : Int) = (((sIx n 0 lo : Nat) : Int), ((sIx n n hi : Nat) : Int)) := by
  have h1 : ¬ ((1 : Int) < 0) := by omega
  unfold Builtin.Slice.sliceAdjust
  simp only [h1, if_false]
  refine Prod.ext ?_ ?_
  · cases lo with
    | none => rfl
    | some v => exact clip_eq v n 0
  · cases hi with
    | none => rfl
    | some v => exact clip_eq v n n
theorem places_gen (i j : Nat) : Builtin.Slice.slicePlaces (i : Int) (j : Int) 1 = j - i := by
  unfold Builtin.Slice.slicePlaces
  have h1 : (1 : Int) > 0 := by omega
  simp only [h1, if_true, Int.ediv_one]
  split <;> omega
theorem slicePart_ {v : Value} {o : Option Int} {Q : Option Int → Shared → Prop} (p : IsPart v o) (h : Q o s) : wpAny (model prog w) A (Builtin.Slice.slicePartIndex v) Q E s := by
  cases p with
  | none => exact slicePart_none h
  | int i t => exact slicePart_int h
theorem sliceApplied_gen {sl : Addr} {vl vu : Value} {lo hi : Option Int} {n : Nat} {Q : Int × Int × Nat → Shared → Prop} (hs : s.heap.IsSliceOf sl vl vu .none) (pl : IsPart vl lo) (pu : IsPart vu hi)
    (h : Q (((sIx n 0 lo : Nat) : Int), 1, sIx n n hi - sIx n 0 lo) s) : wpAny (model prog w) A (Builtin.Slice.sliceApplied (.ref sl) (pure (n : Int))) Q E s := by
  obtain ⟨os, hos, hcs, hds⟩ := id hs
  unfold Builtin.Slice.sliceApplied Builtin.Slice.sliceFields
  refine wpAny_bind (wpAny_bind (wpAny_field hos hds (x := vl) rfl (wpAny_bind (wpAny_field hos hds (x := vu) rfl (wpAny_bind (wpAny_field hos hds (x := .none) rfl (wpAny_pure ?_)))))))
  refine wpAny_bind (slicePart_none ?_)
  show wpAny _ _ (if ((1 : Int) == 0) = true then _ else _) _ _ s
  rw [if_neg (by decide)]
  refine wpAny_bind (slicePart_ pl (wpAny_bind (slicePart_ pu (wpAny_bind (wpAny_pure ?_)))))
  show wpAny _ _ (match Builtin.Slice.sliceAdjust lo hi 1 (n : Int) with | (lo, hi) => pure (lo, (1 : Int), Builtin.Slice.slicePlaces lo hi 1)) _ _ s
  rw [adjust_gen lo hi n]
  show wpAny _ _ (pure (((sIx n 0 lo : Nat) : Int), (1 : Int), Builtin.Slice.slicePlaces ((sIx n 0 lo : Nat) : Int) ((sIx n n hi : Nat) : Int) 1)) _ _ s
  rw [places_gen]
  exact wpAny_pure h
theorem pick_gen (xs : Array Value) (i k : Nat) : ((List.range k).filterMap fun (m : Nat) => xs[((i : Int) + (m : Int) * 1).toNat]?).toArray = ((xs.toList.drop i).take k).toArray := by
  have e : (fun (m : Nat) => xs[((i : Int) + (m : Int) * 1).toNat]?) = fun m => xs[i + m]? := by
    funext m
    have : ((i : Int) + (m : Int) * 1).toNat = i + m := by omega
    rw [this]
  rw [e]
  have := pick_run xs i k
  rw [List.filterMap_map] at this
  have e2 : ((fun x => xs[x]?) ∘ fun x => i + x) = fun m => xs[i + m]? := rfl
  rw [e2] at this
  rw [this]

theorem getItem_tuple_cut {t sl : Addr} {items : Array Value} {vl vu : Value} {lo hi : Option Int} {Q : Value → Shared → Prop} (ht : IsTup s.heap t items) (hs : s.heap.IsSliceOf sl vl vu .none) (pl : IsPart vl lo) (pu : IsPart vu hi)
    (hw : ¬ (sIx items.size 0 lo = 0 ∧ sIx items.size items.size hi = items.size))
    (h : Q (.ref s.heap.objs.size) { s with heap := s.heap.push { cls := .type "tuple", data := .seq ((items.toList.drop (sIx items.size 0 lo)).take (sIx items.size items.size hi - sIx items.size 0 lo)).toArray } })
    (hsz : items.size ≤ sizeLine) : wpAny (model prog w) A (getItem (.ref t) (.ref sl)) Q E s := by
  have htake : sizeOk (.seq ((items.toList.drop (sIx items.size 0 lo)).take (sIx items.size items.size hi - sIx items.size 0 lo)).toArray) := by
    show ((items.toList.drop (sIx items.size 0 lo)).take (sIx items.size items.size hi - sIx items.size 0 lo)).toArray.size ≤ sizeLine
    rw [List.size_toArray, List.length_take, List.length_drop, Array.length_toList]
    omega
  have hj : sIx items.size items.size hi ≤ items.size := sIx_le _ _ (Nat.le_refl _) hi
  obtain ⟨os, hos, hcs, hds⟩ := id hs
  have hTs : s.TypeIs (.ref sl) "slice" := ⟨os, hos, hcs⟩
  unfold getItem
  try with_reducible refine wpAny_holding ?_
  first | refine wpAny_bind (wpAny_pure ?_) | skip
  refine wpAny_bind (wpAny_sequenceKey ht.typeIs (by decide) ?_)
  refine wpAny_bind (wpAny_callSpecial?_slot (name := Str.ofString "__getitem__") ht.typeIs PyProof.Rows.slot_tuple_getitem
    (wpAny_call_entry PyProof.Rows.slot_tuple_getitem ht.typeIs entry_tuple_getitem ?_ (args_tuple_getitem _ _)))
  show wpAny _ _ (Builtin.Tuple.tupleItemsOf (.ref t) >>= _) _ _ s
  refine wpAny_bind (tupleItemsOf_ ht ?_)
  refine wpAny_bind (wpAny_typeOf hTs ?_)
  rw [if_pos (by decide)]
  refine wpAny_bind (sliceApplied_gen hs pl pu ?_)
  have hno : ¬ ((((sIx items.size 0 lo : Nat) : Int) == 0 && (1 : Int) == 1 && (sIx items.size items.size hi - sIx items.size 0 lo) == items.size) = true) := by
    intro q
    rw [Bool.and_eq_true, Bool.and_eq_true] at q
    have q1 : ((sIx items.size 0 lo : Nat) : Int) = 0 := eq_of_beq q.1.1
    have q2 : sIx items.size items.size hi - sIx items.size 0 lo = items.size := eq_of_beq q.2
    exact hw ⟨by omega, by omega⟩
  show wpAny _ _ (if (((sIx items.size 0 lo : Nat) : Int) == 0 && (1 : Int) == 1 && (sIx items.size items.size hi - sIx items.size 0 lo) == items.size) = true then _ else _) _ _ s
  rw [if_neg hno, pick_gen]
  first
    | exact wpAny_bind (m := Builtin.Tuple.tupleExact _) (wpAny_newObj_type (wpAny_pure ⟨_, rfl, wpAny_pure h⟩) htake)
    | exact wpAny_bind (m := Builtin.Tuple.tupleExact _) (wpAny_newObj_type (wpAny_bind (wpAny_pure (wpAny_pure ⟨_, rfl, wpAny_pure h⟩))) htake)
    | exact wpAny_bind (wpAny_bind (m := Builtin.Tuple.tupleExact _) (wpAny_newObj_type (wpAny_pure (wpAny_pure ⟨_, rfl, wpAny_pure h⟩)) htake))
    | exact wpAny_bind (wpAny_bind (m := Builtin.Tuple.tupleExact _) (wpAny_newObj_type (wpAny_pure ⟨_, rfl, wpAny_pure h⟩) htake))
end
end HT

namespace L2
open PySem PySem.Spec PyProof.Rows

/-! ### the parts of a slice -/
abbrev TO := St → Hp → (Option Int → Hp → Prop) → Prop
/-- a slice's part (left out, or an int) -/
def PO (X : Cx) (e : Option Expr) (t : TO) : Prop :=
  ∀ (pins : List (Addr × Obj)) (s : Shared) (σ : St) (H : Hp) (Q : Option Int → Hp → Prop), Inv X pins σ H s → t σ H Q →
    wpAny (model X.prog X.w) X.A (evalPart e X.env) (fun u s' => ∃ o H', Inv X pins σ H' s' ∧ IsPart u o ∧ Q o H') X.xe s
def tNoPart : TO := fun _ H Q => Q none H
def tPart (t : TE) : TO := fun σ H Q => t σ H fun x H1 => ∃ i, x = .int i ∧ Q (some i) H1

section
variable {X : Cx} {e : Expr} {te : TE} {lo hi : Option Expr} {tl th : TO} {pos p2 : Pos}

theorem po_none : PO X none tNoPart := by
  intro pins s σ H Q I h
  rw [evalPart_none]
  exact wpAny_pure ⟨none, H, I, .none, h⟩
theorem po_some (h : PE X e te) : PO X (some e) (tPart te) := by
  intro pins s σ H Q I hw
  rw [evalPart_some]
  refine thn (h pins s σ H _ I hw) fun u s1 ⟨x, H1, I1, r1, q1⟩ => ?_
  obtain ⟨i, rfl, q⟩ := q1
  obtain ⟨t, rfl⟩ := r1
  exact ⟨some i, H1, I1, .int i t, q⟩

/-- what a slice of a value is, by values: the slice object stands at sl -/
def SlR (X : Cx) (r : V → Option Int → Option Int → Hp → VK → Prop) : Prop :=
  ∀ (pins : List (Addr × Obj)) (s : Shared) (σ : St) (H : Hp) (x : V) (v vl vu : Value) (lo hi : Option Int) (sl : Addr) (Q : VK), Inv X pins σ H s → RelV x v → s.heap.IsSliceOf sl vl vu .none → IsPart vl lo → IsPart vu hi → r x lo hi H Q →
    ∃ T id, typeLookup (.type T) "__getitem__" = pure (some (.builtin id)) ∧ s.TypeIs v T ∧ wpAny (model X.prog X.w) X.A (getItem v (.ref sl)) (EP X pins σ Q) X.xe s
theorem SlR.or {r r' : V → Option Int → Option Int → Hp → VK → Prop} (h : SlR X r) (h' : SlR X r') : SlR X (fun x lo hi H Q => r x lo hi H Q ∨ r' x lo hi H Q) := by
  intro pins s σ H x v vl vu lo hi sl Q I rx hs pl pu q
  rcases q with q | q
  · exact h pins s σ H x v vl vu lo hi sl Q I rx hs pl pu q
  · exact h' pins s σ H x v vl vu lo hi sl Q I rx hs pl pu q
def tSl (r : V → Option Int → Option Int → Hp → VK → Prop) (te : TE) (tl th : TO) : TE := fun σ H Q => te σ H fun x H1 => tl σ H1 fun l H2 => th σ H2 fun u H3 => r x l u H3 Q
/-- a[lo:hi], any a -/
theorem pe_slice {r : V → Option Int → Option Int → Hp → VK → Prop} (hr : SlR X r) (he : PE X e te) (hl : PO X lo tl) (hu : PO X hi th) : PE X (.Subscript e (.Slice lo hi none p2) pos) (tSl r te tl th) := by
  intro pins s σ H Q I h
  refine Subscript_ (thn (he pins s σ H _ I h) fun v s1 ⟨x, H1, I1, r1, q1⟩ => ?_)
  refine wpAny_Slice (thn (hl pins s1 σ H1 _ I1 q1) fun vl s2 ⟨l, H2, I2, pl, q2⟩ => thn (hu pins s2 σ H2 _ I2 q2) fun vu s3 ⟨u, H3, I3, pu, q3⟩ => ?_)
  rw [evalPart_none]
  refine wpAny_pure ?_
  have I4 : Inv X pins σ H3 { s3 with heap := s3.heap.push { cls := .type "slice", data := .fields #[vl, vu, .none] } } := I3.kept (t' := s3.toks) fun b ob q => Heap.get?_push_of_some _ q
  obtain ⟨T, id, hT, ht, hg⟩ := hr pins { s3 with heap := s3.heap.push { cls := .type "slice", data := .fields #[vl, vu, .none] } } σ H3 x v vl vu l u s3.heap.objs.size Q I4 r1 (Heap.IsSliceOf.new ..) pl pu q3
  show wpAny (model X.prog X.w) X.A (subscriptTail e (.Slice lo hi none p2) v (.ref s3.heap.objs.size)) (EP X pins σ Q) X.xe { s3 with heap := s3.heap.push { cls := .type "slice", data := .fields #[vl, vu, .none] } }
  exact tail_any (ops := [.ref s3.heap.objs.size, v]) ht hT hg (by with_unfolding_all rfl)

/-- the items of xs[lo:hi] -/
def cutV (xs : List V) (lo hi : Option Int) : List V := (xs.drop (HT.sIx xs.length 0 lo)).take (HT.sIx xs.length xs.length hi - HT.sIx xs.length 0 lo)
theorem cutV_length (xs : List V) (lo hi : Option Int) : (cutV xs lo hi).length ≤ xs.length := by
  unfold cutV
  rw [List.length_take, List.length_drop]
  omega
/-- t[lo:hi], not the whole of it (the whole would be t itself) -/
def rSlT (K : PySem.W.Frag) : V → Option Int → Option Int → Hp → VK → Prop := fun x lo hi H Q => ∃ a xs, x = .ref a ∧ SqT K H a xs ∧
  ¬ (HT.sIx xs.length 0 lo = 0 ∧ HT.sIx xs.length xs.length hi = xs.length) ∧ ∀ p, H p = none → Q (.ref p) (upd H p (.tup (cutV xs lo hi)))
theorem sl_tup : SlR X (rSlT X.K) := by
  intro pins s σ H x v vl vu lo hi sl Q I rx hs pl pu h
  obtain ⟨a, xs, rfl, hx, hw, q⟩ := h
  cases rx
  obtain ⟨its, r, ht, hz⟩ := I.tuple hx
  have hlen : its.toArray.size = xs.length := by rw [List.size_toArray]; exact r.length.symm
  refine ⟨"tuple", _, PyProof.Rows.slot_tuple_getitem.lookup, ht.typeIs, ?_⟩
  refine HT.getItem_tuple_cut ht hs pl pu (by rw [hlen]; exact hw) ?_ (by rw [hlen]; exact hz)
  rw [hlen]
  refine ⟨.ref s.heap.objs.size, _, I.laid (t' := s.toks) (o := .tup (cutV xs lo hi)) (fun b ob q => Heap.get?_push_of_some _ q) (Nat.le_refl _) ?_, rfl, q _ (I.hok.fresh (Nat.le_refl _))⟩
  exact ⟨Nat.le_trans (cutV_length xs lo hi) hz, _, (r.drop (HT.sIx xs.length 0 lo)).take (HT.sIx xs.length xs.length hi - HT.sIx xs.length 0 lo), IsTup.new _ _⟩

/-! ### t < u, t + u -/
end
end L2

namespace L2
open PySem PySem.Spec PyProof.Rows

/-! ### places -/
/-- the place that an index of any sign means -/
def ixN (n : Nat) (i : Int) : Option Nat := if 0 ≤ i then (if i < n then some i.toNat else none) else if -(n : Int) ≤ i then some (i + n).toNat else none
def atI {α : Type} (xs : List α) (i : Int) : Option α := (ixN xs.length i).bind fun j => xs[j]?
theorem ixN_seq {n : Nat} {i : Int} {j : Nat} (h : ixN n i = some j) : seqIndex? i n = some j ∧ j < n ∧ -(n : Int) ≤ i ∧ i < n := by
  unfold ixN at h
  by_cases h0 : 0 ≤ i
  · rw [if_pos h0] at h
    by_cases h1 : i < n
    · rw [if_pos h1] at h
      have e : i.toNat = j := Option.some.inj h
      exact ⟨by rw [seqIndex_of h0 h1, e], by omega, by omega, h1⟩
    · rw [if_neg h1] at h; cases h
  · rw [if_neg h0] at h
    by_cases h1 : -(n : Int) ≤ i
    · rw [if_pos h1] at h
      have e : (i + n).toNat = j := Option.some.inj h
      exact ⟨by rw [seqIndex_neg (by omega) h1, e], by omega, h1, by omega⟩
    · rw [if_neg h1] at h; cases h
theorem atI_get {α : Type} {xs : List α} {i : Int} {v : α} (h : atI xs i = some v) : ∃ j, seqIndex? i xs.length = some j ∧ xs[j]? = some v ∧ j < xs.length ∧ -(xs.length : Int) ≤ i ∧ i < xs.length := by
  unfold atI at h
  cases e : ixN xs.length i with
  | none => rw [e] at h; cases h
  | some j =>
    rw [e] at h
    obtain ⟨h1, h2, h3, h4⟩ := ixN_seq e
    exact ⟨j, h1, h, h2, h3, h4⟩
theorem atI_nat {α : Type} {xs : List α} {j : Nat} {v : α} (h : xs[j]? = some v) : atI xs (j : Int) = some v := by
  have hj : j < xs.length := (List.getElem?_eq_some_iff.mp h).1
  have e : ixN xs.length (j : Int) = some j := by
    unfold ixN
    rw [if_pos (by omega), if_pos (by omega)]; simp
  unfold atI; rw [e]; exact h
/-! ### what may be subscripted -/
/-- what stands as an index of a plain subscript -/
def PlainIx (b : Expr) : Prop := ∀ o i, subscripted b false o i = operate [o, i] (getItem o i)
/-- a subscript by values -/
def IxR (X : Cx) (r : R2) : Prop :=
  ∀ (value slice : Expr) (pins : List (Addr × Obj)) (s : Shared) (σ : St) (H : Hp) (x y : V) (v u : Value) (Q : VK), Inv X pins σ H s → RelV x v → RelV y u → r x y H Q →
    subscripted slice false v u = operate [v, u] (getItem v u) → wpAny (model X.prog X.w) X.A (subscriptTail value slice v u) (EP X pins σ Q) X.xe s
/-- a call of a builtin's method by values: the receiver, the arguments -/
def MtR (X : Cx) (id : String) (r : V → List V → Hp → VK → Prop) : Prop :=
  ∀ (pins : List (Addr × Obj)) (s : Shared) (σ : St) (H : Hp) (x : V) (xs : List V) (v : Value) (us : List Value) (Q : VK), Inv X pins σ H s → RelV x v → Vals xs us → r x xs H Q →
    wpAny (model X.prog X.w) X.A (call (.builtin id) (v :: us)) (EP X pins σ Q) X.xe s
section
variable {X : Cx} {a b : Expr} {ta tb : TE} {pos : Pos}
theorem IxR.or {r r' : R2} (h : IxR X r) (h' : IxR X r') : IxR X (fun x y H Q => r x y H Q ∨ r' x y H Q) := by
  intro value slice pins s σ H x y v u Q I rx ry q hs
  rcases q with q | q
  · exact h value slice pins s σ H x y v u Q I rx ry q hs
  · exact h' value slice pins s σ H x y v u Q I rx ry q hs
theorem MtR.or {id : String} {r r' : V → List V → Hp → VK → Prop} (h : MtR X id r) (h' : MtR X id r') : MtR X id (fun x xs H Q => r x xs H Q ∨ r' x xs H Q) := by
  intro pins s σ H x xs v us Q I rx rs q
  rcases q with q | q
  · exact h pins s σ H x xs v us Q I rx rs q
  · exact h' pins s σ H x xs v us Q I rx rs q
/-- a[b] -/
theorem pe_ix {r : R2} (hr : IxR X r) (ha : PE X a ta) (hb : PE X b tb) (hs : PlainIx b) : PE X (.Subscript a b pos) (tOp r ta tb) := by
  intro pins s σ H Q I h
  exact Subscript_ (binT ha hb I h fun v u s2 x y H2 I2 rx ry q => hr a b pins s2 σ H2 x y v u Q I2 rx ry q (hs _ _))

def rIxL (K : PySem.W.Frag) : R2 := fun x y H Q => ∃ p xs i v, x = .ref p ∧ y = .int i ∧ SqL K H p xs ∧ atI xs i = some v ∧ Q v H
def rIxS : R2 := fun x y H Q => ∃ z i c, x = .str z ∧ y = .int i ∧ z.length ≤ sizeLine ∧ atI z.cps.toList i = some c ∧ Q (.str ⟨#[c]⟩) H
theorem ix_list : IxR X (rIxL X.K) := by
  intro value slice pins s σ H x y v u Q I rx ry h hs
  obtain ⟨p, xs, i, z, rfl, rfl, hq, he, q⟩ := h
  cases rx
  obtain ⟨t, rfl⟩ := ry
  obtain ⟨its, r, pl, hz⟩ := I.list hq
  obtain ⟨j, h1, h2, h3, h4, h5⟩ := atI_get he
  obtain ⟨w, ew, rw'⟩ := r.get h2
  have hl := r.length
  have hn := line63
  have fin : EP X pins σ Q w s := ⟨z, H, I, rw', q⟩
  by_cases h0 : 0 ≤ i
  · have hj : i.toNat = j := by
      rw [seqIndex_of h0 h5] at h1
      exact Option.some.inj h1
    exact item_listR pl.isList h0 (by omega) (by rw [hj]; simpa using ew) fin hs
  · have hj : (i + (its.toArray.size : Int)).toNat = j := by
      rw [seqIndex_neg (by omega) h4] at h1
      rw [List.size_toArray, ← hl]
      exact Option.some.inj h1
    exact subscriptTail_builtinR (x := w) pl.isList.typeIs slot_list_getitem.lookup
      (wpAny_getItem_list_neg (Q := fun r s' => r = w ∧ EP X pins σ Q r s') pl.isList (by omega) (by rw [List.size_toArray] <;> omega) (by omega) (by rw [hj]; simpa using ew) ⟨rfl, fin⟩) hs
theorem ix_str : IxR X rIxS := by
  intro value slice pins s σ H x y v u Q I rx ry h hs
  obtain ⟨z, i, c, rfl, rfl, hz, he, q⟩ := h
  obtain ⟨t, rfl⟩ := rx
  obtain ⟨t', rfl⟩ := ry
  obtain ⟨j, h1, h2, h3, h4, h5⟩ := atI_get he
  have hl : z.cps.toList.length = z.length := by simp [Str.length]
  rw [hl] at h1 h4 h5
  have hn := line63
  exact tail_any (typeIs_str s z t) slot_str_getitem.lookup (getItem_str (c := c) (by
    have e1 : decide (i < -(2 ^ 63 : Int)) = false := decide_eq_false (by omega)
    have e2 : decide (i ≥ 2 ^ 63) = false := decide_eq_false (by omega)
    rw [e1, e2, Bool.or_false]) (by rw [h1]; simpa using h2) ⟨.str ⟨#[c]⟩, H, I.tok _, ⟨_, rfl⟩, q⟩) hs
/-! ### xs[i] = v, any sign -/
/-- the list's object behind a store -/
theorem mapSeq_set (its : List Value) (n j : Nat) (u : Value) : Obj.mapSeq (·.setIfInBounds j u) { cls := .type "list", data := .seq its.toArray n } = { cls := .type "list", data := .seq (its.set j u).toArray n } := by
  simp [Obj.mapSeq]
theorem Inv.lst {pins : List (Addr × Obj)} {σ : St} {H : Hp} {s : Shared} {p : Addr} {xs : List V} (I : Inv X pins σ H s) (h : H p = some (.lst xs)) :
    ∃ (its : List Value) (n : Nat), Vals xs its ∧ s.heap.get? p = some { cls := .type "list", data := .seq its.toArray n } ∧ xs.length ≤ sizeLine := by
  obtain ⟨z, its, n, r, e⟩ := I.hok p _ h
  exact ⟨its, n, r, e, z⟩
/-- the list at p is written by an update of its object -/
theorem Inv.lstUpd {pins : List (Addr × Obj)} {σ : St} {H : Hp} {s : Shared} {p : Addr} {xs ys : List V} {its its' : List Value} {n n' : Nat} {f : Obj → Obj} (I : Inv X pins σ H s) (h : H p = some (.lst xs))
    (ho : s.heap.get? p = some { cls := .type "list", data := .seq its.toArray n }) (hf : f { cls := .type "list", data := .seq its.toArray n } = { cls := .type "list", data := .seq its'.toArray n' }) (r : Vals ys its') (hz : ys.length ≤ sizeLine) (t : Nat) :
    Inv X pins σ (upd H p (.lst ys)) { s with heap := s.heap.update p f, toks := t } := by
  have e : (s.heap.update p f).get? p = some { cls := .type "list", data := .seq its'.toArray n' } := by
    rw [Heap.get?_update_self f ho (by rw [hf] <;> rfl), hf]
  refine I.write (x := p) (e := p) (by rw [h]; trivial) (.inl rfl) (fun b u hb q => (Heap.get?_update_other _ _ (Ne.symm hb)).trans q) ⟨_, e⟩ ?_
  exact ⟨hz, its', n', r, e⟩
def rSetL : V → V → V → Hp → (Hp → Prop) → Prop := fun o i v H Q => ∃ p xs k j, o = .ref p ∧ i = .int k ∧ H p = some (.lst xs) ∧ ixN xs.length k = some j ∧ Q (upd H p (.lst (xs.set j v)))
theorem set_list : PSet X rSetL := by
  intro pins s σ H o i v ov iv u Q I ro ri rv h
  obtain ⟨p, xs, k, j, rfl, rfl, hp, hj, q⟩ := h
  cases ro
  obtain ⟨t, rfl⟩ := ri
  obtain ⟨its, n, r, ho, hz⟩ := I.lst hp
  obtain ⟨h1, h2, h3, h4⟩ := ixN_seq hj
  have hl := r.length
  have hn := line63
  have I' : Inv X pins σ (upd H p (.lst (xs.set j v))) { s with heap := s.heap.update p (Obj.mapSeq (·.setIfInBounds j u)) } :=
    I.lstUpd hp ho (mapSeq_set its n j u) (r.set rv j) (by rw [List.length_set]; exact hz) s.toks
  by_cases h0 : 0 ≤ k
  · have hk : k.toNat = j := by
      rw [seqIndex_of h0 h4] at h1
      exact Option.some.inj h1
    exact PySem.W.ki_setAt ho h0 (by omega) (by rw [List.size_toArray, ← hl]; exact h4) (by rw [hk]; exact ⟨_, I', q⟩)
  · have hk : (k + (its.toArray.size : Int)).toNat = j := by
      rw [seqIndex_neg (by omega) h3] at h1
      rw [List.size_toArray, ← hl]
      exact Option.some.inj h1
    exact PySem.W.ki_setBack ho (by omega) (by rw [List.size_toArray, ← hl]; exact h3) (by omega) (by rw [hk]; exact ⟨_, I', q⟩)

/-! ### slices -/
theorem slice_bounds (lo hi : Option Int) (n : Nat) : (sliceBounds lo hi none n).1 = ((HT.sIx n 0 lo : Nat) : Int) ∧ (sliceBounds lo hi none n).2.1 = ((HT.sIx n n hi : Nat) : Int) ∧ (sliceBounds lo hi none n).2.2 = 1 := by
  refine ⟨?_, ?_, rfl⟩
  · cases lo with
    | none => simp [sliceBounds, HT.sIx]
    | some i =>
      simp only [sliceBounds, HT.sIx, Option.getD_none, show (1 : Int) > 0 by decide, if_true]
      by_cases h : i < 0
      · simp only [h, if_true] <;> omega
      · simp only [h, if_false] <;> omega
  · cases hi with
    | none => simp [sliceBounds, HT.sIx]
    | some i =>
      simp only [sliceBounds, HT.sIx, Option.getD_none, show (1 : Int) > 0 by decide, if_true]
      by_cases h : i < 0
      · simp only [h, if_true] <;> omega
      · simp only [h, if_false] <;> omega
theorem slicePick_cut (its : List Value) (lo hi : Option Int) : slicePick its.toArray lo hi none = ((its.drop (HT.sIx its.length 0 lo)).take (HT.sIx its.length its.length hi - HT.sIx its.length 0 lo)).toArray := by
  obtain ⟨h1, h2, h3⟩ := slice_bounds lo hi its.toArray.size
  unfold slicePick
  rw [h1, h2, h3]
  simp only [sliceRange_one, pick_run, List.size_toArray] <;> rfl
/-- xs[lo:hi] of a list: a new list -/
def rSlL (K : PySem.W.Frag) : V → Option Int → Option Int → Hp → VK → Prop := fun x lo hi H Q => ∃ a xs, x = .ref a ∧ SqL K H a xs ∧ ∀ p, H p = none → Q (.ref p) (upd H p (.lst (cutV xs lo hi)))
theorem sl_list : SlR X (rSlL X.K) := by
  intro pins s σ H x v vl vu lo hi sl Q I rx hs pl pu h
  obtain ⟨a, xs, rfl, hx, q⟩ := h
  cases rx
  obtain ⟨its, r, ht, hz⟩ := I.list hx
  have hlen := r.length
  refine ⟨"list", _, slot_list_getitem.lookup, ht.isList.typeIs, ?_⟩
  refine wpAny_getItem_list_slice ht.isList hs pl pu .none (by simp) ?_ (by rw [List.size_toArray] <;> omega)
  rw [slicePick_cut, ← hlen]
  refine ⟨.ref s.heap.objs.size, _, I.laid (t' := s.toks) (o := .lst (cutV xs lo hi)) (fun b ob q => Heap.get?_push_of_some _ q) (Nat.le_refl _) ?_, rfl, q _ (I.hok.fresh (Nat.le_refl _))⟩
  exact ⟨Nat.le_trans (cutV_length xs lo hi) hz, _, 0, (r.drop (HT.sIx xs.length 0 lo)).take (HT.sIx xs.length xs.length hi - HT.sIx xs.length 0 lo), Heap.get?_push_size _ rfl⟩

/-! ### in, not in: flat items -/
def flatV : V → Bool
  | .non => true
  | .bl _ => true
  | .int _ => true
  | .str _ => true
  | _ => false
/-- == of flat values -/
def eqV : V → V → Bool
  | .non, .non => true
  | .bl a, .bl b => a == b
  | .bl a, .int b => (if a then 1 else 0) == b
  | .int a, .bl b => a == (if b then 1 else 0)
  | .int a, .int b => a == b
  | .str a, .str b => a == b
  | _, _ => false
theorem eqAt_V {A : Around} {s : Shared} {y x : V} {u v : Value} (ry : RelV y u) (rx : RelV x v) (fy : flatV y = true) (fx : flatV x = true) : SeqAt.EqAt A s u v (eqV y x) := by
  cases y with
  | non =>
    cases ry
    cases x with
    | non => cases rx; exact SeqAt.EqAt.same _
    | bl b => cases rx; exact SeqAt.EqAt.none_bool b
    | int b => obtain ⟨t, rfl⟩ := rx; exact SeqAt.EqAt.none_int b t
    | str b => obtain ⟨t, rfl⟩ := rx; exact SeqAt.EqAt.none_str b t
    | _ => exact absurd (show false = true from fx) Bool.false_ne_true
  | bl a =>
    cases ry
    cases x with
    | non => cases rx; exact SeqAt.EqAt.bool_none a
    | bl b => cases rx; exact SeqAt.EqAt.bool_bool a b
    | int b => obtain ⟨t, rfl⟩ := rx; exact SeqAt.EqAt.bool_int a b t
    | str b => obtain ⟨t, rfl⟩ := rx; exact SeqAt.EqAt.bool_str a b t
    | _ => exact absurd (show false = true from fx) Bool.false_ne_true
  | int a =>
    obtain ⟨t', rfl⟩ := ry
    cases x with
    | non => cases rx; exact SeqAt.EqAt.int_none a t'
    | bl b => cases rx; exact SeqAt.EqAt.int_bool a t' b
    | int b => obtain ⟨t, rfl⟩ := rx; exact SeqAt.EqAt.int_int a t' b t
    | str b => obtain ⟨t, rfl⟩ := rx; exact SeqAt.EqAt.int_str a t' b t
    | _ => exact absurd (show false = true from fx) Bool.false_ne_true
  | str a =>
    obtain ⟨t', rfl⟩ := ry
    cases x with
    | non => cases rx; exact SeqAt.EqAt.str_none a t'
    | bl b => cases rx; exact SeqAt.EqAt.str_bool a t' b
    | int b => obtain ⟨t, rfl⟩ := rx; exact SeqAt.EqAt.str_int a t' b t
    | str b => obtain ⟨t, rfl⟩ := rx; exact SeqAt.EqAt.str_str a t' b t
    | _ => exact absurd (show false = true from fx) Bool.false_ne_true
  | _ => exact absurd (show false = true from fy) Bool.false_ne_true
/-- the items' answers, read off the values (a value's own answer does not lean on its token) -/
def eqU (x : V) (u : Value) : Bool := match u with
  | .none => eqV .non x
  | .bool b => eqV (.bl b) x
  | .int i _ => eqV (.int i) x
  | .str z _ => eqV (.str z) x
  | _ => false
theorem eqU_of {x y : V} {u : Value} (r : RelV y u) (f : flatV y = true) : eqU x u = eqV y x := by
  cases y with
  | non => cases r; rfl
  | bl b => cases r; rfl
  | int i => obtain ⟨t, rfl⟩ := r; rfl
  | str z => obtain ⟨t, rfl⟩ := r; rfl
  | _ => exact absurd (show false = true from f) Bool.false_ne_true
theorem any_eqU {x : V} : ∀ {xs : List V} {us : List Value}, Vals xs us → xs.all flatV = true → us.any (eqU x) = xs.any fun y => eqV y x
  | _, _, .nil, _ => rfl
  | y :: xs, u :: us, .cons r t, f => by
    rw [List.all_cons, Bool.and_eq_true] at f
    rw [List.any_cons, List.any_cons, eqU_of r f.1, any_eqU t f.2]
theorem mem_eqAt {A : Around} {s : Shared} {x : V} {v : Value} (rx : RelV x v) (fx : flatV x = true) : ∀ {xs : List V} {us : List Value}, Vals xs us → xs.all flatV = true → ∀ u ∈ us, SeqAt.EqAt A s u v (eqU x u)
  | _, _, .nil, _ => fun u hu => by cases hu
  | y :: xs, u :: us, .cons r t, f => fun u' hu => by
    rw [List.all_cons, Bool.and_eq_true] at f
    rcases List.mem_cons.mp hu with rfl | hu
    · rw [eqU_of r f.1]; exact eqAt_V r rx f.1 fx
    · exact mem_eqAt rx fx t f.2 u' hu
def inV (x : V) (xs : List V) : Bool := xs.any fun y => eqV y x
/-- x in a list or tuple of flat items -/
def rIn (K : PySem.W.Frag) (neg : Bool) : R2 := fun x y H Q => ∃ p xs, y = .ref p ∧ (SqL K H p xs ∨ SqT K H p xs) ∧ flatV x = true ∧ xs.all flatV = true ∧ Q (.bl (if neg then !inV x xs else inV x xs)) H
theorem op_in_seq : OpR X (compareOp .In) (rIn X.K false) := by
  intro pins s σ H x y v u Q I rx ry h
  obtain ⟨p, xs, rfl, hq, fx, fs, q⟩ := h
  cases ry
  rcases hq with hq | hq
  · obtain ⟨its, r, pl, hz⟩ := I.list hq
    refine SeqAt.in_listAt (eqU x) pl.isList (fun w hw => mem_eqAt rx fx r fs w (by simpa using hw)) ⟨.bl _, H, I, rfl, ?_⟩
    rw [show its.toArray.any (eqU x) = its.any (eqU x) by simp, any_eqU r fs]
    exact q
  · obtain ⟨its, r, pl, hz⟩ := I.tuple hq
    refine SeqAt.in_tupleAt (eqU x) pl (fun w hw => mem_eqAt rx fx r fs w (by simpa using hw)) ⟨.bl _, H, I, rfl, ?_⟩
    rw [show its.toArray.any (eqU x) = its.any (eqU x) by simp, any_eqU r fs]
    exact q
/-! ### len, list(x), tuple(x) of any list or tuple that is read -/
theorem call_len_seq : CallR X (.builtin "len") (fun xs H Q => ∃ p ys, xs = [.ref p] ∧ (SqL X.K H p ys ∨ SqT X.K H p ys) ∧ Q (.int ys.length) H) := by
  intro pins s σ H xs us Q I r h
  obtain ⟨p, ys, rfl, hq, q⟩ := h
  obtain ⟨u, rfl, rx⟩ := vals1 r
  cases rx
  have hn := line63
  rcases hq with hq | hq
  · obtain ⟨its, r', pl, hz⟩ := I.list hq
    have hlen := r'.length
    exact Calls.call_len_list pl.isList (by simp only [List.size_toArray] <;> omega) ⟨.int ys.length, H, I.tok _, ⟨s.toks + 1, by rw [List.size_toArray, hlen]⟩, q⟩
  · obtain ⟨its, r', pl, hz⟩ := I.tuple hq
    have hlen := r'.length
    exact len_tuple pl (by simp only [List.size_toArray] <;> omega) ⟨.int ys.length, H, I.tok _, ⟨s.toks + 1, by rw [List.size_toArray, hlen]⟩, q⟩
theorem call_len_str : CallR X (.builtin "len") (fun xs H Q => ∃ z, xs = [.str z] ∧ z.length ≤ sizeLine ∧ Q (.int z.length) H) := by
  intro pins s σ H xs us Q I r h
  obtain ⟨z, rfl, hz, q⟩ := h
  obtain ⟨u, rfl, t, rfl⟩ := vals1 r
  have hn := line63
  exact len_str (by omega) ⟨.int z.length, H, I.tok _, ⟨_, rfl⟩, q⟩
theorem CallR.or {f : Value} {r r' : List V → Hp → VK → Prop} (h : CallR X f r) (h' : CallR X f r') : CallR X f (fun xs H Q => r xs H Q ∨ r' xs H Q) := by
  intro pins s σ H xs us Q I rs q
  rcases q with q | q
  · exact h pins s σ H xs us Q I rs q
  · exact h' pins s σ H xs us Q I rs q
theorem call_list_of : CallR X (.type "list") (fun xs H Q => ∃ p ys, xs = [.ref p] ∧ (SqL X.K H p ys ∨ SqT X.K H p ys) ∧ ∀ l, H l = none → Q (.ref l) (upd H l (.lst ys))) := by
  intro pins s σ H xs us Q I r h
  obtain ⟨p, ys, rfl, hq, q⟩ := h
  obtain ⟨u, rfl, rx⟩ := vals1 r
  cases rx
  have fin : ∀ (its : List Value), Vals ys its → ys.length ≤ sizeLine → ∀ (h' : Heap) (c' : Nat), (∀ b o', s.heap.get? b = some o' → h'.get? b = some o') →
      h'.get? s.heap.objs.size = some { cls := .type "list", dict := none, data := .seq its.toArray c', slots := #[] } → EP X pins σ Q (.ref s.heap.objs.size) { s with heap := h' } := fun its r' hz h' c' kp e =>
    ⟨.ref s.heap.objs.size, _, I.laid (t' := s.toks) kp (Nat.le_refl _) (show ObjOk X.prog X.w _ h' _ (.lst ys) from ⟨hz, its, c', r', e⟩), rfl, q _ (I.hok.fresh (Nat.le_refl _))⟩
  rcases hq with hq | hq
  · obtain ⟨its, r', pl, hz⟩ := I.list hq
    have hlen := r'.length
    obtain ⟨o, ho, hc, n, hd⟩ := pl.isList
    exact call_list_seq p (.inl rfl) ho hc hd (fun h' c' kp e => fin its r' hz h' c' kp e) (by simp only [List.size_toArray] <;> omega)
  · obtain ⟨its, r', pl, hz⟩ := I.tuple hq
    have hlen := r'.length
    obtain ⟨o, ho, hc, n, hd⟩ := pl
    exact call_list_seq p (.inr rfl) ho hc hd (fun h' c' kp e => fin its r' hz h' c' kp e) (by simp only [List.size_toArray] <;> omega)
theorem call_tuple_of : CallR X (.type "tuple") (fun xs H Q => ∃ p ys, xs = [.ref p] ∧ ((SqL X.K H p ys ∧ ∀ l, H l = none → Q (.ref l) (upd H l (.tup ys))) ∨ (SqT X.K H p ys ∧ Q (.ref p) H))) := by
  intro pins s σ H xs us Q I r h
  obtain ⟨p, ys, rfl, h⟩ := h
  obtain ⟨u, rfl, rx⟩ := vals1 r
  cases rx
  rcases h with ⟨hq, q⟩ | ⟨hq, q⟩
  · obtain ⟨its, r', pl, hz⟩ := I.list hq
    have hlen := r'.length
    refine call_tuple_list pl.isList (fun h' kp => ?_) (by simp only [List.size_toArray] <;> omega)
    have I1 : Inv X pins σ H { s with heap := h' } := I.kept (t' := s.toks) kp
    have I2 : Inv X pins σ (upd H h'.objs.size (.tup ys)) { s with heap := h'.push { cls := .type "tuple", data := .seq its.toArray } } :=
      I1.laid (t' := s.toks) (fun b o e => Heap.get?_push_of_some _ e) (Nat.le_refl _) (show ObjOk X.prog X.w _ _ _ (.tup ys) from ⟨hz, its, r', IsTup.new _ _⟩)
    exact ⟨.ref h'.objs.size, _, I2, rfl, q _ (I1.hok.fresh (Nat.le_refl _))⟩
  · obtain ⟨its, r', pl, hz⟩ := I.tuple hq
    exact call_tuple_same pl ⟨.ref p, H, I, rfl, q⟩

/-! ### the call of a builtin's method: o.m(..) -/
/-- the value is of that builtin type -/
def tyV (K : PySem.W.Frag) (T : String) (x : V) (H : Hp) : Prop := match x with
  | .str _ => T = "str"
  | .int _ => T = "int"
  | .ref p => (T = "list" ∧ ∃ xs, SqL K H p xs) ∨ (T = "tuple" ∧ ∃ o, K.lookup p = some o ∧ o.cls = .type "tuple" ∧ o.dict = none) ∨
      (T = "dict" ∧ ((∃ kvs, H p = some (.dK kvs)) ∨ ∃ kvs, H p = some (.dT kvs))) ∨ (T = "set" ∧ ∃ S n, H p = some (.set S n))
  | _ => False
theorem tyV_is {pins : List (Addr × Obj)} {σ : St} {H : Hp} {s : Shared} {T : String} {x : V} {v : Value} (I : Inv X pins σ H s) (r : RelV x v) (ty : tyV X.K T x H) :
    s.TypeIs v T ∧ ∀ a, v = .ref a → ∃ ob, s.heap.get? a = some ob ∧ ob.dict = none := by
  cases x with
  | str z =>
    obtain ⟨t, rfl⟩ := r
    cases (show T = "str" from ty)
    exact ⟨typeIs_str s z t, fun _ e => nomatch e⟩
  | int i =>
    obtain ⟨t, rfl⟩ := r
    cases (show T = "int" from ty)
    exact ⟨typeIs_int s i t, fun _ e => nomatch e⟩
  | ref p =>
    cases r
    rcases ty with ⟨rfl, xs, hq⟩ | ⟨rfl, o, hk, hc, hd⟩ | ⟨rfl, hk⟩ | ⟨rfl, S, n, hk⟩
    · obtain ⟨its, _, pl, _⟩ := I.list hq
      refine ⟨pl.isList.typeIs, fun a e => ?_⟩
      cases e
      obtain ⟨o, n, e, c, hd, _⟩ := pl
      exact ⟨o, e, hd⟩
    · refine ⟨⟨o, I.kIn p o hk, hc⟩, fun a e => ?_⟩
      cases e
      exact ⟨o, I.kIn _ o hk, hd⟩
    · have z : ∃ o, s.heap.get? p = some o ∧ o.ExactDict := by
        rcases hk with ⟨kvs, hk⟩ | ⟨kvs, hk⟩
        · obtain ⟨_, _, _, _, o, _, _, e, ex, _⟩ := I.hok p _ hk
          exact ⟨o, e, ex⟩
        · obtain ⟨_, _, _, _, o, _, _, e, ex, _⟩ := I.hok p _ hk
          exact ⟨o, e, ex⟩
      obtain ⟨o, e, ex⟩ := z
      refine ⟨⟨o, e, ex.1⟩, fun a e2 => ?_⟩
      cases e2
      exact ⟨o, e, ex.2.1⟩
    · obtain ⟨o, _, _, _, e, ex, _⟩ := I.hok p _ hk
      refine ⟨⟨o, e, ex.1⟩, fun a e2 => ?_⟩
      cases e2
      exact ⟨o, e, ex.2.1⟩
  | _ => exact False.elim ty
def tBM (K : PySem.W.Frag) (T : String) (r : V → List V → Hp → VK → Prop) (to : TE) (t : TA) : TE := fun σ H Q => to σ H fun x H1 => tyV K T x H1 ∧ t σ H1 fun xs H2 => r x xs H2 Q
variable {o e : Expr} {es : List Expr} {to : TE} {t : TA} {name : Str} {apos cpos : Pos} {T id : String} {r : V → List V → Hp → VK → Prop}
theorem pe_bm (pa : PlainAttrs T) (slot : Slot T name id) (hty : typeOf (.builtin id) = pure (.type "method_descriptor")) (hm : MtR X id r) (ho : PE X o to) (ha : PA X (e :: es) t)
    (hbase : attributeBase o name X.env (eval o X.env) = eval o X.env := by rfl)
    (hfew : ((backTo cpos (starEach (e :: es) X.env)).all (fun x => !x.1) && (backToKw cpos (keywordEach [] X.env)).all (fun x => x.1.isSome)
      && decide ((e :: es).length + ([] : List Keyword).length + (if ([] : List Keyword).isEmpty then 0 else 1) < 30)) = true := by rfl)
    (hline : (apos.endLine == cpos.line) = true := by rfl) (hs : starEach (e :: es) X.env = (false, eval e X.env) :: starEach es X.env := by rfl) (hplain : (backTo cpos (starEach es X.env)).any (·.1) = false := by rfl) :
    PE X (.Call (.Attribute o name apos) (e :: es) [] cpos) (tBM X.K T r to t) := by
  intro pins s σ H Q I h
  refine wpAny_Call_method_late hbase hfew hline rfl (thn (ho pins s σ H _ I h) fun v s1 ⟨x, H1, I1, r1, ty, q1⟩ => ?_)
  obtain ⟨h1, h2⟩ := tyV_is I1 r1 ty
  refine ⟨T, id, pa, slot, hty, h1, h2, ?_⟩
  have hA := ha cpos pins s1 σ H1 _ I1 q1
  rw [hs] at hA ⊢
  refine Calls.callWith_builtin (by show (false || (backTo cpos (starEach es X.env)).any (·.1)) = false; rw [hplain] <;> rfl) (Calls.evalArgs_plain ?_)
  exact thn hA fun us s2 ⟨vs, H2, I2, r2, q2⟩ => hm pins s2 σ H2 x vs v us Q I2 r1 r2 q2
/- xs.append(e), list.index on a module's tuple .. are MtR facts of 06m -/
end
end L2

namespace L2
open PySem PySem.Spec PyProof.Rows

def MtM (X : Cx) (id : String) (r : V → List V → Hp → VK → Prop) : Prop :=
  ∀ (pins : List (Addr × Obj)) (s : Shared) (σ : St) (H : Hp) (x : V) (xs : List V) (v : Value) (us : List Value) (Q : VK), Inv X pins σ H s → RelV x v → Vals xs us → r x xs H Q →
    wpAny (model X.prog X.w) X.A (call (.builtin id) (v :: us)) (EP X pins σ Q) X.xe s

/-! ### lists of values -/
theorem Vals.one : ∀ {x : V} {us : List Value}, Vals [x] us → ∃ u, us = [u] ∧ RelV x u
  | _, _, .cons r .nil => ⟨_, rfl, r⟩
theorem Vals.zero : ∀ {us : List Value}, Vals [] us → us = []
  | _, .nil => rfl
theorem Vals.dropLast {xs : List V} {us : List Value} (h : Vals xs us) : Vals xs.dropLast us.dropLast := by
  induction h with
  | nil => exact .nil
  | cons r t ih =>
    cases t with
    | nil => exact .nil
    | cons q t' => exact .cons r ih
theorem Vals.reverse {xs : List V} {us : List Value} (h : Vals xs us) : Vals xs.reverse us.reverse := by
  induction h with
  | nil => exact .nil
  | cons r t ih => rw [List.reverse_cons, List.reverse_cons]; exact Vals.append ih (.cons r .nil)
section
variable {X : Cx} {pins : List (Addr × Obj)} {σ : St} {H : Hp} {s : Shared} {l b : Addr} {xs ys zs : List V}

/-! ### the two steps: a tracked list is rewritten, a new list is laid -/
theorem Inv.lset {its its' : List Value} {n : Nat} {f : Array Value → Array Value} {t' : Nat} (I : Inv X pins σ H s) (hH : H l = some (.lst xs))
    (e : s.heap.get? l = some { cls := .type "list", data := .seq its.toArray n }) (hf : f its.toArray = its'.toArray) (hv : Vals ys its') (hz : ys.length ≤ sizeLine) :
    Inv X pins σ (upd H l (.lst ys)) { s with heap := s.heap.update l (Obj.mapSeq f), toks := t' } := by
  have q := PySem.IsL.update e f
  rw [hf] at q
  refine I.write (x := l) (e := l) (by rw [hH]; exact trivial) (.inl rfl) (fun b' u hb hu => (Heap.get?_update_other s.heap (Obj.mapSeq f) (Ne.symm hb)).trans hu) ⟨_, q⟩ ?_
  exact ⟨hz, its', _, hv, q⟩
theorem Inv.fresh (I : Inv X pins σ H s) : H s.heap.objs.size = none := I.hok.fresh (Nat.le_refl _)
theorem Inv.lstM (I : Inv X pins σ H s) (hH : H l = some (.lst xs)) : xs.length ≤ sizeLine ∧ ∃ (its : List Value) (n : Nat), Vals xs its ∧ xs.length = its.length ∧ s.heap.get? l = some { cls := .type "list", data := .seq its.toArray n } := by
  obtain ⟨z, its, n, r, e⟩ := I.hok l _ hH
  exact ⟨z, its, n, r, r.length, e⟩

end

section
variable {X : Cx}

/-! ### methods -/
def rAppend : V → List V → Hp → VK → Prop := fun x vs H Q => ∃ l xs y, x = .ref l ∧ vs = [y] ∧ H l = some (.lst xs) ∧ xs.length < sizeLine ∧ Q .non (upd H l (.lst (xs ++ [y])))
theorem mt_append : MtM X "list.append" rAppend := by
  intro pins s σ H x vs v us Q I rx rv h
  obtain ⟨l, xs, y, rfl, rfl, hH, hz, q⟩ := h
  cases rx
  obtain ⟨u, rfl, ru⟩ := rv.one
  obtain ⟨z, its, n, r, hl, e⟩ := I.lstM hH
  refine call_meets F.slot_list_append ⟨_, e, rfl⟩ F.entry_list_append (F.args_list_append_2 _ _) (PySem.list_append l its.toArray n u (by rw [List.size_toArray]; omega)) ⟨e, ?_⟩
  refine ⟨.non, _, I.lset (its' := its ++ [u]) hH e (by simp) (r.append (.cons ru .nil)) ?_, rfl, q⟩
  rw [List.length_append, List.length_singleton]
  omega

/-! ### list + list, list += list, list * int -/
/-! ### del xs[i] -/
end

/-! ### xs[a:b] = ys -/
section
variable {prog : Program} {w : World} {A : Around} {E : Value → Shared → Prop} {s : Shared}
end

section
variable {X : Cx}
end
end L2

namespace Att
open PySem PySem.W PySem.Calls PyProof.Rows

/-! ### the script -/
theorem ints_of_wellAll {P : Params} {h : Heap} : ∀ (ns : List Int) (vs : List Value), WellAll P h vs (ns.map WData.int) → IntsAre vs ns := by
  intro ns
  induction ns with
  | nil =>
    intro vs w
    rw [List.map_nil] at w
    cases w
    exact .nil
  | cons n ns ih =>
    intro vs w
    rw [List.map_cons] at w
    cases w with
    | cons a b =>
      cases a
      exact .cons _ _ (ih _ b)

theorem script_of {l : OpenLaw} {n : Nat} (hn : l.most = some n) {P : Params} {h : Heap} {args : List WData} {vals : List Value}
    (hpre : l.row.toRowW.claim.pre args = true) (hwl : WellAll P h vals args) :
    ∃ a vs ns, vals = [Value.ref a] ∧ args = [WData.list (ns.map WData.int)] ∧ h.get? a = some { cls := .type "list", data := .seq vs.toArray } ∧ IntsAre vs ns ∧ ns.length ≤ n := by
  have hsh : WShape.hasAll [] args [.list .int] = true := (pre_splitW hpre).1
  have hc : l.pre.holds [] { args := args } = true := (pre_splitW hpre).2
  obtain ⟨d, r, rfl, h1, h2⟩ := hasAllW_cons hsh
  obtain rfl := hasAllW_nil h2
  obtain ⟨xs, rfl, h3⟩ := hasW_list h1
  obtain ⟨ns, rfl⟩ := items_int h3
  have hlen : ns.length ≤ n := by
    unfold OpenLaw.pre at hc
    have h4 : (WTm.not (.lt (.lit (.int (n : Int))) (.len (.arg 0)))).holds [] { args := [.list (ns.map .int)] } = true := by
      have h4 := (holds_andW hc).1
      rw [hn] at h4
      exact h4
    have h5 := condW_of h4 (w_not (w_lt w_lit (w_len_list (w_arg rfl))))
    rw [List.length_map] at h5
    refine Nat.le_of_not_lt fun q => ?_
    have q' : (n : Int) < ((ns.length : Nat) : Int) := by omega
    first
      | (rw [decide_eq_true q'] at h5; exact absurd h5 (by decide))
      | (simp at h5; omega)
  cases hwl with
  | cons w1 w2 =>
    cases w2
    cases w1 with
    | list ho hall => exact ⟨_, _, ns, rfl, rfl, ho, ints_of_wellAll ns _ hall, hlen⟩

theorem post_true (l : OpenLaw) (args : List WData) : l.row.toRowW.claim.post args (.bool true) args = true :=
  postW_of (r := l.row.toRowW) (X := (true == true))
    (show WShape.has [] (.bool true) .bool = true by first | rfl | decide | simp [WShape.has, WShape.arms, WShape.armsAll])
    (show (WTm.eq .res (.lit (.bool true))).value [] { args := args, res := some (.bool true), after := args } = some (.bool (true == true)) from w_eq_bool (w_res rfl) w_lit) rfl

/-! ### the attachment: holds_open's last premise (the goal 'hc' behind k_head) from a wpAny of the law's body -/
/-! ### rules over ANY heap (no ledger) from facts about the written part K: the library's own take a ledger (News) for what they write -/
section
variable {prog : Program} {w : World} {A : Around} {E : Value → Shared → Prop} {s : Shared} {K : Frag}

/-! the whole heap as the ledger: makes every rule that writes through a ledger a rule over any heap -/
end
end Att

namespace L2
open PySem PySem.Spec PyProof.Rows

theorem vals_ints : ∀ {vs : List Value} {ns : List Int}, IntsAre vs ns → Vals (ns.map V.int) vs
  | _, _, .nil => .nil
  | _, _, .cons n t h => .cons ⟨t, rfl⟩ (vals_ints h)

/-- nothing is tracked but the script, known to the object (or it is an object of the module) -/
def Only (H : Hp) : Prop := ∀ b, H b = none ∨ ∃ o xs, H b = some (.frz o (.lst xs))

/-- THE HEAD: the law's promise, at the heap behind the top. F, the promise of the law's def, may use that base is part of the heap (so K.In base, base.Ns mainGlobals mg stand in Mod) -/
theorem law_call {P : Program} {w : World} {K : PySem.W.Frag} {mg mb : Str → Option Value} {CX : CXT} {k : Nat} {fa a : Addr} {fd : FuncData} {x : Str} {sp : Sp} {s₁ : Shared} {vs : List Value} {ns : List Int}
    (KX : K.In s₁.heap) (hns : s₁.heap.Ns mainGlobals mg) (hb : s₁.heap.Ns builtinsNs mb) (hbb : ∀ x : Str, x ≠ "__name__" → mb x = bootBuiltins x) (hlim : s₁.heap.NoLimit) (hg : s₁.gens = #[])
    (ha : s₁.heap.get? a = some { cls := .type "list", data := .seq vs.toArray }) (hi : IntsAre vs ns) (hl : ns.length ≤ sizeLine) (hr : Room k callerA)
    (F : ∀ base : Heap, K.In base → base.Ns mainGlobals mg → FnOk P w K mg base CX k fa fd [x] sp) (hbind : ∀ (s : Shared) (u : Value), BindsTo s fd ⟨[u], []⟩ [(x, u)])
    (hsp : ∀ H : Hp, Only H → SqL K H a (ns.map V.int) → sp [.ref a] H (fun v _ => v = .bl true) fun _ _ _ => False)
    (hCX : ∀ H e s', CX [] H s₁ (fun _ _ _ => False) e s' → False) :
    codeAny (model P w) callerA (.call (.ref fa) ⟨[.ref a], []⟩) (fun r s' => r = .ok (.ret (.bool true)) ∧ OldK s₁.heap s'.heap ∧ s'.os = s₁.os ∧ AllBare s'.gens) s₁ := by
  have rv := vals_ints hi
  have lenV := hi.length
  -- from an abstract heap in which nothing but the script may be tracked
  have core : ∀ H : Hp, Only H → SqL K H a (ns.map V.int) → HOk P w H s₁.heap → (∀ b, H b ≠ none → b = a) → (H a ≠ none → K.lookup a = none) →
      codeAny (model P w) callerA (.call (.ref fa) ⟨[.ref a], []⟩) (fun r s' => r = .ok (.ret (.bool true)) ∧ OldK s₁.heap s'.heap ∧ s'.os = s₁.os ∧ AllBare s'.gens) s₁ := by
    intro H hO hS hok hA hK
    have base_of : ∀ {b : Addr} {o : Obj}, s₁.heap.get? b = some o → H b = none → (hidT s₁.heap H).get? b = some o := fun e n => hidT_get e n
    have noA : ∀ {b : Addr} {o : Obj} {es : Array DictEntry} {ep : Nat}, s₁.heap.get? b = some o → o.data = .dict es ep → H b = none := fun {b o es ep} e d => by
      cases q : H b with
      | none => rfl
      | some u =>
        have e' : b = a := hA b (by rw [q]; simp)
        subst e'
        rw [ha] at e; cases e
        have d' : Data.seq vs.toArray _ = Data.dict es ep := d
        cases d'
    have nsK : ∀ {b : Addr} {m : Str → Option Value}, s₁.heap.Ns b m → (hidT s₁.heap H).Ns b m := fun {b m} ⟨o, es, ep, e, d, r⟩ => ⟨o, es, ep, base_of e (noA e d), d, r⟩
    have hKb : K.In (hidT s₁.heap H) := fun b o e => base_of (KX b o e) (by
      cases q : H b with
      | none => rfl
      | some u =>
        have e' : b = a := hA b (by rw [q]; simp)
        subst e'
        rw [hK (by rw [q]; simp)] at e; cases e)
    have hM : Mod K mg (hidT s₁.heap H) := ⟨hKb, nsK hns, ⟨mb, nsK hb, hbb⟩, let ⟨mc, h1, h2⟩ := hlim; ⟨mc, nsK h1, h2⟩⟩
    have e0 : Env0 P w K mg (hidT s₁.heap H) callerA [] s₁ H := ⟨rfl, hM, fun b o e => of_hidT e, Nat.le_of_eq (hidT_size _ _), trivial, fun b hb => absurd (show b ∈ ([] : List Addr) from hb) (by simp), hok, .of_eq hg⟩
    refine codeAny_mono ((F _ hKb (nsK hns)).run callerA [] s₁ H ⟨[.ref a], []⟩ [.ref a] [.ref a] _ _ hr e0 (hbind s₁ (.ref a)) (.cons rfl .nil) (hsp H hO hS)) fun r s' h => ?_
    cases r with
    | error e => exact (hCX H e s' h).elim
    | ok fl =>
      cases fl with
      | next => exact False.elim h
      | brk => exact False.elim h
      | cont => exact False.elim h
      | ret u =>
        obtain ⟨v, H', os, bare, un, hok', r', q⟩ := h
        have q' : v = .bl true := q
        subst q'
        obtain rfl : u = Value.bool true := r'
        refine ⟨rfl, OldK.of_keep fun b o e => ?_, os, bare⟩
        cases q : H b with
        | none => exact un.keep b o e q (by intro z; exact absurd (show b ∈ ([] : List Addr) from z) (by simp)) (by simp)
        | some u =>
          rcases hO b with z | ⟨ob, xs, z⟩
          · rw [q] at z; cases z
          · have z2 := un.frzs b ob _ z
            obtain ⟨e1, _⟩ := hok b _ z
            obtain ⟨e2, _⟩ := hok' b _ z2
            rw [e] at e1; cases e1
            exact e2
  cases hk : K.lookup a with
  | some o =>
    -- the script is one of the module's own objects
    have e := KX a o hk
    rw [ha] at e
    cases e
    refine core (fun _ => none) (fun _ => .inl rfl) (.inr ⟨_, vs.toArray, _, hk, rfl, rfl, rfl, by rw [List.size_toArray, lenV]; exact hl, by simpa using rv⟩) (fun b u z => by have z' : (none : Option HO) = some u := z; cases z') (fun b z => absurd rfl z) fun z => absurd rfl z
  | none =>
    refine core (fun b => if b = a then some (.frz { cls := .type "list", data := .seq vs.toArray } (.lst (ns.map V.int))) else none) (fun b => ?_) (.inl (.inr ⟨{ cls := .type "list", data := .seq vs.toArray }, if_pos rfl⟩)) (fun b u z => ?_) (fun b z => ?_) fun _ => hk
    · by_cases hb : b = a
      · exact .inr ⟨_, _, if_pos hb⟩
      · exact .inl (if_neg hb)
    · by_cases hb : b = a
      · have z' := (if_pos hb).symm.trans z
        cases z'
        subst hb
        exact ⟨ha, by rw [List.length_map]; exact hl, vs, _, rv, ha⟩
      · have z' := (if_neg hb).symm.trans z
        cases z'
    · by_cases hb : b = a
      · exact hb
      · exact absurd (if_neg hb) z
end L2

namespace L2
open PySem PySem.Spec PyProof.Rows

abbrev KOf {K : PySem.W.Frag} {h : Heap} (_ : K.In h) : PySem.W.Frag := K

end L2


/-! SHORT WORDS over the layer: a def of the text, its body, what a loop and a test want. -/
namespace L2
open PySem PySem.Spec PyProof.Rows

/-! ### the text by places -/
/-- the j-th statement of a class's body -/
def inClass (s : Stmt) (j : Nat) : Stmt := match s with
  | .ClassDef _ _ _ body _ _ _ _ _ _ _ => body.getD j (.Pass ⟨0, 0, 0, 0⟩)
  | _ => .Pass ⟨0, 0, 0, 0⟩
def defArgs (s : Stmt) : Arguments := match s with
  | .FunctionDef _ a _ _ _ _ _ _ _ _ => a
  | _ => { posonlyargs := [], args := [], vararg := none, kwonlyargs := [], kw_defaults := [], kwarg := none, defaults := [] }
def defBody (s : Stmt) : List Stmt := match s with
  | .FunctionDef _ _ b _ _ _ _ _ _ _ => b
  | _ => []
def defScope (s : Stmt) : Scope := match s with
  | .FunctionDef _ _ _ _ _ _ sc _ _ _ => sc
  | _ => { kind := .function, names := [], isGenerator := false, isCoroutine := false }

/-! ### no exception leaves a def -/
abbrev CX0 : CXT := fun _ _ _ _ _ _ => False
abbrev E0 : XK := fun _ _ _ => False
theorem pass0 {X : Cx} : Passes CX0 X E0 := fun _ _ _ _ _ _ _ h => h.elim

/-! ### a def (or method) of the text as it stands behind the top -/
structure Fun (K : PySem.W.Frag) (x qual : Str) (st : Stmt) (f : Addr) (fd : FuncData) : Prop where
  ex : ∃ (oc : Value) (od : Option Addr) (kV doc pm : Value) (an : Option Addr) (cdv ct : Value) (osl : Array (Option Value)),
    fd = PySem.W.fnOf x qual (defArgs st) (defBody st) (defScope st) .none kV doc pm an cdv ct ∧ K.lookup f = some ⟨oc, od, .func fd, osl⟩ ∧ PySem.W.codeIn K cdv qual = true
  kp : PySem.W.keepIn K (.ref f) = true
section
variable {P : Program} {w : World} {K : PySem.W.Frag} {mg : Str → Option Value} {base : Heap}
/-- THE RULE for a def: its body as a term of rules, and the reading of that term -/
theorem Fun.ok {x qual : Str} {st : Stmt} {f : Addr} {fd : FuncData} {N ps : List Str} {k : Nat} {sp : Sp} (F : Fun K x qual st f fd) (S : FnScope N ps (defScope st)) (len : ∀ vs H Q E, sp vs H Q E → vs.length = ps.length)
    (hbody : ∀ (cdv : Value) (A : Around) (outer : List Env) (s : Shared) (H : Hp) (vs : List V) (Q : VK) (E : XK), Room k (A.deeper (envOfC qual (defScope st) s.heap.objs.size f cdv)) → sp vs H Q E →
      ∃ t, PSs (cxOf CX0 P w K mg base N qual (defScope st) f cdv A outer s H E).nox (defBody st) t ∧ t { nx := fun _ H' => Q .non H', rt := Q } (start N vs) H) : FnOk P w K mg base CX0 (k + 1) f fd ps sp := by
  obtain ⟨oc, od, kV, doc, pm, an, cdv, ct, osl, rfl, lk, hcd⟩ := F.ex
  refine fn_of lk hcd S len fun A outer s H vs Q E hr hsp => ?_
  obtain ⟨t, h, q⟩ := hbody cdv A outer s H vs Q E hr hsp
  exact ⟨t, h.nox, q⟩
/-- how its arguments bind (no defaults): h is «fun _ _ _ _ _ _ us hl => match us, hl with | [_, _], _ => rfl», one _ a parameter -/
theorem Fun.binds {x qual : Str} {st : Stmt} {f : Addr} {fd : FuncData} {ps : List Str} (F : Fun K x qual st f fd)
    (h : ∀ (kV doc pm : Value) (an : Option Addr) (cdv ct : Value) (us : List Value), us.length = ps.length → bindArgs (PySem.W.fnOf x qual (defArgs st) (defBody st) (defScope st) .none kV doc pm an cdv ct) ⟨us, []⟩ = pure (ps.zip us)) : Binds K fd ps [] := by
  obtain ⟨oc, od, kV, doc, pm, an, cdv, ct, osl, rfl, lk, hcd⟩ := F.ex
  exact .all (h kV doc pm an cdv ct)
theorem fun_mk {x qual : Str} {st : Stmt} {f : Addr} {oc : Value} {od an : Option Addr} {osl : Array (Option Value)} {kV doc pm cdv ct : Value} (l : K.lookup f = some ⟨oc, od, .func (PySem.W.fnOf x qual (defArgs st) (defBody st) (defScope st) .none kV doc pm an cdv ct), osl⟩)
    (c : PySem.W.codeIn K cdv qual = true) (k : PySem.W.keepIn K (.ref f) = true) : Fun K x qual st f (PySem.W.fnOf x qual (defArgs st) (defBody st) (defScope st) .none kV doc pm an cdv ct) := ⟨⟨oc, od, kV, doc, pm, an, cdv, ct, osl, rfl, l, c⟩, k⟩
end
/-! ### expressions in short: the name that stands in the i-th slot -/
section
variable {X : Cx}
theorem pv (i : Nat) {x : Str} {pos : Pos} (hN : X.N[i]? = some x := by rfl) (hv : Vis X.env.scope x := by first | exact Or.inl rfl | exact Or.inr (Or.inl rfl) | exact Or.inr (Or.inr rfl)) (hd : (x == ("__debug__" : Str)) = false := by decide)
    (hcd : (x == ("__classdict__" : Str)) = false := by decide) : PE X (.Name x pos) (tVar i) := pe_var hN hv hd hcd
end

/-! ### tests -/
theorem iteF {A B : Prop} (h : B) : if false = true then A else B := by
  rw [if_neg Bool.false_ne_true]
  exact h
theorem iteT {A B : Prop} (h : A) : if true = true then A else B := by
  rw [if_pos rfl]
  exact h
theorem ite2 {c A B : Prop} [Decidable c] (h1 : c → A) (h2 : ¬ c → B) : if c then A else B := by
  by_cases h : c
  · rw [if_pos h]
    exact h1 h
  · rw [if_neg h]
    exact h2 h
/-! ### heaps -/
/-- all that was tracked is as it was -/
def Same (H H' : Hp) : Prop := ∀ b o, H b = some o → H' b = some o
theorem Same.refl (H : Hp) : Same H H := fun _ _ h => h
theorem Same.trans {H H1 H2 : Hp} (a : Same H H1) (b : Same H1 H2) : Same H H2 := fun c o h => b c o (a c o h)
theorem Same.free {H H' : Hp} (e : Same H H') {l : Addr} (h : H' l = Option.none) : H l = Option.none := by
  cases q : H l with
  | none => rfl
  | some o =>
    rw [e l o q] at h
    cases h
theorem Same.seq {K : PySem.W.Frag} {H H' : Hp} {a : Addr} {xs : List V} (e : Same H H') (h : SqL K H a xs) : SqL K H' a xs := by
  rcases h with (h | ⟨o, h⟩) | h
  · exact .inl (.inl (e _ _ h))
  · exact .inl (.inr ⟨o, e _ _ h⟩)
  · exact .inr h

end L2
namespace L2
open PySem PySem.Spec PyProof.Rows

/-! ### lists of pairs as tables -/
section
variable {κ : Type} [DecidableEq κ]
def valV (kvs : List (κ × V)) (k : κ) : Option V := (kvs.find? fun kv => decide (kv.1 = k)).map (·.2)
/-- in its place, or at the end -/
def putK (kvs : List (κ × V)) (k : κ) (v : V) : List (κ × V) :=
  if (kvs.any fun kv => decide (kv.1 = k)) = true then kvs.map (fun kv => if kv.1 = k then (kv.1, v) else kv) else kvs ++ [(k, v)]
def dropK (kvs : List (κ × V)) (k : κ) : List (κ × V) := kvs.filter fun kv => decide (kv.1 ≠ k)

theorem valV_pos {p : κ × V} {r : List (κ × V)} {k : κ} (e : p.1 = k) : valV (p :: r) k = some p.2 := by simp [valV, List.find?_cons, e]
theorem valV_neg {p : κ × V} {r : List (κ × V)} {k : κ} (e : ¬ p.1 = k) : valV (p :: r) k = valV r k := by simp [valV, List.find?_cons, e]
theorem RelO.getD {o : Option V} {u : Option Value} {d : V} {d' : Value} (r : RelO o u) (rd : RelV d d') : RelV (o.getD d) (u.getD d') := by
  cases o with
  | none => cases u with
    | none => exact rd
    | some _ => exact (show False from r).elim
  | some _ => cases u with
    | none => exact (show False from r).elim
    | some _ => exact r

/-- raw tables of the same keys -/
theorem KV.val {kvs : List (κ × V)} {vs : List (κ × Value)} (r : KV kvs vs) (k : κ) : RelO (valV kvs k) (valueAt vs k) := by
  unfold KV at r
  induction r with
  | nil => exact True.intro
  | @cons p q ps qs h t ih =>
    obtain ⟨h1, h2⟩ := h
    by_cases e : p.1 = k
    · have e' : q.1 = k := h1.symm.trans e
      have b : valueAt (q :: qs) k = some q.2 := by simp [valueAt, List.find?_cons, e']
      rw [valV_pos e, b]; exact h2
    · have e' : ¬ q.1 = k := fun z => e (h1.trans z)
      have b : valueAt (q :: qs) k = valueAt qs k := by simp [valueAt, List.find?_cons, e']
      rw [valV_neg e, b]; exact ih
theorem KV.any {kvs : List (κ × V)} {vs : List (κ × Value)} (r : KV kvs vs) (k : κ) : (kvs.any fun kv => decide (kv.1 = k)) = vs.any fun kv => decide (kv.1 = k) := by
  unfold KV at r
  induction r with
  | nil => rfl
  | cons h t ih => rw [List.any_cons, List.any_cons, ih, h.1]
theorem KV.drop {kvs : List (κ × V)} {vs : List (κ × Value)} (r : KV kvs vs) (k : κ) : KV (dropK kvs k) (without vs k) := by
  unfold KV at r ⊢
  unfold dropK without
  induction r with
  | nil => exact .nil
  | @cons p q ps qs h t ih =>
    obtain ⟨h1, h2⟩ := h
    rw [List.filter_cons, List.filter_cons]
    by_cases e : p.1 = k
    · have a : ¬ decide (p.1 ≠ k) = true := by simp [e]
      have b : ¬ decide (q.1 ≠ k) = true := by simp [h1.symm.trans e]
      rw [if_neg a, if_neg b]; exact ih
    · have e' : ¬ q.1 = k := fun z => e (h1.trans z)
      have a : decide (p.1 ≠ k) = true := by simp [e]
      have b : decide (q.1 ≠ k) = true := by simp [e']
      rw [if_pos a, if_pos b]; exact .cons ⟨h1, h2⟩ ih
theorem KV.keys {kvs : List (κ × V)} {vs : List (κ × Value)} (r : KV kvs vs) : kvs.map (·.1) = vs.map (·.1) := by
  unfold KV at r
  induction r with
  | nil => rfl
  | cons h t ih => rw [List.map_cons, List.map_cons, ih, h.1]
theorem KV.length {kvs : List (κ × V)} {vs : List (κ × Value)} (r : KV kvs vs) : kvs.length = vs.length := Paired.length r
end


/-! ### a tracked dict, its keys ints and texts or tuples of these -/
/-- raw entries of a dict with tuple keys -/
abbrev KT (H : Hp) : List (List Key × V) → List (List Key × Addr × Value) → Prop := Paired fun p q => p.1 = q.1 ∧ H q.2.1 = some (.tup (p.1.map kV)) ∧ RelV p.2 q.2.2
theorem KT.val {H : Hp} {kvs : List (List Key × V)} {xs : List (List Key × Addr × Value)} (r : KT H kvs xs) (k : List Key) : RelO (valV kvs k) ((atKey xs k).map (·.2)) := by
  induction r with
  | nil => exact True.intro
  | @cons p q ps qs h t ih =>
    obtain ⟨h1, _, h2⟩ := h
    by_cases e : p.1 = k
    · have e' : q.1 = k := h1.symm.trans e
      have b : atKey (q :: qs) k = some q.2 := by simp [atKey, List.find?_cons, e']
      rw [valV_pos e, b]; exact h2
    · have e' : ¬ q.1 = k := fun z => e (h1.trans z)
      have b : atKey (q :: qs) k = atKey qs k := by simp [atKey, List.find?_cons, e']
      rw [valV_neg e, b]; exact ih
theorem KT.keeps {H H' : Hp} {kvs : List (List Key × V)} {xs : List (List Key × Addr × Value)} (r : KT H kvs xs) (ht : ∀ b ys, H b = some (.tup ys) → H' b = some (.tup ys)) : KT H' kvs xs :=
  Paired.mapP r fun _ _ z => ⟨z.1, ht _ _ z.2.1, z.2.2⟩

section
variable {P : Program} {w : World} {H : Hp} {h : Heap} {a : Addr}
theorem rd_of {u : HO} (ok : HOk P w H h) (e : Rd H a u) : ObjOk P w H h a u := e.ok ok
end

/-- what the dict at a holds at the key y -/
def DGet (H : Hp) (a : Addr) (y : V) (r : Option V) : Prop :=
  (∃ kvs k, Rd H a (.dK kvs) ∧ y = kV k ∧ r = valV kvs k) ∨ ∃ kvs k b, Rd H a (.dT kvs) ∧ y = .ref b ∧ H b = some (.tup (k.map kV)) ∧ r = valV kvs k
/-- the heap behind a[y] = v -/
def DPut (H : Hp) (a : Addr) (y v : V) (H' : Hp) : Prop :=
  (∃ kvs k, H a = some (.dK kvs) ∧ y = kV k ∧ kvs.length < sizeLine ∧ H' = upd H a (.dK (putK kvs k v))) ∨
  ∃ kvs k b, H a = some (.dT kvs) ∧ y = .ref b ∧ H b = some (.tup (k.map kV)) ∧ kvs.length < sizeLine ∧ H' = upd H a (.dT (putK kvs k v))
theorem DGet.k {H : Hp} {a : Addr} {kvs : List (Key × V)} {k : Key} (e : H a = some (.dK kvs)) : DGet H a (kV k) (valV kvs k) := .inl ⟨kvs, k, .inl e, rfl, rfl⟩
theorem DGet.t {H : Hp} {a b : Addr} {kvs : List (List Key × V)} {k : List Key} (e : H a = some (.dT kvs)) (eb : H b = some (.tup (k.map kV))) : DGet H a (.ref b) (valV kvs k) := .inr ⟨kvs, k, b, .inl e, rfl, eb, rfl⟩
theorem DPut.k {H : Hp} {a : Addr} {kvs : List (Key × V)} {k : Key} {v : V} (e : H a = some (.dK kvs)) (hl : kvs.length < sizeLine) : DPut H a (kV k) v (upd H a (.dK (putK kvs k v))) := .inl ⟨kvs, k, e, rfl, hl, rfl⟩
theorem DPut.t {H : Hp} {a b : Addr} {kvs : List (List Key × V)} {k : List Key} {v : V} (e : H a = some (.dT kvs)) (eb : H b = some (.tup (k.map kV))) (hl : kvs.length < sizeLine) :
    DPut H a (.ref b) v (upd H a (.dT (putK kvs k v))) := .inr ⟨kvs, k, b, e, rfl, eb, hl, rfl⟩


section
variable {X : Cx} {pins : List (Addr × Obj)} {σ : St} {H : Hp} {s : Shared} {a : Addr} {y v : V} {u r : Value} {o : Option V} {A : Around} {E : Value → Shared → Prop}

end

section
variable {X : Cx} {pins : List (Addr × Obj)} {σ : St} {H : Hp} {s : Shared} {a : Addr} {kvs : List (Key × V)} {k : Key} {u : Value} {A : Around} {E : Value → Shared → Prop}
end


/-! ### readings and rules -/
section
variable {X : Cx} {o i e value : Expr} {pos pos' tpos : Pos} {td ty tv : TE}
end


/-! ### displays -/
section
variable {X : Cx} {pos : Pos}
end

/-- the pairs of a display, from the left -/
def tPairs : List (TE × TE) → St → Hp → (List (V × V) → Hp → Prop) → Prop
  | [], _, H, Q => Q [] H
  | (tk, tv) :: r, σ, H, Q => tk σ H fun x H1 => tv σ H1 fun y H2 => tPairs r σ H2 fun ps H3 => Q ((x, y) :: ps) H3
abbrev VV : List (V × V) → List (Value × Value) → Prop := Paired fun p q => RelV p.1 q.1 ∧ RelV p.2 q.2
def PPs (X : Cx) (pos : Pos) (keys : List (Option Expr)) (values : List Expr) (trs : List (TE × TE)) : Prop :=
  ∀ (pins : List (Addr × Obj)) (s : Shared) (σ : St) (H : Hp) (Q : List (V × V) → Hp → Prop), Inv X pins σ H s → tPairs trs σ H Q →
    wpAny (model X.prog X.w) X.A (evalPairs (pairTrees keys values X.env pos)) (fun vs s' => ∃ ps H', Inv X pins σ H' s' ∧ VV ps vs ∧ Q ps H') X.xe s
/-! ### methods -/
/-- a method call o.m(e) of a built-in, with one argument: what must be seen of the text -/
structure M1 (X : Cx) (o : Expr) (m : Str) (apos : Pos) (e : Expr) (cpos : Pos) : Prop where
  base : attributeBase o m X.env (eval o X.env) = eval o X.env
  few : ((backTo cpos (starEach [e] X.env)).all (fun x => !x.1) && (backToKw cpos (keywordEach [] X.env)).all (fun x => x.1.isSome)
    && decide (([e] : List Expr).length + ([] : List Keyword).length + (if ([] : List Keyword).isEmpty then 0 else 1) < 30)) = true
  line : (apos.endLine == cpos.line) = true
  trees : backTo cpos (starEach [e] X.env) = [(false, eval e X.env)]
structure M2 (X : Cx) (o : Expr) (m : Str) (apos : Pos) (e f : Expr) (cpos : Pos) : Prop where
  base : attributeBase o m X.env (eval o X.env) = eval o X.env
  few : ((backTo cpos (starEach [e, f] X.env)).all (fun x => !x.1) && (backToKw cpos (keywordEach [] X.env)).all (fun x => x.1.isSome)
    && decide (([e, f] : List Expr).length + ([] : List Keyword).length + (if ([] : List Keyword).isEmpty then 0 else 1) < 30)) = true
  line : (apos.endLine == cpos.line) = true
  trees : backTo cpos (starEach [e, f] X.env) = [(false, eval e X.env), (false, eval f X.env)]

section
variable {X : Cx} {pins : List (Addr × Obj)} {σ : St} {H : Hp} {s : Shared} {a : Addr} {y d : V} {u r : Value} {o : Option V} {A : Around} {E : Value → Shared → Prop}
end

section
variable {X : Cx} {o e f : Expr} {apos cpos : Pos} {td ty tx : TE}
end

/-! ### dict(d): a copy -/
section
variable {X : Cx} {pins : List (Addr × Obj)} {σ : St} {H : Hp} {s : Shared} {a : Addr} {kvs : List (Key × V)} {A : Around} {E : Value → Shared → Prop}
end


section
variable {X : Cx} {pins : List (Addr × Obj)} {σ : St} {H : Hp} {s : Shared} {a : Addr} {y : V} {u : Value} {A : Around} {E : Value → Shared → Prop}
end
end L2

namespace L2
open PySem PySem.Spec PyProof.Rows
section
variable {X : Cx}
end
/-! ### a dict's pairs: keys that differ -/
section
variable {κ : Type} [DecidableEq κ]
end
end L2
/-! comprehensions over the layer -/
namespace L2
open PySem PySem.Spec PyProof.Rows PySem.Calls

/-! ### the loop of a comprehension, with the step ahead of the store -/
section
variable {prog : Program} {w : World} {A : Around} {R : Result → Shared → Prop} {s : Shared}
theorem compLoop_go {elt target iter : Expr} {scope : Scope} {pos : Pos} {it acc : Value} {env : Env} (I : Nat → Shared → Prop)
    (turn : ∀ n s, I n s → wpAny (model prog w) A (pyNext it) (fun r s₁ => match r with
      | none => R (.ok .next) s₁
      | some v => wpAny (model prog w) A (letOwnedTupleGo target it v) (fun _ s₂ => wpAny (model prog w) A (assign target env v) (fun _ s₃ =>
          wpAny (model prog w) A (eval elt env) (fun x s₄ =>
            wpAny (model prog w) A (call (.builtin "list.append") [acc, x]) (fun _ s₅ => ∃ m, m < n ∧ I m s₅) (notedBy (model prog w) A env fun e s' => R (.error e) s') s₄)
            (notedBy (model prog w) A env fun e s' => R (.error e) s') s₃) (notedBy (model prog w) A env fun e s' => R (.error e) s') s₂) (notedBy (model prog w) A env fun e s' => R (.error e) s') s₁)
      (notedBy (model prog w) A env fun e s' => R (.error e) s') s)
    (n : Nat) (h : I n s) : codeAny (model prog w) A (.compLoop (.ListComp elt [⟨target, iter, [], 0⟩] scope pos) 0 it acc env) R s := by
  refine codeAny_loop rfl I (fun n s hI => ?_) n h
  show wpAny _ A ((compTurn (.ListComp elt [⟨target, iter, [], 0⟩] scope pos) 0 it acc env).onRaise (fun x => do noteFrame x env; theTreesLotGoes x)) _ _ s
  refine wpAny_noted ?_
  rw [compTurn_list1]
  refine wpAny_bind (wpAny_standAt (wpAny_bind (wpAny_mono (turn n s hI) (fun r s₁ h₁ => ?_) fun _ _ h' => h')))
  cases r with
  | none => exact wpAny_pure h₁
  | some v =>
    refine wpAny_bind (wpAny_mono h₁ (fun _ s₂ h₂ => wpAny_bind (wpAny_mono h₂ (fun _ s₃ h₃ => ?_) fun _ _ h' => h')) fun _ _ h' => h')
    exact wpAny_bind (wpAny_bind (wpAny_mono h₃ (fun x s₄ h₄ => wpAny_bind (wpAny_mono h₄ (fun _ s₅ h₅ => wpAny_pure (wpAny_pure ⟨rfl, h₅⟩)) fun _ _ h' => h')) fun _ _ h' => h'))
end

/-! ### the cells that a comprehension's block takes along -/
def clOf (env : Env) : List (Str × NameKind) → List (Str × Addr) → List (Str × Addr)
  | [], cs => cs
  | (n, k) :: r, cs => clOf env r (if k == .free then match env.cells.lookup n with | some c => (n, c) :: cs | none => cs else cs)
theorem clOf_mem {env : Env} : ∀ {ns : List (Str × NameKind)} {cs : List (Str × Addr)} {y : Str} {c : Addr}, (y, c) ∈ clOf env ns cs → (y, c) ∈ cs ∨ env.cells.lookup y = some c
  | [], _, _, _, h => .inl h
  | (n, k) :: r, cs, y, c, h => by
    unfold clOf at h
    rcases clOf_mem h with q | q
    · split at q
      · cases e : env.cells.lookup n with
        | none => rw [e] at q; exact .inl q
        | some d =>
          rw [e] at q
          rcases List.mem_cons.mp q with z | z
          · cases z; exact .inr e
          · exact .inl z
      · exact .inl q
    · exact .inr q
theorem clOf_has {env : Env} : ∀ {ns : List (Str × NameKind)} {cs : List (Str × Addr)} {y : Str}, ((∃ c, (y, c) ∈ cs) ∨ ((y, NameKind.free) ∈ ns ∧ ∃ c, env.cells.lookup y = some c)) → ∃ c, (y, c) ∈ clOf env ns cs
  | [], _, _, h => by
    rcases h with h | ⟨h, _⟩
    · exact h
    · cases h
  | (n, k) :: r, cs, y, h => by
    unfold clOf
    apply clOf_has
    rcases h with ⟨c, h⟩ | ⟨h, c, e⟩
    · left
      split
      · cases e : env.cells.lookup n with
        | none => exact ⟨c, h⟩
        | some d => exact ⟨c, List.mem_cons_of_mem _ h⟩
      · exact ⟨c, h⟩
    · rcases List.mem_cons.mp h with z | z
      · cases z
        left
        rw [e]
        exact ⟨c, by simp⟩
      · exact .inr ⟨z, c, e⟩
theorem closure_cl {env : Env} : ∀ {ns : List (Str × NameKind)} {cs : List (Str × Addr)}, (∀ y, (y, NameKind.free) ∈ ns → ∃ c, env.cells.lookup y = some c) →
    (forIn ns cs fun (x : Str × NameKind) (r : List (Str × Addr)) => (if x.2 == NameKind.free then (do let c ← cellOf env x.1; pure (ForInStep.yield ((x.1, c) :: r))) else pure (ForInStep.yield r) : Sem (ForInStep (List (Str × Addr))))) = (pure (clOf env ns cs) : Sem (List (Str × Addr)))
  | [], _, _ => rfl
  | (n, k) :: r, cs, h => by
    have ih := @closure_cl env r
    rw [List.forIn_cons]
    unfold clOf
    cases hk : k == NameKind.free with
    | false =>
      simp only [Bool.false_eq_true, if_false]
      exact ih fun y hy => h y (List.mem_cons_of_mem _ hy)
    | true =>
      have ek : k = NameKind.free := by simpa using hk
      subst ek
      obtain ⟨c, e⟩ := h n (by simp)
      have ec : cellOf env n = pure c := by unfold cellOf; rw [e]
      simp only [if_true]
      rw [ec, e]
      exact ih fun y hy => h y (List.mem_cons_of_mem _ hy)
theorem closure_eq {scope : Scope} {env : Env} (h : ∀ y, (y, NameKind.free) ∈ scope.names → ∃ c, env.cells.lookup y = some c) : closureFor scope env = pure (clOf env scope.names []) := by
  have q := closure_cl (cs := []) h
  unfold closureFor
  exact congrArg (fun m => m >>= fun r => pure r) q
end L2
namespace L2
open PySem PySem.Spec PyProof.Rows PySem.Calls

theorem lookup_relabel {env : Env} {y : Str} : ∀ {names : List (Str × NameKind)},
    (names.map fun (n, k) => if (k == NameKind.free && env.scope.kind == .function && env.kindOf n == some .cell) then (n, NameKind.cell) else (n, k)).lookup y
      = (names.lookup y).map fun k => if (k == NameKind.free && env.scope.kind == .function && env.kindOf y == some .cell) then NameKind.cell else k
  | [] => rfl
  | (n, k) :: r => by
    have ih := @lookup_relabel env y r
    by_cases hx : y = n
    · subst hx
      simp only [List.map_cons]
      split <;> rename_i hc
      · rw [List.lookup_cons, List.lookup_cons]; simp only [beq_self_eq_true, Option.map_some]; rw [if_pos hc]
      · rw [List.lookup_cons, List.lookup_cons]; simp only [beq_self_eq_true, Option.map_some]; rw [if_neg hc]
    · have hb : (y == n) = false := beq_eq_false_iff_ne.mpr hx
      simp only [List.map_cons]
      split <;> simp only [List.lookup_cons, hb] <;> exact ih

section
variable {X : Cx} {pins : List (Addr × Obj)} {σ : St} {H : Hp} {s : Shared} {a : Addr} {o : HO}
/-- an untracked new record is tracked from here on -/
theorem Inv.track (I : Inv X pins σ H s) (f : FpOk X pins H a) (hs : X.s₀.heap.objs.size ≤ a) (new : ObjOk X.prog X.w (upd H a o) s.heap a o) : Inv X pins σ (upd H a o) s := by
  obtain ⟨f0, f1, f2, f3, f4, f5⟩ := f
  have old : ∀ b ob, X.s₀.heap.get? b = some ob → b ≠ a := fun b ob e z => by subst z; exact absurd (Nat.lt_of_lt_of_le (Heap.lt_size e) hs) (Nat.lt_irrefl _)
  refine ⟨I.ok, I.os, I.bare, ⟨I.base.keep, I.base.slot, fun b ob e n hx => ?_, I.base.there, fun b xs e => ?_, fun b ob u e => ?_, fun b ps e => ?_⟩, I.loc, I.cell, ?_, fun x c e => ?_, fun p hp => ?_, fun b u e => ?_, I.len⟩
  · rw [upd_ne (old b ob e)]; exact I.base.free b ob e n hx
  · have q := I.base.tups b xs e; rw [upd_ne (ne_of_none q f0)]; exact q
  · have q := I.base.frzs b ob u e; rw [upd_ne (ne_of_none q f0)]; exact q
  · obtain ⟨more, q⟩ := I.base.tbls b ps e; exact ⟨more, by rw [upd_ne (ne_of_none q f0)]; exact q⟩
  · rw [upd_ne (Ne.symm f1)]; exact I.free
  · rw [upd_ne (f4 x c e)]; exact I.freeC x c e
  · obtain ⟨e, n, ne, nf, d⟩ := I.pin p hp
    exact ⟨e, by rw [upd_ne (f5 p hp)]; exact n, ne, nf, d⟩
  · by_cases hb : b = a
    · subst hb; rw [upd_same] at e; cases e; exact new
    · rw [upd_ne hb] at e
      exact (I.hok b u e).stay (fun c v _ q => q) (fun c q => by rw [upd_ne (ne_of_none q f0)]; exact q) fun c xs q => by rw [upd_ne (ne_of_none q f0)]; exact q
end

/-- the context of a comprehension's block: the variable x, then the names of the def around -/
def compCx (X : Cx) (scope : Scope) (C : Addr) (x : Str) (M : List Str) (s₂ : Shared) (H₂ : Hp) (fp : List Addr) : Cx :=
  { X with N := x :: M, s₀ := s₂, H₀ := H₂, env := compEnvC scope (clOf X.env scope.names []) C X.env, outer := X.stack, ex := fp, fn := fun _ => false, pn := [], xe := fun _ _ => False }

structure CompOk (X : Cx) (scope : Scope) (x : Str) (M : List Str) : Prop where
  kind : scope.kind = .function
  cell : ∀ y ∈ scope.names, y.2 ≠ .cell
  names : ∀ y ∈ scope.names, y.2 = .local → scope.names.lookup y.1 = some .local
  loc : scope.names.lookup x = some .local
  nd : (x :: M).Nodup
  free : ∀ y, (y, NameKind.free) ∈ scope.names → X.env.scope.names.lookup y = some .cell ∨ X.env.scope.names.lookup y = some .free
  len : M.length = X.N.length
  sub : ∀ (j : Nat) y, M[j]? = some y → scope.names.lookup y = some .local ∨ scope.names.lookup y = some .free → X.N[j]? = some y ∧ scope.names.lookup y = some .free

def compOkB (names outer : List (Str × NameKind)) (N M : List Str) (x : Str) : Bool :=
  names.all (fun y => decide (y.2 ≠ .cell)) && names.all (fun y => decide (y.2 = .local → names.lookup y.1 = some .local)) && decide (names.lookup x = some .local) && decide (x :: M).Nodup &&
  names.all (fun y => decide (y.2 = .free → (outer.lookup y.1 = some .cell ∨ outer.lookup y.1 = some .free))) && decide (M.length = N.length) &&
  (M.zip N).all (fun p => decide (names.lookup p.1 = some .local ∨ names.lookup p.1 = some .free → p.1 = p.2 ∧ names.lookup p.1 = some .free))
theorem compOk_of {X : Cx} {scope : Scope} {x : Str} {M : List Str} (hk : scope.kind = .function) (h : compOkB scope.names X.env.scope.names X.N M x = true) : CompOk X scope x M := by
  unfold compOkB at h
  simp only [Bool.and_eq_true, List.all_eq_true, decide_eq_true_eq] at h
  obtain ⟨⟨⟨⟨⟨⟨h1, h2⟩, h3⟩, h4⟩, h5⟩, h6⟩, h7⟩ := h
  refine ⟨hk, h1, h2, h3, h4, fun y hy => h5 _ hy rfl, h6, fun j y e q => ?_⟩
  have hj : j < M.length := (List.getElem?_eq_some_iff.mp e).1
  have hj2 : j < X.N.length := by omega
  have z : (M.zip X.N)[j]? = some (y, X.N[j]) := by rw [List.getElem?_zip_eq_some]; exact ⟨e, by simp [hj2]⟩
  have r := h7 _ (List.mem_of_getElem? z) q
  exact ⟨by rw [List.getElem?_eq_getElem hj2]; exact congrArg some r.1.symm, r.2⟩

section
variable {X : Cx} {scope : Scope} {x : Str} {M : List Str} {pins : List (Addr × Obj)} {σ : St} {H₂ : Hp} {s₂ : Shared}

/-- what the block's cells are -/
theorem CompOk.cl_of {y : Str} {c : Addr} (h : (clOf X.env scope.names []).lookup y = some c) : X.env.cells.lookup y = some c := by
  rcases clOf_mem (PySem.mem_of_lookup h) with q | q
  · cases q
  · exact q
theorem CompOk.cl_has (K : CompOk X scope x M) (ok : X.Ok) {y : Str} (h : (y, NameKind.free) ∈ scope.names) : ∃ c, (clOf X.env scope.names []).lookup y = some c ∧ X.env.cells.lookup y = some c := by
  have e1 : ∃ c, X.env.cells.lookup y = some c := ok.has y (K.free y h)
  obtain ⟨c, hc⟩ := clOf_has (env := X.env) (ns := scope.names) (cs := []) (y := y) (.inr ⟨h, e1⟩)
  have q : ∃ c, (clOf X.env scope.names []).lookup y = some c := by
    cases e : (clOf X.env scope.names []).lookup y with
    | some c => exact ⟨c, rfl⟩
    | none =>
      rw [List.lookup_eq_none_iff] at e
      have := e _ hc
      simp at this
  obtain ⟨c', hc'⟩ := q
  exact ⟨c', hc', CompOk.cl_of hc'⟩

theorem CompOk.closure (K : CompOk X scope x M) (ok : X.Ok) : closureFor scope X.env = pure (clOf X.env scope.names []) :=
  closure_eq fun y hy => by obtain ⟨c, _, q⟩ := K.cl_has ok hy; exact ⟨c, q⟩

/-- the block's start: D the list (untracked), C the block's own names -/
theorem inv_comp (K : CompOk X scope x M) (I : Inv X pins σ H₂ s₂) {fp : List Addr} (hf : ∀ b ∈ fp, FpOk X pins H₂ b) (hfl : ∀ b ∈ fp, b < s₂.heap.objs.size) {C : Addr} (hC : s₂.heap.objs.size ≤ C) {h₁ : Heap} {t : Nat} {m : Str → Option Value} (hn : h₁.Ns C m)
    (hk : ∀ b o, s₂.heap.get? b = some o → h₁.get? b = some o) : Inv (compCx X scope C x M s₂ H₂ fp) [] (none :: σ) H₂ { s₂ with heap := h₁, toks := t } := by
  have lt : ∀ {b : Addr} {o : Obj}, s₂.heap.get? b = some o → b ≠ C := fun {b o} e z => by subst z; exact absurd (Nat.lt_of_lt_of_le (Heap.lt_size e) hC) (Nat.lt_irrefl _)
  have cC : ∀ y c, (clOf X.env scope.names []).lookup y = some c → c ≠ C := fun y c e => by
    obtain ⟨v, o, ho, _⟩ := I.cell y c (CompOk.cl_of e)
    exact lt ho
  have sub : ∀ b ∈ frs X.stack, b = X.env.locals ∨ b ∈ X.fs := fun b hb => List.mem_cons.mp (I.stkSub b hb)
  have ok : (compCx X scope C x M s₂ H₂ fp).Ok := by
    refine ⟨I.ok.mod, K.kind, I.ok.glob, I.ok.blt, hC, fun y z c h1 h2 => ?_, fun y hy => ?_, fun y c z => ?_, I.ok.hd, I.ok.frames, .inl rfl, fun b hb => ⟨?_, fun y c e => ?_⟩, I.bs, Nat.le_trans I.ok.bsz I.sz, fun b o e hb => ?_, fun b hb hb2 => ?_, I.stack, I.stkFree⟩
    · exact I.ok.inj y z c (CompOk.cl_of h1) (CompOk.cl_of h2)
    · have hy' : (relabel scope X.env).names.lookup y = some .cell ∨ (relabel scope X.env).names.lookup y = some .free := hy
      have q : (y, NameKind.free) ∈ scope.names := by
        unfold relabel at hy'
        rw [lookup_relabel] at hy'
        cases e : scope.names.lookup y with
        | none => rw [e] at hy'; simp at hy'
        | some k =>
          have hm := PySem.mem_of_lookup e
          cases k with
          | free => exact hm
          | cell => exact absurd rfl (K.cell _ hm)
          | _ => rw [e] at hy'; simp at hy'
      obtain ⟨c, q, _⟩ := K.cl_has I.ok q
      exact ⟨c, q⟩
    · exact Bool.noConfusion (show false = true from z)
    · intro z
      have z' : b = C := z
      subst z'
      exact absurd (Nat.lt_of_lt_of_le (hfl b hb) hC) (Nat.lt_irrefl _)
    · exact (hf b hb).2.2.2.2.1 y c (CompOk.cl_of e)
    · have q := (hf b hb).2.2.2.1
      rcases q with q | q
      · exact I.ok.noex b o e q
      · exact absurd (Nat.lt_of_lt_of_le (Heap.lt_size (I.ok.bs b o e).1) q) (Nat.lt_irrefl _)
    · rcases sub b hb2 with z | z
      · exact (hf b hb).2.1 z
      · exact (hf b hb).2.2.1 z
  refine ⟨ok, rfl, I.bare, Un.kept hk, ⟨m, hn, fun i y v e1 e2 e3 => ?_⟩, fun y c e => ?_, ?_, fun y c e => ?_, fun p hp => absurd (show p ∈ ([] : List (Addr × Obj)) from hp) (by simp), I.hok.kept hk, ?_⟩
  · cases i with
    | zero =>
      have e2' : some (none : Option V) = some (some v) := e2
      cases e2'
    | succ j =>
      have e1' : M[j]? = some y := e1
      have e2' : σ[j]? = some (some v) := e2
      have e3' : (relabel scope X.env).names.lookup y = some .local ∨ (relabel scope X.env).names.lookup y = some .cell ∨ (relabel scope X.env).names.lookup y = some .free := e3
      have q : scope.names.lookup y = some .local ∨ scope.names.lookup y = some .free := by
        unfold relabel at e3'
        rw [lookup_relabel] at e3'
        cases e : scope.names.lookup y with
        | none => rw [e] at e3'; simp at e3'
        | some k =>
          have hm := PySem.mem_of_lookup e
          cases k with
          | free => exact .inr rfl
          | «local» => exact .inl rfl
          | cell => exact absurd rfl (K.cell _ hm)
          | _ => rw [e] at e3'; simp at e3'
      obtain ⟨nj, fr⟩ := K.sub j y e1' q
      have hm := PySem.mem_of_lookup fr
      have kd := K.free y hm
      have vs : Vis X.env.scope y := .inr kd
      obtain ⟨mo, _, lo⟩ := I.loc
      obtain ⟨u, r, l⟩ := lo j y v nj e2' vs
      refine ⟨u, r, .inr ⟨?_, ?_⟩⟩
      · show (relabel scope X.env).names.lookup y = some .cell ∨ (relabel scope X.env).names.lookup y = some .free
        unfold relabel
        rw [lookup_relabel, fr]
        simp only [Option.map_some]
        split
        · exact .inl rfl
        · exact .inr rfl
      · obtain ⟨c, q1, q2⟩ := K.cl_has I.ok hm
        rcases l with ⟨k, _⟩ | ⟨_, c', q3, z⟩
        · have k' : X.env.scope.names.lookup y = some .local := k
          rcases kd with kd | kd <;> · rw [k'] at kd; cases kd
        · rw [q2] at q3
          cases q3
          obtain ⟨oc, ho, hd⟩ := z
          exact ⟨c, q1, oc, hk _ _ ho, hd⟩
  · obtain ⟨v, oc, ho, hd⟩ := I.cell y c (CompOk.cl_of e)
    exact ⟨v, oc, hk _ _ ho, hd⟩
  · exact I.hok.fresh hC
  · exact I.freeC y c (CompOk.cl_of e)
  · show (none :: σ).length = (x :: M).length
    rw [List.length_cons, List.length_cons, K.len, I.len]
end
end L2
namespace L2
open PySem PySem.Spec PyProof.Rows PySem.Calls

/-- [e for x in it]: n bounds the turns; W i ys H: behind i turns, ys made -/
def tComp (wi : TI) (te : TE) : TE := fun σ H Q => wi σ H fun J H1 => ∃ (n : Nat) (W : Nat → List V → Hp → Prop), n ≤ sizeLine ∧ W 0 [] H1 ∧ ∀ i ys H, i ≤ n → ys.length = i → W i ys H →
  (J.stop i H ∧ ∀ p, H p = none → Q (.ref p) (upd H p (.lst ys))) ∨ (J.go i H ∧ i < n ∧ ∀ x H', J.yld i H x H' → te (some x :: σ) H' fun v H'' => W (i + 1) (ys ++ [v]) H'')

section
variable {X : Cx} {scope : Scope} {x : Str} {M : List Str} {pins : List (Addr × Obj)} {σ : St} {H₂ : Hp} {s₂ : Shared} {elt iter : Expr} {px pos : Pos} {te : TE} {wi : TI}

theorem comp_block (K : CompOk X scope x M) (hc : X.calm = true) (I : Inv X pins σ H₂ s₂) (he : ∀ (C : Addr) (s₂ : Shared) (H₂ : Hp) (fp : List Addr), PE (compCx X scope C x M s₂ H₂ fp) elt te)
    {it : Addr} {fp : List Addr} {tn : Nat → Heap → Prop} {J : It} (T : Turn X.prog X.w X.K (.Name x px) J fp it tn) (st : tn 0 s₂.heap) (hf : ∀ b ∈ fp, FpOk X pins H₂ b) {n : Nat} (hsz : n ≤ sizeLine) {W : Nat → List V → Hp → Prop} {F : List V → Hp → Prop}
    (w0 : W 0 [] H₂) (turn : ∀ i ys H, i ≤ n → ys.length = i → W i ys H → (J.stop i H ∧ F ys H) ∨ (J.go i H ∧ i < n ∧ ∀ x H', J.yld i H x H' → te (some x :: σ) H' fun v H'' => W (i + 1) (ys ++ [v]) H''))
    {E : Value → Shared → Prop} {RR : Value → Addr → Result → Shared → Prop}
    (hRR : ∀ (D C : Addr) (s' : Shared) (H' : Hp) (ys : List V) (m : Str → Option Value), Inv X pins σ (upd H' D (.lst ys)) s' → H' D = none → FpOk X pins (upd H' D (.lst ys)) C → s'.heap.Ns C m → F ys H' → RR (.ref D) C (.ok .next) s') :
    wpAny (model X.prog X.w) X.A (newList []) (fun acc s₃ => wpAny (model X.prog X.w) X.A (newFunctionEnv scope X.env.globals (clOf X.env scope.names []) [] X.env.qual none .none (some X.env)) (fun cenv s₄ =>
      codeAny (model X.prog X.w) X.A (.compStart (.ListComp elt [⟨.Name x px, iter, [], 0⟩] scope pos) 0 (.ref it) acc { cenv with scope := relabel scope X.env }) (RR acc cenv.locals) s₄) E s₃) E s₂ := by
  refine wpAny_newObj_type (wpAny_newFunctionEnv K.cell (by intro y hy; simp at hy) (fun h₁ hns₁ hsb₁ => ?_) K.kind)
  dsimp only at hns₁ hsb₁ ⊢
  generalize hH2 : s₂.heap.push { cls := .type "list", dict := none, data := .seq ([] : List Value).toArray } = H2 at hns₁ hsb₁ ⊢
  have hC : H2.objs.size = s₂.heap.objs.size + 1 := by rw [← hH2, Heap.size_push]
  have hDC : s₂.heap.objs.size ≠ H2.objs.size := by rw [hC]; exact Nat.ne_of_lt (Nat.lt_succ_self _)
  have below : ∀ b, b < s₂.heap.objs.size → b ≠ H2.objs.size ∧ b ≠ s₂.heap.objs.size := fun b hb => ⟨by rw [hC]; exact Nat.ne_of_lt (Nat.lt_succ_of_lt hb), Nat.ne_of_lt hb⟩
  have hfl : ∀ b ∈ fp, b < s₂.heap.objs.size := fun b hb => by obtain ⟨o, e, _⟩ := T.obj _ _ st b hb; exact Heap.lt_size e
  have old : ∀ b o, s₂.heap.get? b = some o → h₁.get? b = some o := fun b o e => hsb₁.extBut b o (below b (Heap.lt_size e)).1 (Heap.get?_push_of_some _ (hH2 ▸ Heap.get?_push_of_some _ e))
  have hacc : h₁.get? s₂.heap.objs.size = some { cls := .type "list", data := .seq ([] : List Value).toArray 0 } := hsb₁.extBut _ _ hDC (Heap.get?_push_of_some _ (hH2 ▸ Heap.get?_push_size _ rfl))
  generalize hCC : H2.objs.size = C at *
  generalize hDD : s₂.heap.objs.size = D at *
  have hCle : s₂.heap.objs.size ≤ C := by rw [hDD, hC]; exact Nat.le_succ _
  have st₁ : tn 0 h₁ := T.keep _ _ _ st fun b _ o e => old b o e
  have I₁ := inv_comp (t := s₂.toks + ([] : List (Str × Value)).length) K I hf (fun b hb => by rw [hDD]; exact hfl b hb) hCle hns₁ old
  -- the context of the block
  generalize hX' : compCx X scope C x M s₂ H₂ fp = X' at I₁
  have eX : X'.prog = X.prog ∧ X'.w = X.w ∧ X'.K = X.K ∧ X'.calm = true ∧ X'.A = X.A ∧ X'.ex = fp ∧ X'.env = compEnvC scope (clOf X.env scope.names []) C X.env ∧ X'.s₀ = s₂ ∧ X'.pn = [] := by
    subst hX'; exact ⟨rfl, rfl, rfl, hc, rfl, rfl, rfl, rfl, rfl⟩
  obtain ⟨eP, ew, eK, ec, eA, eex, eenv, es0, epn⟩ := eX
  have eL : X'.env.locals = C := by rw [eenv]; rfl
  have cells' : ∀ y c, X'.env.cells.lookup y = some c → X.env.cells.lookup y = some c := fun y c e => by rw [eenv] at e; exact CompOk.cl_of e
  have efs : X'.fs = frs X.stack := by subst hX'; rfl
  have fsub : ∀ b ∈ X'.fs, b = X.env.locals ∨ b ∈ X.fs := fun b hb => List.mem_cons.mp (I.stkSub b (by rw [← efs]; exact hb))
  -- the iterator's records, the list: ours to turn
  have fpok : ∀ {pn : List (Addr × Obj)} {H' : Hp}, (∀ p ∈ pn, p.1 = D) → (∀ b ∈ fp, H' b = none) → ∀ b ∈ fp, FpOk X' pn H' b := fun {pn H'} hp hn b hb => by
    refine ⟨hn b hb, ?_, fun z => ?_, .inl (by rw [eex]; exact hb), fun y c e => (hf b hb).2.2.2.2.1 y c (cells' y c e), fun p hq => ?_⟩
    · rw [eL]; exact (below b (hfl b hb)).1
    · rcases fsub b z with q | q
      · exact (hf b hb).2.1 q
      · exact (hf b hb).2.2.1 q
    · rw [epn, List.nil_append] at hq
      rw [hp p hq]; exact Ne.symm (below b (hfl b hb)).2
  have Dfp : D ∉ fp := fun z => Nat.lt_irrefl _ (hfl D z)
  have ltL : X.env.locals < D := by have := I.lt; rw [hDD] at this; exact this
  have ltF : ∀ b ∈ X.fs, b < D := fun b hb => Nat.lt_of_not_le fun z => I.nofs (a := b) (by rw [hDD]; exact z) hb
  have newok : ∀ {b : Addr} {pn : List (Addr × Obj)} {H' : Hp}, D ≤ b → b ≠ C → H' b = none → (∀ p ∈ pn, p.1 ≠ b) → FpOk X' pn H' b := fun {b pn H'} hb hbC hn hp => by
    refine ⟨hn, by rw [eL]; exact hbC, fun z => ?_, .inr (by rw [es0, hDD]; exact hb), fun y c e => ?_, fun p hq => ?_⟩
    · rcases fsub b z with q | q
      · rw [q] at hb; exact absurd (Nat.lt_of_lt_of_le ltL hb) (Nat.lt_irrefl _)
      · exact absurd (Nat.lt_of_lt_of_le (ltF b q) hb) (Nat.lt_irrefl _)
    · obtain ⟨v, o, ho, _⟩ := I.cell y c (cells' y c e)
      have := Heap.lt_size ho
      rw [hDD] at this
      exact Nat.ne_of_lt (Nat.lt_of_lt_of_le this hb)
    · rw [epn, List.nil_append] at hq
      exact hp p hq
  -- behind the block
  have outer : ∀ {σ' : St} {H' : Hp} {s' : Shared} {pn : List (Addr × Obj)}, Inv X' pn σ' H' s' → Inv X pins σ H' s' := fun {σ' H' s' pn} J' => by
    subst hX'
    refine I.call' (ch := fp) J'.os J'.base J'.hok J'.bare fun b hb => ?_
    obtain ⟨f0, f1, f2, f3, f4, f5⟩ := hf b hb
    exact ⟨f3, f1, f4, f5⟩
  have outok : ∀ {b : Addr} {H' : Hp}, D ≤ b → H' b = none → FpOk X pins H' b := fun {b H'} hb hn => by
    have q := I.fpOk (H' := H') (b := b) (by rw [hDD]; exact hb) hn
    exact q
  have loop : ∀ s₃ : Shared, s₃ = { s₂ with heap := h₁, toks := s₂.toks + ([] : List (Str × Value)).length } →
      codeAny (model X.prog X.w) X.A (.compLoop (.ListComp elt [⟨.Name x px, iter, [], 0⟩] scope pos) 0 (.ref it) (.ref D) (compEnvC scope (clOf X.env scope.names []) C X.env)) (RR (.ref D) C) s₃ := by
    rintro s₃ rfl
    refine compLoop_go (fun k s' => ∃ (i : Nat) (ys : List V) (its : List Value) (σ0 : Option V) (H' : Hp), i ≤ n ∧ k = n + 1 - i ∧ ys.length = i ∧ Inv X' [] (σ0 :: σ) H' s' ∧ tn i s'.heap ∧ (∀ b ∈ fp, H' b = none) ∧ H' D = none ∧ Vals ys its ∧
      (∃ c, s'.heap.get? D = some { cls := .type "list", data := .seq its.toArray c }) ∧ W i ys H') ?_ (n + 1) ⟨0, [], [], none, H₂, Nat.zero_le _, rfl, rfl, I₁, st₁, fun b hb => (hf b hb).1, by rw [← hDD]; exact I.hok.fresh (Nat.le_refl _), .nil, ⟨0, hacc⟩, w0⟩
    rintro k s' ⟨i, ys, its, σ0, H', hi, rfl, hyl, I', st', fr', hD', rv, ⟨c, hobj⟩, w'⟩
    have hx0 : X'.N[0]? = some x := by subst hX'; rfl
    have hxl : X'.env.scope.names.lookup x = some .local := by rw [eenv]; exact lookup_relabel_local K.loc
    have hNd : X'.N.Nodup := by subst hX'; exact K.nd
    rcases turn i ys H' hi hyl w' with ⟨stop, fin⟩ | ⟨go, hlt, step⟩
    · have pinD : Inv X' [(D, { cls := .type "list", data := .seq its.toArray c })] (σ0 :: σ) H' s' := I'.pins_of fun p hp => by
        obtain rfl : p = (D, { cls := .type "list", data := .seq its.toArray c }) := by simpa using hp
        refine ⟨hobj, hD', ?_, ?_, fun v z => nomatch z⟩
        · rw [eL]; exact hDC
        · intro z
          rcases fsub D z with q | q
          · rw [q] at ltL; exact Nat.lt_irrefl _ ltL
          · exact Nat.lt_irrefl _ (ltF D q)
      have q := T.done X' eP ew eK ec i _ s' (σ0 :: σ) H' (notedBy (model X.prog X.w) X.A (compEnvC scope (clOf X.env scope.names []) C X.env) fun e s' => RR (.ref D) C (.error e) s') pinD (fpok (fun p hp => by obtain rfl : p = (D, { cls := .type "list", data := .seq its.toArray c }) := (by simpa using hp); rfl) fr') st' stop
      rw [eA] at q
      refine wpAny_mono q (fun r s4 ⟨hr, I4⟩ => ?_) fun _ _ z => z
      subst hr
      obtain ⟨e4, n4, _⟩ := I4.pin (D, { cls := .type "list", data := .seq its.toArray c }) (List.mem_append_right _ (by simp))
      have O4 := outer I4
      obtain ⟨m4, ns4, _⟩ := I4.loc
      rw [eL] at ns4
      refine hRR D C s4 H' ys m4 (O4.track (outok (Nat.le_refl _) n4) (Nat.le_trans I.sz (by rw [hDD]; exact Nat.le_refl _)) ⟨by rw [hyl]; exact Nat.le_trans hi hsz, its, c, rv, e4⟩) n4 (outok (by rw [hC]; exact Nat.le_succ _) ?_) ns4 fin
      rw [upd_ne (Ne.symm hDC)]
      have := I4.free
      rw [eL] at this
      exact this
    · have pinD : Inv X' [(D, { cls := .type "list", data := .seq its.toArray c })] (σ0 :: σ) H' s' := I'.pins_of fun p hp => by
        obtain rfl : p = (D, { cls := .type "list", data := .seq its.toArray c }) := by simpa using hp
        refine ⟨hobj, hD', ?_, ?_, fun v z => nomatch z⟩
        · rw [eL]; exact hDC
        · intro z
          rcases fsub D z with q | q
          · rw [q] at ltL; exact Nat.lt_irrefl _ ltL
          · exact Nat.lt_irrefl _ (ltF D q)
      have pd : ∀ p ∈ [(D, ({ cls := .type "list", data := .seq its.toArray c } : Obj))], p.1 = D := fun p hp => by obtain rfl : p = (D, { cls := .type "list", data := .seq its.toArray c }) := (by simpa using hp); rfl
      have q := T.item X' eP ew eK ec i _ s' (σ0 :: σ) H' (notedBy (model X.prog X.w) X.A (compEnvC scope (clOf X.env scope.names []) C X.env) fun e s' => RR (.ref D) C (.error e) s') pinD (fpok pd fr') st' go
      rw [eA] at q
      refine wpAny_mono q (fun r s4 ⟨u, hr, h4⟩ => ?_) fun _ _ z => z
      subst hr
      refine wpAny_mono h4 (fun _ s5 ⟨xv, H5, I5, r5, y5, st5, fr5⟩ => ?_) fun _ _ z => z
      have I5' := I5.pinned (fpok pd fr5) (T.obj _ _ st5)
      refine wpAny_assign_Name ?_
      rw [← eenv]
      refine store_ok I5' hNd hx0 (.inl hxl) r5 (fun s6 I6 => ?_) (.inr hxl)
      have te6 := step xv H5 y5
      have q6 := (he C s₂ H₂ fp) (([(D, ({ cls := .type "list", data := .seq its.toArray c } : Obj))]) ++ pinsAt fp s5.heap) s6 (some xv :: σ) H5 (fun v H'' => W (i + 1) (ys ++ [v]) H'') (by rw [hX']; exact I6) te6
      rw [hX', eP, ew, eA] at q6
      refine wpAny_mono q6 (fun u7 s7 ⟨v7, H7, I7, r7, w7⟩ => ?_) (fun _ _ z => by subst hX'; exact (show False from z).elim)
      obtain ⟨e7, n7, _⟩ := I7.pin (D, { cls := .type "list", data := .seq its.toArray c }) (List.mem_append_right _ (List.mem_append_left _ (by simp)))
      refine append_at (hsz := by rw [List.size_toArray, ← rv.length, hyl]; exact Nat.le_trans hi hsz) e7 fun h8 sb8 g8 => ?_
      have I8 : Inv X' [] (some xv :: σ) H7 { s7 with heap := h8, toks := s7.toks } := (I7.pins_of (pins' := []) fun p hp => absurd hp (by simp)).turned (t' := s7.toks) (it := D) (fun b o hb e => (sb8.2 b hb).trans e) n7 (by rw [eL]; exact hDC) (.inr (by rw [es0, hDD]; exact Nat.le_refl _))
        (newok (H' := H7) (pn := []) (Nat.le_refl _) hDC n7 (fun p hp => absurd hp (by simp))).2.2.2.2.1 (fun p hp => by rw [epn] at hp; exact absurd hp (by simp))
      refine ⟨n + 1 - (i + 1), by omega, i + 1, ys ++ [v7], its ++ [u7], some xv, H7, hlt, rfl, by rw [List.length_append, List.length_singleton, hyl], I8, ?_, fun b hb => ?_, n7, rv.append (.cons r7 .nil), ⟨c + 1, ?_⟩, w7⟩
      · refine T.keep _ _ _ st5 fun b hb o e => ?_
        have e' := (I7.pin (b, o) (List.mem_append_right _ (List.mem_append_right _ (mem_pinsAt hb e)))).1
        exact (sb8.2 b (fun z => Dfp (z ▸ hb))).trans e'
      · obtain ⟨o, e, d⟩ := T.obj _ _ st5 b hb
        exact (I7.pin (b, o) (List.mem_append_right _ (List.mem_append_right _ (mem_pinsAt hb e)))).2.1
      · rw [g8, List.push_toArray]
  exact codeAny_compStart_list (loop _ rfl) (T.self X.A 0 _ _ _ st₁ (loop _ rfl))

/-- a comprehension as a value -/
theorem pe_comp (K : CompOk X scope x M) (hc : X.calm = true) (hi : PI X (.Name x px) iter wi) (he : ∀ (C : Addr) (s₂ : Shared) (H₂ : Hp) (fp : List Addr), PE (compCx X scope C x M s₂ H₂ fp) elt te)
    (hs : ∀ x, foldedSetIterable iter X.env x = pure x := by intro _; rfl) : PE X (.ListComp elt [⟨.Name x px, iter, [], 0⟩] scope pos) (tComp wi te) := by
  intro pins s σ H Q I h
  rw [eval_ListComp]
  refine wpAny_comprehension_free (use := none) rfl hs (K.closure I.ok) K.kind K.names (thn (hi pins s σ H _ I h) fun v s1 h1 => thn h1 fun itv s2 h2 => ?_)
  obtain ⟨it, fp, tn, J, H2, e, I2, T, st2, f2, n, W, hsz, w0, turn⟩ := h2
  subst e
  refine comp_block (RR := fun acc C => compPost (model X.prog X.w) X.A X.xe none (EP X pins σ Q) acc C) K hc I2 he T st2 f2 hsz (F := fun ys H => ∀ p, H p = none → Q (.ref p) (upd H p (.lst ys))) w0 turn ?_
  intro D C s' H' ys m I' n' fC ns fin
  refine ⟨m, ns, fun h' sb => ?_⟩
  obtain ⟨f0, f1, f2, f3, f4, f5⟩ := fC
  exact ⟨.ref D, _, I'.turned (t' := s'.toks) (it := C) (fun b o hb e => (sb.2 b hb).trans e) f0 f1 f3 f4 f5, rfl, fin D n'⟩
end
end L2
namespace L2
open PySem PySem.Spec PyProof.Rows PySem.Calls

/-! ### texts as lists of codes -/
def S (l : List Nat) : Str := ⟨l.toArray⟩
abbrev cd (x : Str) : List Nat := x.cps.toList
theorem cd_S (l : List Nat) : cd (S l) = l := rfl
theorem S_cd (x : Str) : S (cd x) = x := by cases x; rfl
theorem S_inj {a b : List Nat} (h : S a = S b) : a = b := congrArg cd h
theorem cd_inj {x y : Str} (h : cd x = cd y) : x = y := by rw [← S_cd x, ← S_cd y, h]
theorem len_S (l : List Nat) : (S l).length = l.length := by show l.toArray.size = _; simp
theorem len_cd (x : Str) : x.length = (cd x).length := by show x.cps.size = _; simp
theorem S_app (a b : List Nat) : S a ++ S b = S (a ++ b) := by
  show (⟨a.toArray ++ b.toArray⟩ : Str) = ⟨(a ++ b).toArray⟩
  simp
theorem cd_app (x y : Str) : cd (x ++ y) = cd x ++ cd y := by
  show (x.cps ++ y.cps).toList = _
  simp

/-! ### for c in text, [.. for c in text] -/
def Its (x : Str) : It := ⟨fun i _ => i < x.length, fun i H v H' => H' = H ∧ ∃ c, (cd x)[i]? = some c ∧ v = .str (S [c]), fun i _ => i = x.length⟩
theorem str_walks {prog : Program} {w : World} {A : Around} (hh : A.handled = none) (I : Addr) (x : Str) (t : Tok) : Walks prog w A I [I] [I] x.cps.size (SignAt x) (fun i h => h.IsStrIter I (strIterType x) x t i) := by
  unfold strIterType
  split
  · exact Walks.strAscii hh I x t
  · exact Walks.strWide hh I x t
theorem turn_str {P : Program} {w : World} {K : PySem.W.Frag} {tg : Expr} (it : Addr) (x : Str) (t : Tok) : Turn P w K tg (Its x) [it] it (fun i h => h.IsStrIter it (strIterType x) x t i) where
  mem := by simp
  obj := fun i h st b hb => by
    have e : b = it := by simpa using hb
    subst e
    obtain ⟨o, e, c, d⟩ := st
    exact ⟨o, e, fun v z => by rw [d] at z; cases z⟩
  keep := fun i h h' st k => by
    obtain ⟨o, e, r⟩ := st
    exact ⟨o, k it (by simp) o e, r⟩
  item := by
    intro X hP hw hK hc i pins s σ H E I hf st hg
    subst hP hw hK
    have W := str_walks (prog := X.prog) (w := X.w) (A := X.A) (I.ok.hd hc) it x t
    obtain ⟨f0, f1, f2, f3, f4, f5⟩ := hf it (by simp)
    refine W.item i s _ E hg st fun v h' tk hv st' k => ?_
    have I1 : Inv X pins σ H { s with heap := h', toks := tk } := I.turned (t' := tk) (fun b o hb e => k b o (by simpa using hb) e) f0 f1 f3 f4 f5
    obtain ⟨c, u, hcx, rfl⟩ := hv
    obtain ⟨o, e, c1, d⟩ := id st'
    refine ⟨_, rfl, go_of (s := { s with heap := h', toks := tk }) e c1 d ?_ ⟨.str (S [c]), H, I1, ⟨_, rfl⟩, ⟨rfl, c, by rw [← hcx]; simp [cd], rfl⟩, st', fun b hb => (hf b hb).1⟩⟩
    unfold strIterType; split <;> decide
  done := by
    intro X hP hw hK hc i pins s σ H E I hf st hg
    subst hP hw hK
    have W := str_walks (prog := X.prog) (w := X.w) (A := X.A) (I.ok.hd hc) it x t
    obtain ⟨f0, f1, f2, f3, f4, f5⟩ := hf it (by simp)
    have e : i = x.cps.size := hg
    subst e
    exact W.done s _ E st fun h' tk k => ⟨rfl, I.turned (t' := tk) (fun b o hb e => k b o (by simpa using hb) e) f0 f1 f3 f4 f5⟩
  self := fun A i s Q E st h => by
    obtain ⟨o, e, c, d⟩ := id st
    unfold strIterType at st
    split at st
    · exact wpAny_pyIter_striter_ascii st h
    · exact wpAny_pyIter_striter_wide st h
section
variable {X : Cx} {tg : Expr}
def iStr (tl : TE) : TI := fun σ H R => tl σ H fun v H1 => ∃ x, v = .str x ∧ R (Its x) H1
theorem pi_str {l : Expr} {tl : TE} (hl : PE X l tl) : PI X tg l (iStr tl) := by
  intro pins s σ H R I h
  refine thn (hl pins s σ H _ I h) fun v s1 ⟨x, H1, I1, r1, q1⟩ => ?_
  obtain ⟨x, rfl, q⟩ := q1
  obtain ⟨t, rfl⟩ := r1
  refine wpAny_pyIter_strU ?_
  refine ⟨s1.heap.objs.size, [s1.heap.objs.size], _, _, H1, rfl, I1.kept (t' := s1.toks) fun b o e => Heap.get?_push_of_some _ e, turn_str _ x t, ⟨_, Heap.get?_push_size _ rfl, rfl, rfl⟩, fun b hb => ?_, q⟩
  have e : b = s1.heap.objs.size := by simpa using hb
  subst e
  exact I1.fpOk (Nat.le_refl _) (I1.hok.fresh (Nat.le_refl _))
end
theorem for_str {x : Str} {g : TG} {tb : TS} {D : Ends} {σ : St} {H : Hp} (Pv : Nat → St → Hp → Prop) (h0 : Pv 0 σ H)
    (hs : ∀ i c σ H, (cd x)[i]? = some c → Pv i σ H → g (.str (S [c])) σ H fun σ2 H2 => tb { D with nx := Pv (i + 1), ct := Pv (i + 1), bk := D.nx } σ2 H2) (hd : ∀ σ H, Pv x.length σ H → D.nx σ H) :
    ∃ W : Nat → Nat → St → Hp → Prop, (∃ m, W 0 m σ H) ∧ ∀ i m σ H, W i m σ H →
      ((Its x).stop i H ∧ D.nx σ H) ∨ ((Its x).go i H ∧ ∃ N : St → Hp → Prop, (∀ σ' H', N σ' H' → ∃ m', m' < m ∧ W (i + 1) m' σ' H') ∧ ∀ v H', (Its x).yld i H v H' → g v σ H' fun σ2 H2 => tb { D with nx := N, ct := N, bk := D.nx } σ2 H2) := by
  refine ⟨fun i m σ H => m = x.length - i ∧ i ≤ x.length ∧ Pv i σ H, ⟨x.length, by simp, Nat.zero_le _, h0⟩, ?_⟩
  rintro i m σ H ⟨rfl, hi, p⟩
  by_cases hlt : i < x.length
  · refine .inr ⟨hlt, Pv (i + 1), fun σ' H' p' => ⟨x.length - (i + 1), by omega, rfl, hlt, p'⟩, fun v H' y => ?_⟩
    obtain ⟨e, c, hc, rfl⟩ := y
    subst e
    exact hs i c σ _ hc p
  · have e : i = x.length := by omega
    subst e
    exact .inl ⟨rfl, hd σ H p⟩

/-! ### comprehensions: what is read of them -/
theorem comp_str {x : Str} {te : TE} {σ : St} {H : Hp} {Q : VK} (hz : x.length ≤ sizeLine) (W : Nat → List V → Hp → Prop) (h0 : W 0 [] H)
    (hs : ∀ i c ys H, (cd x)[i]? = some c → ys.length = i → W i ys H → te (some (.str (S [c])) :: σ) H fun v H' => W (i + 1) (ys ++ [v]) H')
    (hd : ∀ ys H, ys.length = x.length → W x.length ys H → ∀ p, H p = none → Q (.ref p) (upd H p (.lst ys))) :
    ∃ (n : Nat) (W : Nat → List V → Hp → Prop), n ≤ sizeLine ∧ W 0 [] H ∧ ∀ i ys H, i ≤ n → ys.length = i → W i ys H →
      ((Its x).stop i H ∧ ∀ p, H p = none → Q (.ref p) (upd H p (.lst ys))) ∨ ((Its x).go i H ∧ i < n ∧ ∀ v H', (Its x).yld i H v H' → te (some v :: σ) H' fun v H'' => W (i + 1) (ys ++ [v]) H'') := by
  refine ⟨x.length, W, hz, h0, fun i ys H hi hl hw => ?_⟩
  by_cases hlt : i < x.length
  · refine .inr ⟨hlt, hlt, fun v H' y => ?_⟩
    obtain ⟨e, c, hc, rfl⟩ := y
    subst e
    exact hs i c ys _ hc hl hw
  · have e : i = x.length := by omega
    subst e
    exact .inl ⟨rfl, hd ys H hl hw⟩
theorem comp_range {lo : Int} {n : Nat} {te : TE} {σ : St} {H : Hp} {Q : VK} (hz : n ≤ sizeLine) (W : Nat → List V → Hp → Prop) (h0 : W 0 [] H)
    (hs : ∀ i ys H, i < n → ys.length = i → W i ys H → te (some (.int (lo + i)) :: σ) H fun v H' => W (i + 1) (ys ++ [v]) H')
    (hd : ∀ ys H, ys.length = n → W n ys H → ∀ p, H p = none → Q (.ref p) (upd H p (.lst ys))) :
    ∃ (m : Nat) (W : Nat → List V → Hp → Prop), m ≤ sizeLine ∧ W 0 [] H ∧ ∀ i ys H, i ≤ m → ys.length = i → W i ys H →
      ((Itr lo n).stop i H ∧ ∀ p, H p = none → Q (.ref p) (upd H p (.lst ys))) ∨ ((Itr lo n).go i H ∧ i < m ∧ ∀ v H', (Itr lo n).yld i H v H' → te (some v :: σ) H' fun v H'' => W (i + 1) (ys ++ [v]) H'') := by
  refine ⟨n, W, hz, h0, fun i ys H hi hl hw => ?_⟩
  by_cases hlt : i < n
  · refine .inr ⟨hlt, hlt, fun v H' y => ?_⟩
    obtain ⟨e, y⟩ := y
    subst e y
    exact hs i ys _ hlt hl hw
  · have e : i = n := by omega
    subst e
    exact .inl ⟨Nat.le_refl _, hd ys H hl hw⟩
/-! ### all, join, isinstance, slices, products -/
section
variable {X : Cx}
theorem call_all (hc : X.calm = true) : CallR X (.builtin "all") (fun xs H Q => ∃ (p : Addr) (bs : List Bool), xs = [.ref p] ∧ SqL X.K H p (bs.map V.bl) ∧ Q (.bl (bs.all id)) H) := by
  intro pins s σ H xs us Q I r h
  obtain ⟨p, bs, rfl, hq, q⟩ := h
  obtain ⟨u, rfl, ru⟩ := vals1 r
  cases ru
  obtain ⟨its, rv, pl, hz⟩ := I.list hq
  have hlt : p < s.heap.objs.size := by obtain ⟨o, n, e, _⟩ := pl; exact Heap.lt_size e
  refine call_all_walk (wpAny_pyIter_list pl.isList ?_)
  refine ⟨_, _, _, _, _, _, fun i => bs.getD i false, rfl, Walks.list (show X.A.in1.handled = none from I.ok.hd hc) s.heap.objs.size p (Nat.ne_of_lt hlt) its.toArray, ⟨⟨_, Heap.get?_push_size _ rfl, rfl, rfl⟩, pl.isList.push _⟩, fun i v s1 Q1 E1 hP hQ => ?_, fun h' tk k => ?_⟩
  · have hP' : its[i]? = some v := by simpa using hP
    obtain ⟨hi, _⟩ := List.getElem?_eq_some_iff.mp hP'
    have hl := rv.length
    rw [List.length_map] at hl
    have hb : (bs.map V.bl)[i]? = some (V.bl (bs.getD i false)) := by
      rw [List.getElem?_map, List.getElem?_eq_getElem (by omega)]
      simp [List.getD, List.getElem?_eq_getElem (show i < bs.length by omega)]
    obtain ⟨u, hu, ru⟩ := rv.get hb
    rw [hP'] at hu
    cases hu
    cases (show v = Value.bool _ from ru)
    exact wpAny_truthy_bool hQ
  · have e : (List.range its.toArray.size).all (fun i => bs.getD i false) = bs.all id := by
      have hl := rv.length
      rw [List.length_map] at hl
      rw [List.size_toArray, ← hl]
      have z : bs = (List.range bs.length).map fun i => bs.getD i false := by
        apply List.ext_getElem?
        intro i
        rw [List.getElem?_map]
        by_cases hi : i < bs.length
        · simp [List.getElem?_eq_getElem, hi, List.getD]
        · rw [List.getElem?_eq_none (Nat.not_lt.mp hi), List.getElem?_eq_none (by rw [List.length_range]; exact Nat.not_lt.mp hi)]; rfl
      conv => rhs; rw [z]
      rw [List.all_map]; rfl
    rw [e]
    refine ⟨.bl (bs.all id), H, ?_, rfl, q⟩
    have I0 : Inv X pins σ H { s with heap := s.heap.push { cls := .type "list_iterator", data := .fields #[.ref p, .int 0 0] } } := I.kept (t' := s.toks) fun b o e => Heap.get?_push_of_some _ e
    have fo := I.fpOk (H' := H) (b := s.heap.objs.size) (Nat.le_refl _) I.fresh
    obtain ⟨f0, f1, f2, f3, f4, f5⟩ := fo
    exact I0.turned (t' := tk) (it := s.heap.objs.size) (fun b o hb e => k b o (by simpa using hb) e) f0 f1 f3 f4 f5

theorem strs_of {ys : List Str} : ∀ {its : List Value}, Vals (ys.map V.str) its → StrsAre its ys := by
  induction ys with
  | nil => intro its r; cases r; exact .nil
  | cons y ys ih =>
    intro its r
    cases r with
    | cons a b => obtain ⟨t, rfl⟩ := a; exact .cons _ _ (ih b)
def joinS (sep : Str) (ys : List Str) : Str := Txt.join sep ys
theorem mt_join : MtM X "str.join" (fun x vs H Q => ∃ (sep : Str) (p : Addr) (ys : List Str), x = .str sep ∧ vs = [.ref p] ∧ (SqL X.K H p (ys.map V.str) ∨ SqT X.K H p (ys.map V.str)) ∧ (ys.map (·.length)).sum + ys.length * sep.length ≤ 16777216 ∧ Q (.str (joinS sep ys)) H) := by
  intro pins s σ H x vs v us Q I rx rv h
  obtain ⟨sep, p, ys, rfl, rfl, hq, hz, q⟩ := h
  obtain ⟨t, rfl⟩ := rx
  obtain ⟨u, rfl, ru⟩ := rv.one
  cases ru
  rcases hq with hq | hq
  · obtain ⟨its, r, pl, _⟩ := I.list hq
    exact join_list pl.isList (by simpa using strs_of r) hz fun t' k => ⟨.str _, H, I.tok _, ⟨_, rfl⟩, q⟩
  · obtain ⟨its, r, pl, _⟩ := I.tuple hq
    exact join_tuple pl (by simpa using strs_of r) hz fun t' k => ⟨.str _, H, I.tok _, ⟨_, rfl⟩, q⟩

/-- a product whose factors have few bits -/
theorem op_mulB : OpR X (binaryOp .Mult) (rI (fun i j => Builtin.Int.intBits i ≤ 60000000 ∧ Builtin.Int.intBits j ≤ 60000000) fun i j => .int (i * j)) := opI fun i j _ _ _ _ _ hc q => mul_int q (IntMulOk.of_le hc.1 hc.2 (by decide))

/-! ### a slice of a text -/
def cutN (xs : List Nat) (lo hi : Option Int) : List Nat := (xs.drop (HT.sIx xs.length 0 lo)).take (HT.sIx xs.length xs.length hi - HT.sIx xs.length 0 lo)
theorem pick_nat (xs : List Nat) (i k : Nat) : (List.range k).filterMap (fun m => xs[i + m]?) = (xs.drop i).take k := by
  induction k generalizing i with
  | zero => simp
  | succ k ih =>
    rw [List.range_succ_eq_map, List.filterMap_cons]
    have e : (List.map Nat.succ (List.range k)).filterMap (fun m => xs[i + m]?) = (List.range k).filterMap (fun m => xs[(i + 1) + m]?) := by
      rw [List.filterMap_map]
      congr 1
      funext m
      show xs[i + (m + 1)]? = xs[i + 1 + m]?
      congr 1; omega
    rw [e, ih (i + 1)]
    by_cases hi : i < xs.length
    · rw [Nat.add_zero, List.getElem?_eq_getElem hi, List.drop_eq_getElem_cons hi, List.take_succ_cons]
    · rw [Nat.add_zero, List.getElem?_eq_none (Nat.not_lt.mp hi), List.drop_eq_nil_of_le (Nat.not_lt.mp hi), List.drop_eq_nil_of_le (by omega)]
      simp
theorem slice_idx (lo hi : Option Int) (n : Nat) : Builtin.Str.strSliceIndices lo hi 1 n = (List.range (HT.sIx n n hi - HT.sIx n 0 lo)).map fun m => HT.sIx n 0 lo + m := by
  unfold Builtin.Str.strSliceIndices sliceRange
  have h1 : (1 : Int) > 0 := by omega
  simp only [h1, if_true, Int.ediv_one]
  have cl : ∀ (v : Int) (d : Nat), max 0 (min (if v < 0 then v + (n : Int) else v) (n : Int)) = ((HT.sIx n d (some v) : Nat) : Int) := fun v d => by
    show _ = (((if v < 0 then (v + (n : Int)).toNat else min v.toNat n) : Nat) : Int)
    by_cases hv : v < 0
    · simp only [if_pos hv]; omega
    · simp only [if_neg hv]; omega
  have fin : ∀ a b : Nat, (List.range (if (a : Int) < (b : Int) then (b : Int) - (a : Int) + 1 - 1 else 0).toNat).map (fun k : Nat => ((a : Int) + 1 * (k : Int)).toNat) = (List.range (b - a)).map fun m => a + m := fun a b => by
    have e1 : (if (a : Int) < (b : Int) then (b : Int) - (a : Int) + 1 - 1 else 0).toNat = b - a := by split <;> omega
    rw [e1]
    apply List.map_congr_left
    intro k _
    omega
  cases lo with
  | none =>
    cases hi with
    | none => exact fin 0 n
    | some v => simp only [cl v n]; exact fin 0 _
  | some u =>
    cases hi with
    | none => simp only [cl u 0]; exact fin _ n
    | some v => simp only [cl u 0, cl v n]; exact fin _ _
theorem slice_is (x : Str) (lo hi : Option Int) : Txt.slice x lo hi = S (cutN (cd x) lo hi) := by
  unfold Txt.slice
  rw [slice_idx]
  have hx : x.length = (cd x).length := len_cd x
  split
  · rename_i h
    simp only [Bool.and_eq_true, beq_iff_eq, List.length_map, List.length_range] at h
    rw [hx] at h
    have h2 := h.2
    have l1 := HT.sIx_le (cd x).length (cd x).length (Nat.le_refl _) hi
    unfold cutN
    rw [h2]
    have l0 : HT.sIx (cd x).length 0 lo = 0 ∨ (cd x).length = 0 := by omega
    rcases l0 with l0 | l0
    · rw [l0, List.drop_zero, List.take_length, S_cd]
    · have e : cd x = [] := List.eq_nil_of_length_eq_zero l0
      apply cd_inj
      rw [e]; simp [cd_S]
  · rw [List.filterMap_map]
    unfold S cutN
    congr 2
    rw [← pick_nat, hx]
    congr 1
    funext m
    show x.cps[_]? = (cd x)[_]?
    simp [cd]
theorem sl_str : SlR X (fun x lo hi H Q => ∃ z, x = .str z ∧ z.length ≤ sizeLine ∧ Q (.str (S (cutN (cd z) lo hi))) H) := by
  intro pins s σ H x v vl vu lo hi sl Q I rx hs pl pu h
  obtain ⟨z, rfl, hz, q⟩ := h
  obtain ⟨t, rfl⟩ := rx
  refine ⟨"str", _, slot_str_getitem.lookup, typeIs_str s z t, ?_⟩
  rw [← slice_is] at q
  have fin : ∀ (l u : Option (Int × Tok)), l.map (·.1) = lo → u.map (·.1) = hi → vl = partValue l → vu = partValue u → wpAny (model X.prog X.w) X.A (getItem (.str z t) (.ref sl)) (EP X pins σ Q) X.xe s := fun l u e1 e2 e3 e4 => by
    subst e3 e4
    obtain ⟨o, ho, hc, hd⟩ := hs
    subst e1 e2
    exact wpAny_getItem_str_slice (l := l) (u := u) (st := none) ⟨o, ho, hc, hd⟩ rfl (post_val_or_str ⟨Nat.le_trans (Txt.slice_le z _ _) hz, fun t' k => ⟨.str _, H, I.tok _, ⟨_, rfl⟩, q⟩⟩)
  cases pl with
  | none =>
    cases pu with
    | none => exact fin none none rfl rfl rfl rfl
    | int i t => exact fin none (some (i, t)) rfl rfl rfl rfl
  | int j t' =>
    cases pu with
    | none => exact fin (some (j, t')) none rfl rfl rfl rfl
    | int i t => exact fin (some (j, t')) (some (i, t)) rfl rfl rfl rfl
end
end L2
/-! the law's head, with the bits of the script's ints -/
namespace Att
open PySem PySem.W PySem.Calls PyProof.Rows
theorem bits_of_lay {ns : List Int} (h : WData.layableAll [WData.list (ns.map WData.int)] = true) : ∀ n ∈ ns, Builtin.Int.intBits n ≤ 1048576 := by
  have h1 : (WData.list (ns.map WData.int)).layable = true := by simpa [WData.layableAll] using h
  intro n hn
  have h2 := layableW_item h1 (.int n) (List.mem_map.mpr ⟨n, hn, rfl⟩)
  have h3 := (layableW_iff.mp h2).2.2
  simpa [WData.weight, Builtin.Int.intBits] using h3
theorem attach_callB {l : OpenLaw} {n : Nat} {q : Program} {loose : List Str} {XP : (Str → Option Value) → Heap → Prop} {YP : World → Heap → Prop} {d : DefRec}
    (hn : l.most = some n) (hdf : d.params.defaults = [])
    (call : ∀ (w : World) (s₀ s₁ : Shared) (mg mb : Str → Option Value) (fa : Addr) (o : Obj) (pm cd doc : Value) (a : Addr) (vs : List Value) (ns : List Int),
      Ground q loose [] XP w s₀ mg mb s₁.heap → YP w s₁.heap →
      s₁.heap.get? fa = some o → o.data = .func (docDef d.name d.params d.body d.scope pm cd doc) → s₁.heap.CodeRec cd d.name → mg d.name = some (.ref fa) →
      s₁.heap.get? a = some { cls := .type "list", data := .seq vs.toArray } → IntsAre vs ns → ns.length ≤ n → (∀ n ∈ ns, Builtin.Int.intBits n ≤ 1048576) → s₁.gens = #[] →
      codeAny (model l.prog w) callerA (.call (.ref fa) ⟨[.ref a], []⟩) (fun r s' => r = .ok (.ret (.bool true)) ∧ OldK s₁.heap s'.heap ∧ s'.os = s₁.os ∧ AllBare s'.gens) s₁) :
    WalkO q loose XP YP l.row.toRowW d [] (fun f vs => PySem.call f vs) := by
  intro w s₀ s₁ mg mb G Y fa o pm cd doc dV kV ho hd hcd hD hmg hg args vals as hpre hlay hrd hwl hlo
  obtain rfl : dV = .none := Dflts.none hD hdf
  obtain rfl : kV = .none := Dflts.noKw hD
  obtain ⟨a, vs, ns, rfl, rfl, hobj, hints, hlen⟩ := script_of hn hpre hwl
  refine enter_call (codeAny_mono (call w s₀ s₁ mg mb fa o pm cd doc a vs ns G Y ho (fd_plain hd) hcd hmg hobj hints hlen (bits_of_lay hlay) hg) fun r s' hq => ?_)
  obtain ⟨rfl, h2, h3, h4⟩ := hq
  exact ⟨.inl ⟨.bool true, .bool true, [], rfl, fun _ => rfl, .bool true, post_true l _, fun _ => ⟨List.Pairwise.nil, fun _ hm => (nomatch hm)⟩⟩, h2, h3, h4⟩
end Att
namespace L2
open PySem PySem.Spec PyProof.Rows
/-- walk_of, with the bits -/
theorem walk_ofB {l : PySem.W.OpenLaw} {n k : Nat} {q : Program} {loose : List Str} {XP : (Str → Option Value) → Heap → Prop} {YP : World → Heap → Prop} {d : DefRec} {K : Params → PySem.W.Frag} {CX : World → CXT} {sp : World → Sp} {x : Str}
    (hn : l.most = some n) (hn2 : n ≤ sizeLine) (hdf : d.params.defaults = []) (hr : Room k callerA)
    (hY : ∀ (w : World) (h : Heap), YP w h → (K w.params).In h)
    (F : ∀ (w : World) (mg : Str → Option Value) (fa : Addr) (h : Heap), (K w.params).In h → h.Ns mainGlobals mg → mg d.name = some (.ref fa) →
      ∃ fd : FuncData, (∀ (s : Shared) (u : Value), BindsTo s fd ⟨[u], []⟩ [(x, u)]) ∧
        ∀ base : Heap, (K w.params).In base → base.Ns mainGlobals mg → FnOk l.prog w (K w.params) mg base (CX w) k fa fd [x] (sp w))
    (hsp : ∀ (w : World) (H : Hp) (a : Addr) (ns : List Int), ns.length ≤ n → (∀ n ∈ ns, Builtin.Int.intBits n ≤ 1048576) → Only H → SqL (K w.params) H a (ns.map V.int) → sp w [.ref a] H (fun v _ => v = .bl true) fun _ _ _ => False)
    (hCX : ∀ (w : World) (H : Hp) (s : Shared) (e : Value) (s' : Shared), CX w [] H s (fun _ _ _ => False) e s' → False) :
    PySem.W.WalkO q loose XP YP l.row.toRowW d [] (fun f vs => PySem.call f vs) := by
  refine Att.attach_callB hn hdf fun w s₀ s₁ mg mb fa o pm cd doc a vs ns G Y ho hd hcd hmg hobj hints hlen hbits hg => ?_
  have KX := hY w _ Y
  obtain ⟨fd, hb, hF⟩ := F w mg fa _ KX G.T.g hmg
  exact law_call KX G.T.g G.T.b G.T.builtins G.T.nolimit hg hobj hints (Nat.le_trans hlen hn2) hr hF hb (fun H hO hS => hsp w H a ns hlen hbits hO hS) fun H e s' => hCX w H s₁ e s'

/-! ### the module's values -/
def GlobV (mg : Str → Option Value) (x : Str) (v : V) : Prop := ∃ u, mg x = some u ∧ RelV v u
theorem pe_gv {X : Cx} {x : Str} {v : V} {pos : Pos} (hg : Gl X x) (h : GlobV X.mg x v) (hd : (x == ("__debug__" : Str)) = false := by decide) : PE X (.Name x pos) (tC v) := by
  obtain ⟨u, hm, r⟩ := h
  exact pe_glob hg hm r hd
theorem SqT.mod {K : PySem.W.Frag} {a : Addr} {oc : Value} {od : Option Addr} {its : Array Value} {n : Nat} {sl : Array (Option Value)} {xs : List V} (h : K.lookup a = some ⟨oc, od, .seq its n, sl⟩) (hc : oc = .type "tuple") (hz : its.size ≤ sizeLine) (hv : Vals xs its.toList) (H : Hp) : SqT K H a xs :=
  .inr ⟨_, its, n, h, hc, rfl, hz, hv⟩
theorem Same.tup {K : PySem.W.Frag} {H H' : Hp} {a : Addr} {xs : List V} (e : Same H H') (h : SqT K H a xs) : SqT K H' a xs := by
  rcases h with (h | ⟨o, h⟩) | h
  · exact .inl (.inl (e _ _ h))
  · exact .inl (.inr ⟨o, e _ _ h⟩)
  · exact .inr h
theorem same_new {H : Hp} {p : Addr} (h : H p = none) (o : HO) : Same H (upd H p o) := fun b u q => by rw [upd_ne (ne_of_none q h)]; exact q
namespace Bt
theorem int : bootBuiltins "int" = some (.type "int") := PyProof.Rows.boot_int
theorem bool : bootBuiltins "bool" = some (.type "bool") := PyProof.Rows.boot_bool
theorem str : bootBuiltins "str" = some (.type "str") := PyProof.Rows.boot_str
theorem list : bootBuiltins "list" = some (.type "list") := PyProof.Rows.boot_list
theorem tuple : bootBuiltins "tuple" = some (.type "tuple") := PyProof.Rows.boot_tuple
theorem dict : bootBuiltins "dict" = some (.type "dict") := PyProof.Rows.boot_dict
theorem set : bootBuiltins "set" = some (.type "set") := PyProof.Rows.boot_set
theorem isinstance : bootBuiltins "isinstance" = some (.builtin "isinstance") := PyProof.Rows.boot_isinstance
theorem all : bootBuiltins "all" = some (.builtin "all") := PyProof.Rows.boot_all
theorem abs : bootBuiltins "abs" = some (.builtin "abs") := PyProof.Rows.Boot.«abs»
end Bt
end L2
namespace L2
open PySem PySem.Spec PyProof.Rows

abbrev ib (x : Int) : Nat := Builtin.Int.intBits x
theorem ib_div {x : Int} {y : Int} {m : Nat} (hy : 0 < y) (h : ib x ≤ m) : ib (x / y) ≤ m := by
  rw [← Int.fdiv_eq_ediv_of_nonneg x (Int.le_of_lt hy)]
  exact intBits_fdiv_le h
theorem ib_small {x : Int} (h1 : -(2 ^ 64) < x) (h2 : x < 2 ^ 64) : ib x ≤ 64 := intBits_le_64 h1 h2
theorem ib_big {m : Nat} {x : Int} (h : x.natAbs < 2 ^ m) : ib x ≤ m := intBits_le_iff.mpr h
theorem at_some {α : Type} {l : List α} {i : Int} (h0 : 0 ≤ i) (h1 : i < l.length) : ∃ c, atI l i = some c ∧ l[i.toNat]? = some c := by
  have hk : i.toNat < l.length := by omega
  refine ⟨l[i.toNat], ?_, List.getElem?_eq_getElem hk⟩
  have e : i = ((i.toNat : Nat) : Int) := by omega
  have q : atI l ((i.toNat : Nat) : Int) = some l[i.toNat] := atI_nat (List.getElem?_eq_getElem hk)
  rw [← e] at q
  exact q
theorem ixN_some {n : Nat} {i : Int} (h0 : 0 ≤ i) (h1 : i < n) : ixN n i = some i.toNat := by
  unfold ixN
  rw [if_pos h0, if_pos h1]
theorem Same.ty {K : PySem.W.Frag} {H H' : Hp} {x : V} {t : Value} (e : Same H H') (h : TyOf K H x t) : TyOf K H' x t := by
  cases h with
  | non => exact .non
  | bl x => exact .bl x
  | int i => exact .int i
  | str x => exact .str x
  | flt x => exact .flt x
  | lst q => exact .lst (e _ _ q)
  | frz q => exact .frz (e _ _ q)
  | tup q => exact .tup (e _ _ q)
  | dK q => exact .dK (e _ _ q)
  | dT q => exact .dT (e _ _ q)
  | ins q a b c d f => exact .ins (e _ _ q) a b c d f
theorem small_of {n m : Nat} (h : n ≤ m) (hm : m ≤ 16777216 := by decide) : n ≤ sizeLine := by rw [sizeLine_eq]; omega
/-! ### join, as lists of codes -/
def joinL (sep : List Nat) : List (List Nat) → List Nat
  | [] => []
  | [x] => x
  | x :: y :: r => x ++ sep ++ joinL sep (y :: r)
theorem joinS_is (sep : Str) (ys : List Str) : joinS sep ys = S (joinL (cd sep) (ys.map cd)) := by
  have e : joinS sep ys = Str.join sep ys := StrLaws.glued_eq_join sep ys
  rw [e]
  clear e
  induction ys with
  | nil => rfl
  | cons y r ih =>
    cases r with
    | nil => exact (S_cd y).symm
    | cons z r =>
      show y ++ sep ++ Str.join sep (z :: r) = S (cd y ++ cd sep ++ joinL (cd sep) ((z :: r).map cd))
      rw [ih, ← S_app, ← S_app, S_cd, S_cd]
/-! ### loops and comprehensions, their readings shut (opened by their own forms) -/
structure CompR (J : It) (te : TE) (σ : St) (H1 : Hp) (Q : VK) : Prop where
  ex : ∃ (n : Nat) (W : Nat → List V → Hp → Prop), n ≤ sizeLine ∧ W 0 [] H1 ∧ ∀ i ys H, i ≤ n → ys.length = i → W i ys H →
    (J.stop i H ∧ ∀ p, H p = none → Q (.ref p) (upd H p (.lst ys))) ∨ (J.go i H ∧ i < n ∧ ∀ x H', J.yld i H x H' → te (some x :: σ) H' fun v H'' => W (i + 1) (ys ++ [v]) H'')
def tCompR (wi : TI) (te : TE) : TE := fun σ H Q => wi σ H fun J H1 => CompR J te σ H1 Q
structure ForR (J : It) (g : TG) (tb : TS) (D : Ends) (σ : St) (H1 : Hp) : Prop where
  ex : ∃ W : Nat → Nat → St → Hp → Prop, (∃ m, W 0 m σ H1) ∧ ∀ i m σ H, W i m σ H →
    (J.stop i H ∧ D.nx σ H) ∨ (J.go i H ∧ ∃ N : St → Hp → Prop, (∀ σ' H', N σ' H' → ∃ m', m' < m ∧ W (i + 1) m' σ' H') ∧ ∀ x H', J.yld i H x H' → g x σ H' fun σ2 H2 => tb { D with nx := N, ct := N, bk := D.nx } σ2 H2)
def tForR (wi : TI) (g : TG) (tb : TS) : TS := fun D σ H => wi σ H fun J H1 => ForR J g tb D σ H1
structure WhileR (c : TT) (tb : TS) (D : Ends) (σ : St) (H : Hp) : Prop where
  ex : tWhile c tb D σ H
def tWhileR (c : TT) (tb : TS) : TS := fun D σ H => WhileR c tb D σ H
theorem PI.weak {X : Cx} {tg iter : Expr} {wi : TI} (h : PI X tg iter wi) {pins : List (Addr × Obj)} {s : Shared} {σ : St} {H : Hp} {R R' : It → Hp → Prop} (I : Inv X pins σ H s) (hw : wi σ H R) (hR : ∀ J H1, R J H1 → R' J H1) :
    wpAny (model X.prog X.w) X.A (eval iter X.env) (fun v s1 => wpAny (model X.prog X.w) X.A (pyIter v) (PIE X pins σ tg R') X.xe s1) X.xe s := by
  refine thn (h pins s σ H R I hw) fun v s1 h1 => thn h1 fun itv s2 ⟨it, fp, tn, J, H', e, I', T, st, f, r⟩ => ?_
  exact ⟨it, fp, tn, J, H', e, I', T, st, f, hR J H' r⟩
section
variable {X : Cx} {scope : Scope} {x : Str} {M : List Str} {elt iter : Expr} {px pos : Pos} {te : TE} {wi : TI}
/-- the source of a comprehension or a loop, whose reading is of any form -/
theorem pi_conv {tg : Expr} {wi wi' : TI} (h : PI X tg iter wi) (hw : ∀ σ H R, wi' σ H R → ∃ R0, wi σ H R0 ∧ ∀ J H1, R0 J H1 → R J H1) : PI X tg iter wi' := by
  intro pins s σ H R I q
  obtain ⟨R0, q0, hR⟩ := hw σ H R q
  exact h.weak I q0 hR
theorem pe_compR (K : CompOk X scope x M) (hc : X.calm = true) (hi : PI X (.Name x px) iter wi) (he : ∀ (C : Addr) (s₂ : Shared) (H₂ : Hp) (fp : List Addr), PE (compCx X scope C x M s₂ H₂ fp) elt te)
    (hs : ∀ x, foldedSetIterable iter X.env x = pure x := by intro _; rfl) : PE X (.ListComp elt [⟨.Name x px, iter, [], 0⟩] scope pos) (tCompR wi te) := by
  intro pins s σ H Q I h
  have q := pe_comp (pos := pos) K hc (wi := fun σ0 H0 R0 => ∃ R, wi σ0 H0 R ∧ ∀ J H1, R J H1 → R0 J H1) (pi_conv hi fun σ H R ⟨R1, a, b⟩ => ⟨R1, a, b⟩) he hs pins s σ H Q I
  exact q ⟨_, h, fun J H1 r => r.ex⟩
theorem ps_forR {tg : Expr} {body : List Stmt} {g : TG} {tb : TS} (hp : PassesOwn (model X.prog X.w) X.A X.env X.xe) (hc : X.calm = true) (hi : PI X tg iter wi) (hg : PG X tg g) (hb : PSs X body tb)
    (hs : ∀ x, foldedSetIterable iter X.env x = pure x := by intro _; rfl) : PS X (.For tg iter body [] pos) (tForR wi g tb) := by
  intro pins s σ H D I h
  have q := ps_for (pos := pos) hp hc (wi := fun σ0 H0 R0 => ∃ R, wi σ0 H0 R ∧ ∀ J H1, R J H1 → R0 J H1) (pi_conv hi fun σ H R ⟨R1, a, b⟩ => ⟨R1, a, b⟩) hg hb hs pins s σ H D I
  exact q ⟨_, h, fun J H1 r => r.ex⟩
theorem ps_whileR {c : Expr} {body : List Stmt} {tc : TT} {tb : TS} (hp : PassesOwn (model X.prog X.w) X.A X.env X.xe) (hc : PT X c tc) (hb : PSs X body tb) : PS X (.While c body [] pos) (tWhileR tc tb) := fun pins s σ H D I h => ps_while hp hc hb pins s σ H D I h.ex
end

theorem comp_strR {x : Str} {te : TE} {σ : St} {H : Hp} {Q : VK} (hz : x.length ≤ sizeLine) (W : Nat → List V → Hp → Prop) (h0 : W 0 [] H)
    (hs : ∀ i c ys H, (cd x)[i]? = some c → ys.length = i → W i ys H → te (some (.str (S [c])) :: σ) H fun v H' => W (i + 1) (ys ++ [v]) H')
    (hd : ∀ ys H, ys.length = x.length → W x.length ys H → ∀ p, H p = none → Q (.ref p) (upd H p (.lst ys))) : CompR (Its x) te σ H Q := ⟨comp_str hz W h0 hs hd⟩
theorem comp_rangeR {lo : Int} {n : Nat} {te : TE} {σ : St} {H : Hp} {Q : VK} (hz : n ≤ sizeLine) (W : Nat → List V → Hp → Prop) (h0 : W 0 [] H)
    (hs : ∀ i ys H, i < n → ys.length = i → W i ys H → te (some (.int (lo + i)) :: σ) H fun v H' => W (i + 1) (ys ++ [v]) H')
    (hd : ∀ ys H, ys.length = n → W n ys H → ∀ p, H p = none → Q (.ref p) (upd H p (.lst ys))) : CompR (Itr lo n) te σ H Q := ⟨comp_range hz W h0 hs hd⟩
theorem for_listR {K : PySem.W.Frag} {a : Addr} {xs : List V} {g : TG} {tb : TS} {D : Ends} {σ : St} {H : Hp} (Pv : Nat → St → Hp → Prop) (h0 : Pv 0 σ H) (hl : ∀ i σ H, i ≤ xs.length → Pv i σ H → SqL K H a xs)
    (hs : ∀ i x σ H, xs[i]? = some x → Pv i σ H → g x σ H fun σ2 H2 => tb { D with nx := Pv (i + 1), ct := Pv (i + 1), bk := D.nx } σ2 H2) (hd : ∀ σ H, Pv xs.length σ H → D.nx σ H) : ForR (Itl K a) g tb D σ H := ⟨for_list Pv h0 hl hs hd⟩
theorem for_rangeR {lo : Int} {n : Nat} {g : TG} {tb : TS} {D : Ends} {σ : St} {H : Hp} (Pv : Nat → St → Hp → Prop) (h0 : Pv 0 σ H)
    (hs : ∀ i σ H, i < n → Pv i σ H → g (.int (lo + i)) σ H fun σ2 H2 => tb { D with nx := Pv (i + 1), ct := Pv (i + 1), bk := D.nx } σ2 H2) (hd : ∀ σ H, Pv n σ H → D.nx σ H) : ForR (Itr lo n) g tb D σ H := ⟨for_range Pv h0 hs hd⟩
theorem for_strR {x : Str} {g : TG} {tb : TS} {D : Ends} {σ : St} {H : Hp} (Pv : Nat → St → Hp → Prop) (h0 : Pv 0 σ H)
    (hs : ∀ i c σ H, (cd x)[i]? = some c → Pv i σ H → g (.str (S [c])) σ H fun σ2 H2 => tb { D with nx := Pv (i + 1), ct := Pv (i + 1), bk := D.nx } σ2 H2) (hd : ∀ σ H, Pv x.length σ H → D.nx σ H) : ForR (Its x) g tb D σ H := ⟨for_str Pv h0 hs hd⟩

theorem cutV_map {α : Type} (f : α → V) (l : List α) (lo hi : Option Int) : ∃ ms : List α, cutV (l.map f) lo hi = ms.map f ∧ (∀ m ∈ ms, m ∈ l) ∧ ms.length ≤ l.length := by
  refine ⟨(l.drop (HT.sIx (l.map f).length 0 lo)).take (HT.sIx (l.map f).length (l.map f).length hi - HT.sIx (l.map f).length 0 lo), ?_, fun m hm => ?_, ?_⟩
  · unfold cutV
    rw [List.map_take, List.map_drop]
  · exact List.mem_of_mem_drop (List.mem_of_mem_take hm)
  · rw [List.length_take, List.length_drop]; omega
theorem map_get {α : Type} {f : α → V} {l : List α} {i : Nat} {x : V} (h : (l.map f)[i]? = some x) : ∃ a, l[i]? = some a ∧ x = f a := by
  rw [List.getElem?_map] at h
  cases e : l[i]? with
  | none => rw [e] at h; cases h
  | some a => rw [e] at h; exact ⟨a, rfl, (Option.some.inj h).symm⟩

theorem kit_ty {K : PySem.W.Frag} {a b : String} {r : Bool} (h : (if (Value.type a == Value.type b) = true then some true else if PySem.W.kitMeta b = true then (fastBuiltinMro a).map (·.contains (Value.type b)) else none) = some r) : PySem.W.kitOne K (.type a) (.type b) = some r := h
end L2
/-! exceptions over the layer: an own class is raised, passes frames, is caught -/
namespace L2
open PySem PySem.Spec PyProof.Rows PySem.Calls

/-- how the heap behind an exception lies to that ahead of the call; B: all that stays as it is -/
structure XUn (outer : List Env) (H H' : Hp) (h B h1 : Heap) : Prop where
  keepB : ∀ b o, h.get? b = some o → H b = none → b ∉ frs outer → B.get? b = some o
  thereB : ∀ b o, h.get? b = some o → b ∉ frs outer → ∃ o', B.get? b = some o'
  slot : ∀ b o, h.get? b = some o → H b = none → b ∈ frs outer → ∃ sl, h1.get? b = some { o with slots := sl }
  free : ∀ b o, h.get? b = some o → H b = none → H' b = none
  tups : ∀ b xs, H b = some (.tup xs) → H' b = some (.tup xs)
  frzs : ∀ b o u, H b = some (.frz o u) → H' b = some (.frz o u)
  tbls : ∀ b ps, H b = some (.tbl ps) → ∃ more, H' b = some (.tbl (ps ++ more))
theorem XUn.step {outer : List Env} {H H' : Hp} {h B h1 h2 base : Heap} (x : XUn outer H H' h B h1) (fr : h1.FunFrames base outer) (up : h1.UpToSlots h2) : XUn outer H H' h B h2 :=
  ⟨x.keepB, x.thereB, fun b o e n hb => by
    obtain ⟨sl, q⟩ := x.slot b o e n hb
    obtain ⟨_, o', ho', hd'⟩ := fr.mem hb
    rw [q] at ho'; cases ho'
    obtain ⟨sl', q'⟩ := up b _ q hd'
    exact ⟨sl', q'⟩, x.free, x.tups, x.frzs, x.tbls⟩
theorem XUn.un {outer : List Env} {H H' : Hp} {h B h1 : Heap} (x : XUn outer H H' h B h1) (st : B.StaysIn h1) (fr : h1.FunFrames B outer) : Un (frs outer) [] H H' h h1 :=
  ⟨fun b o e n hb _ => st b o (x.keepB b o e n hb), fun b o e n hb _ => x.slot b o e n hb, fun b o e n _ => x.free b o e n, fun b o e _ => by
    by_cases hb : b ∈ frs outer
    · obtain ⟨_, o', ho', _⟩ := fr.mem hb
      exact ⟨o', ho'⟩
    · obtain ⟨o', q⟩ := x.thereB b o e hb
      exact ⟨o', st b o' q⟩, x.tups, x.frzs, x.tbls⟩

/-- an exception behind a call: its class; it flies -/
def CXW (P : Program) (w : World) : CXT := fun outer H s E e s' =>
  ∃ (ea t : Addr) (cls : Value) (H' : Hp) (B : Heap), e = .ref ea ∧ Heap.FlyingW B outer ea cls (.ref t) s'.heap ∧ s'.os = s.os ∧ AllBare s'.gens ∧ HOk P w H' B ∧ XUn outer H H' s.heap B s'.heap ∧ E cls none H'

section
variable {P : Program} {w : World} {K : PySem.W.Frag} {mg : Str → Option Value} {base : Heap} {N : List Str} {qual : Str} {scope : Scope} {f : Addr} {cdv : Value} {A : Around} {outer : List Env} {s : Shared} {H : Hp} {E : XK}
/-- an exception that was just made leaves the frame -/
theorem xe_made {pins : List (Addr × Obj)} {σ : St} {H1 : Hp} {s1 : Shared} {h' : Heap} {e : Addr} {cls : Value} {vs : List Value} (I : Inv (cxOf (CXW P w) P w K mg base N qual scope f cdv A outer s H E) pins σ H1 s1)
    (hx : Heap.MadeExcOf s1.heap h' e cls vs) (hE : E cls none H1) : (cxOf (CXW P w) P w K mg base N qual scope f cdv A outer s H E).xe (.ref e) { s1 with heap := h' } := by
  have hst := I.stack
  have hin : ∀ env ∈ (cxOf (CXW P w) P w K mg base N qual scope f cdv A outer s H E).stack, ∀ b, env.frame = some b → b ∈ frs (cxOf (CXW P w) P w K mg base N qual scope f cdv A outer s H E).stack := fun env he b hb => List.mem_filterMap.mpr ⟨env, he, hb⟩
  generalize hB : PySem.W.hideAll s1.heap (frs (cxOf (CXW P w) P w K mg base N qual scope f cdv A outer s H E).stack) = B
  have stB : B.StaysIn s1.heap := fun b o q => by rw [← hB] at q; exact PySem.W.of_hideAll _ q
  have getB : ∀ b o, s1.heap.get? b = some o → b ∉ frs (cxOf (CXW P w) P w K mg base N qual scope f cdv A outer s H E).stack → B.get? b = some o := fun b o q n => by rw [← hB]; exact PySem.W.hideAll_get _ q n
  have frB : s1.heap.FunFrames B (cxOf (CXW P w) P w K mg base N qual scope f cdv A outer s H E).stack := by rw [← hB]; exact PySem.W.funFrames_hide hst hin
  have noL : ∀ b o, s.heap.get? b = some o → b ∉ frs outer → b ∉ frs (cxOf (CXW P w) P w K mg base N qual scope f cdv A outer s H E).stack := fun b o q n z => by
    rcases List.mem_cons.mp (I.stkSub b z) with z | z
    · have : b < s.heap.objs.size := Heap.lt_size q
      have a := I.ok.above
      rw [← z] at a
      exact absurd (Nat.lt_of_lt_of_le this a) (Nat.lt_irrefl _)
    · exact n z
  show wpAny (model P w) _ (leaving (envOfC qual scope s.heap.objs.size f cdv) (.ref e)) _ _ _
  refine wpAny_leaves_madeW (base := B) (h := s1.heap) (outer := outer) I.ok.frames rfl stB frB hx fun h2 t fl tup tn up => ?_
  refine ⟨e, t, cls, H1, B, rfl, fl, I.os, I.bare, fun a o q => (I.hok a o q).stay (fun b u hb z => getB b u z fun m => ?_) (fun _ z => z) (fun _ _ z => z), ⟨fun b o q n hb => ?_, fun b o q hb => ?_, fun b o q n hb => ?_, fun b o q n => I.base.free b o q n (fun z => nomatch z), I.base.tups, I.base.frzs, I.base.tbls⟩, hE⟩
  · have z := I.stkFree b m
    rcases hb with r | r
    · rw [r, q] at z; cases z
    · rw [r] at z; cases z
  · exact getB b o (I.base.keep b o q n hb (fun z => nomatch z)) (noL b o q hb)
  · obtain ⟨o', q'⟩ := I.base.there b o q (fun z => nomatch z)
    exact ⟨o', getB b o' q' (noL b o q hb)⟩
  · obtain ⟨sl, q'⟩ := I.base.slot b o q n hb (fun z => nomatch z)
    have q2 := hx.keeps b _ q'
    obtain ⟨_, o2, ho2, hd2⟩ := I.funs.mem hb
    rw [q'] at ho2; cases ho2
    obtain ⟨sl', z⟩ := up b _ q2 hd2
    exact ⟨sl', z⟩
end

/-! ### a def that may raise -/
section
variable {P : Program} {w : World} {K : PySem.W.Frag} {mg : Str → Option Value} {base : Heap}
theorem Fun.okX {x qual : Str} {st : Stmt} {f : Addr} {fd : FuncData} {N ps : List Str} {k : Nat} {sp : Sp} (F : Fun K x qual st f fd) (S : FnScope N ps (defScope st)) (len : ∀ vs H Q E, sp vs H Q E → vs.length = ps.length)
    (hbody : ∀ (cdv : Value) (A : Around) (outer : List Env) (s : Shared) (H : Hp) (vs : List V) (Q : VK) (E : XK), Room k (A.deeper (envOfC qual (defScope st) s.heap.objs.size f cdv)) → sp vs H Q E →
      ∃ t, PSs (cxOf (CXW P w) P w K mg base N qual (defScope st) f cdv A outer s H E) (defBody st) t ∧ t { nx := fun _ H' => Q .non H', rt := Q } (start N vs) H) : FnOk P w K mg base (CXW P w) (k + 1) f fd ps sp := by
  obtain ⟨oc, od, kV, doc, pm, an, cdv, ct, osl, rfl, lk, hcd⟩ := F.ex
  exact fn_of lk hcd S len fun A outer s H vs Q E hr hsp => hbody cdv A outer s H vs Q E hr hsp
end
end L2
namespace L2
open PySem PySem.Spec PyProof.Rows PySem.Calls PySem.W PySem.Builtin PySem.Builtin.ObjectAttr PySem.Builtin.Getset_descriptor

/-! ### the class of an object whose dict is not known -/
section
variable {prog : Program} {w : World} {A : Around} {E : Value → Shared → Prop} {s : Shared} {K : PySem.W.Frag} {x D : Addr}
def ClsAt (h : Heap) (x D : Addr) : Prop := ∃ o, h.get? x = some o ∧ o.cls = .ref D
theorem ClsAt.type {M : Model} {h : Heap} (p : ClsAt h x D) : Looks M h (typeOf (.ref x)) (.ref D) := by
  obtain ⟨o, e, c⟩ := p
  exact c ▸ (Looks.ld e).andThen .now
theorem looks_data {M : Model} {h : Heap} {name : Str} {a g : Value} (X : K.In h) (hf : findIn K (.ref D) name = some (some a)) (hg : specialIn K a "__get__" = some (some g)) (ht : takesIn K a = some true) : Looks M h (find (.ref x) (.ref D) name) (.bind g a) := by
  have l1 := looks_findIn (M := M) X hf
  have l2 : Looks M h (getOf (some a)) (some g) := looks_specialIn X hg
  have l3 := looks_takesIn (M := M) X ht
  refine l1.andThen (l2.andThen ?_)
  have l4 : Looks M h (dataDescriptor? (some a) (some g)) (some (g, a)) := l3.andThen .now
  exact l4.andThen (Looks.tag .now)
structure ExcCls (K : PySem.W.Frag) (D : Addr) : Prop where
  ga : findIn K (.ref D) "__getattribute__" = some (some (.builtin "BaseException.__getattribute__"))
  gk : findIn K (.ref D) "__getattr__" = some none
  cl : (clsIn K D).isSome = true
  ha : findIn K (.ref D) "__class__" = some (some (.builtin "object.__class__"))
  hn : specialIn K (.builtin "object.__class__") "__get__" = some (some (.builtin "getset_descriptor.__get__"))
  tk : takesIn K (.builtin "object.__class__") = some true
  mo : mroIn K D (.type "object") = some true
  mb : mroIn K D (.type "BaseException") = some true
theorem class_get {R : Result → Shared → Prop} (c : ExcCls K D) (X : K.In s.heap) (p : ClsAt s.heap x D) (q : R (.ok (.ret (.ref D))) s) :
    codeAny (model prog w) A (.call (.builtin "getset_descriptor.__get__") ⟨[.builtin "object.__class__", .ref x, .ref D], []⟩) R s := by
  obtain ⟨hh, g, d, t, os⟩ := s
  obtain ⟨o, eo, ec⟩ := id p
  have t0 := p.type (M := model prog w)
  have l1 := looks_mroIn (M := model prog w) X c.mo
  have arg0 := KF.args_gs (Value.builtin "object.__class__") (Value.ref x) (Value.ref D)
  refine codeAny_call_builtin KF.slot_gs.plain KF.entry_gs
    (KF.slot_gs.check _ _ _ _ _ _ _ _ KF.type_class arg0 ?_)
  unfold Builtin.«getset_descriptor.__get__»
    descrGet
  rw [dga_obj]; refine wpAny_bind (wpAny_pure ?_)
  unfold descrGetter descrCheckInstance
    descrNameAndClass isInstance
  simp only [KF.owner_class]; (repeat lk)
  refine ⟨Code.quiet_builtin _
    (by decide +kernel), codeAny_builtin KF.entry_class ?_⟩
  unfold Builtin.«object.__class__»
    shownTypeOf
  (repeat lk); exact q
theorem class_call {tk : Tok} {R : Result → Shared → Prop} (c : ExcCls K D) (X : K.In s.heap) (p : ClsAt s.heap x D) (q : R (.ok (.ret (.ref D))) s) :
    codeAny (model prog w) A (.call (.builtin "BaseException.__getattribute__") ⟨[.ref x, .str "__class__" tk], []⟩) R s := by
  obtain ⟨hh, g, d, t, os⟩ := s
  obtain ⟨o, eo, ec⟩ := id p
  have t0 := p.type (M := model prog w)
  have lb := looks_mroIn (M := model prog w) X c.mb
  have f0 := looks_data (x := x) (M := model prog w) X c.ha c.hn c.tk
  have hk : builtinKind "BaseException.__getattribute__" = some .slot := by decide +kernel
  have hsplit : splitId "BaseException.__getattribute__" = some ("BaseException", "__getattribute__") := by decide +kernel
  have ha := F.args_bexc_ga (.ref x) (.str "__class__" tk)
  refine codeAny_call_builtin F.excAttr_ValueError.ga.plain F.entry_bexc_ga ?_
  simp only [checkBuiltinCall, hk, hsplit]
  unfold isInstance
  refine wpAny_bind ?_
  (repeat (first | (with_reducible refine wpAny_call (class_get c X p ?_)) | lk))
  exact q
theorem class_of {Q : Option Value → Shared → Prop} (c : ExcCls K D) (X : K.In s.heap) (p : ClsAt s.heap x D) (q : Q (some (.ref D)) { s with toks := s.toks + 1 }) : wpAny (model prog w) A (getAttr? (.ref x) "__class__") Q E s := by
  obtain ⟨hh, g, d, t, os⟩ := s
  obtain ⟨o, eo, ec⟩ := id p
  have t0 := p.type (M := model prog w)
  have t1 := looks_findIn (M := model prog w) X c.ga
  have f1 := looks_findIn (M := model prog w) X c.gk
  have f3 := F.excAttr_ValueError.ga.bind (.ref x)
  unfold getAttr? getAttrBy? getAttrBy
  refine wpAny_bind (wpAny_mkText (wpAny_bind (wpAny_attempt (wpAny_holding (wpAny_bind (t0.at (wpAny_bind (t1.at ?_))))))))
  show wpAny _ _ (getAttrByItsOwn _ _ _ _ _ _) _ _ _
  unfold getAttrByItsOwn hookBefore
  refine wpAny_bind (f1.at (wpAny_bind (wpAny_attempt (wpAny_holding ?_))))
  show wpAny _ _ (boundAndCalled _ _ _) _ _ _
  unfold boundAndCalled
  rw [f3]
  refine wpAny_bind (wpAny_pure (wpAny_call ?_))
  refine class_call c (s := ⟨hh, g, d, t + 1, os⟩) X p ?_
  exact wpAny_pure (wpAny_pure q)
theorem kit_exc (c : ExcCls K D) : KitX K (.ref x) (.ref D) (fun h => ClsAt h x D) where
  ty := fun _ _ _ p => p.type
  it := fun _ _ X _ => by
    obtain ⟨cd, e⟩ := Option.isSome_iff_exists.mp c.cl
    unfold clsIn at e
    split at e
    · rename_i c' d' cd' sl' ho
      intro A' Q' E' s' k q
      unfold isType loadHead
      exact wpAny_bind (wpAny_loadPart (k _ _ (X _ _ ho)) (wpAny_pure q))
    · cases e
  ne := fun h tp dd its n sl X htp => by
    obtain ⟨cd, e⟩ := Option.isSome_iff_exists.mp c.cl
    refine Bool.eq_false_iff.mpr fun q => ?_
    have z : D = tp := Value.ref.inj (beq_iff_eq.mp q)
    subst z
    unfold clsIn at e
    split at e
    · rename_i c' d' cd' sl' ho
      have z := (X _ _ ho).symm.trans htp
      cases z
    · cases e
  ca := fun X p k => class_of c X p k
end

/-! ### isinstance, of exceptions too, against several classes too -/
/-- an exception object: its class -/
def excO (a D : Addr) : HO := .ext fun h => ClsAt h a D
inductive TyE (K : PySem.W.Frag) (H : Hp) : V → Value → Prop where
  | old {x : V} {t : Value} (h : TyOf K H x t) : TyE K H x t
  | exc {a D : Addr} (h : H a = some (excO a D)) (c : ExcCls K D) : TyE K H (.ref a) (.ref D)
  | tpl {a : Addr} {xs : List V} (h : SqT K H a xs) : TyE K H (.ref a) (.type "tuple")
def vVal : V → Value
  | .ref a => .ref a
  | .ty n => .type n
  | _ => .none
def isCls : V → Bool
  | .ref _ => true
  | .ty _ => true
  | _ => false
section
variable {X : Cx} {pins : List (Addr × Obj)} {σ : St} {H : Hp} {s : Shared} {A : Around} {E : Value → Shared → Prop} {Q : Value → Shared → Prop} {c : Value} {b : Bool}
theorem kit_of {x : V} {u t : Value} (I : Inv X pins σ H s) (rx : RelV x u) (ty : TyE X.K H x t) : (∃ P : Heap → Prop, KitX X.K u t P ∧ P s.heap) ∧ u ≠ .builtin "__main__.__loader__#opaque" := by
  cases ty with
  | @tpl a xs h =>
    cases (show u = Value.ref a from rx)
    obtain ⟨its, r, pl, hz⟩ := I.tuple h
    obtain ⟨o, h1, h2, _⟩ := pl
    exact ⟨⟨_, kitx_tuple, ⟨o, h1, h2⟩⟩, fun z => nomatch z⟩
  | old ty =>
    cases ty with
    | non => cases (show u = Value.none from rx); exact ⟨⟨_, kitx_none, True.intro⟩, fun z => nomatch z⟩
    | bl y => cases (show u = Value.bool y from rx); exact ⟨⟨_, kitx_bool, True.intro⟩, fun z => nomatch z⟩
    | int i => obtain ⟨t, q⟩ := (show ∃ t, u = Value.int i t from rx); cases q; exact ⟨⟨_, kitx_int, True.intro⟩, fun z => nomatch z⟩
    | str y => obtain ⟨t, q⟩ := (show ∃ t, u = Value.str y t from rx); cases q; exact ⟨⟨_, kitx_str, True.intro⟩, fun z => nomatch z⟩
    | flt y => obtain ⟨t, q⟩ := (show ∃ t, u = Value.float y t from rx); cases q; exact ⟨⟨_, kitx_float, True.intro⟩, fun z => nomatch z⟩
    | @lst a xs ea =>
      cases (show u = Value.ref a from rx)
      obtain ⟨_, _, n, _, h1⟩ := (show ObjOk X.prog X.w H s.heap a (.lst xs) from I.hok a _ ea)
      exact ⟨⟨_, kitx_list, ⟨_, h1, rfl⟩⟩, fun z => nomatch z⟩
    | @frz a ob xs ea =>
      cases (show u = Value.ref a from rx)
      obtain ⟨_, _, _, n, _, h1⟩ := (show ObjOk X.prog X.w H s.heap a (.frz ob (.lst xs)) from I.hok a _ ea)
      exact ⟨⟨_, kitx_list, ⟨_, h1, rfl⟩⟩, fun z => nomatch z⟩
    | @tup a xs ea =>
      cases (show u = Value.ref a from rx)
      obtain ⟨_, _, _, p⟩ := (show ObjOk X.prog X.w H s.heap a (.tup xs) from I.hok a _ ea)
      obtain ⟨o, h1, h2, _⟩ := p
      exact ⟨⟨_, kitx_tuple, ⟨o, h1, h2⟩⟩, fun z => nomatch z⟩
    | @dK a kvs ea =>
      cases (show u = Value.ref a from rx)
      obtain ⟨_, _, vs, _, p⟩ := (show ObjOk X.prog X.w H s.heap a (.dK kvs) from I.hok a _ ea)
      obtain ⟨o, es, ep, h1, h2, _⟩ := p
      exact ⟨⟨_, kitx_dict, ⟨o, h1, h2.1⟩⟩, fun z => nomatch z⟩
    | @dT a kvs ea =>
      cases (show u = Value.ref a from rx)
      obtain ⟨_, _, xs, _, o, es, ep, h1, h2, _⟩ := (show ObjOk X.prog X.w H s.heap a (.dT kvs) from I.hok a _ ea)
      exact ⟨⟨_, kitx_dict, ⟨o, h1, h2.1⟩⟩, fun z => nomatch z⟩
    | @ins a C dx fs ea cl ha hn htk hm =>
      cases (show u = Value.ref a from rx)
      obtain ⟨mA, O, _⟩ := ins_get I.hok ea
      obtain ⟨od, J, _⟩ := O.look
      exact ⟨⟨_, kitx_own (cl.get _) cl.hd ha hn htk hm, J⟩, fun z => nomatch z⟩
  | @exc a D h c =>
    cases (show u = Value.ref a from rx)
    obtain ⟨p, _⟩ := (show ObjOk X.prog X.w H s.heap a (excO a D) from I.hok a _ h)
    exact ⟨⟨_, kit_exc c, p⟩, fun z => nomatch z⟩
theorem vVal_rel {x : V} {u : Value} (h : isCls x = true) (r : RelV x u) : u = vVal x := by
  cases x with
  | ref a => exact r
  | ty n => exact r
  | _ => cases h
theorem call_isi : CallR X (.builtin "isinstance") (fun xs H Q => ∃ x y t b, xs = [x, y] ∧ isCls y = true ∧ TyE X.K H x t ∧ PySem.W.kitOne X.K t (vVal y) = some b ∧ Q (.bl b) H) := by
  intro pins s σ H xs us Q I r h
  obtain ⟨x, y, t, b, rfl, hc, ty, e, q⟩ := h
  obtain ⟨u, w', rfl, rx, ry⟩ := vals2 r
  obtain rfl := vVal_rel hc ry
  obtain ⟨⟨P, Z, p⟩, nb⟩ := kit_of I rx ty
  exact kia_one Z I.kIn p e nb fun tk => ⟨.bl b, H, I.tok _, rfl, q⟩
end
end L2
namespace L2
open PySem PySem.Spec PyProof.Rows PySem.Calls PySem.W

/-! ### raise C(..), C an own class of errors without an __init__ -/
theorem own_obj {K : PySem.W.Frag} {h : Heap} {C : Addr} {bmB : List Value} {newId : String} (X : K.In h) (q : excIn K C bmB newId = true) :
    ∃ bm N nm q bs hdct sn sub ab col dd k0 k1 k2 k3 k5 mN, h.get? C = some (excClassObj nm q C N bs bm hdct sn sub ab col dd k0 k1 k2 k3 k5 newId) ∧ h.Ns N mN ∧ mN "__init__" = none ∧ OwnTail h bmB bm := by
  unfold excIn at q
  split at q
  · rename_i dd cl sl ho
    split at q
    · rename_i C' bm k0 k1 k2 k3 n k5 hm hs
      simp only [Bool.and_eq_true, Bool.not_eq_true', beq_iff_eq] at q
      obtain ⟨⟨⟨⟨⟨e1, e2⟩, e3⟩, e4⟩, e5⟩, e6⟩ := q
      subst e1 e2
      obtain ⟨c1, c2, c3, c4, c5, c6, c7, c8, c9, c10, c11⟩ := cl
      dsimp only at hm e3 e5 e6; subst hm e3
      have es : sl = #[k0, k1, k2, k3, some (.builtin n), k5] := by
        cases sl with | mk l => (simp only at hs; rw [hs])
      subst es
      refine ⟨bm, c4, c1, c5, c2, c6, c7, c8, c9, c10, dd, k0, k1, k2, k3, k5, h.nsMap c4, X _ _ ho, ?_, ?_, tail_of_in X e4⟩
      · exact .of_isNs (isNs_of_in X e5)
      · exact nsMap_none_of_in X e5 e6
    · cases q
  · cases q
abbrev mroVE : List Value := [.type "ValueError", .type "Exception", .type "BaseException", .type "object"]
section
variable {P : Program} {w : World} {K : PySem.W.Frag} {mg : Str → Option Value} {base : Heap} {N : List Str} {qual : Str} {scope : Scope} {f : Addr} {cdv : Value} {A : Around} {outer : List Env} {s : Shared} {H : Hp} {E : XK}
def tRaise (E : XK) (C : Addr) (t : TA) : TS := fun _ σ H => t σ H fun vs H1 => vs.length ≤ sizeLine ∧ E (.ref C) none H1
theorem ps_raise {x : Str} {C : Addr} {np cpos pos : Pos} {e₀ : Expr} {rest : List Expr} {t : TA} (hm : mg x = some (.ref C)) (hq : excIn K C mroVE "ValueError.__new__" = true)
    (ha : PA (cxOf (CXW P w) P w K mg base N qual scope f cdv A outer s H E) (e₀ :: rest) t) (hg : Gl (cxOf (CXW P w) P w K mg base N qual scope f cdv A outer s H E) x)
    (he : starEach (e₀ :: rest) (envOfC qual scope s.heap.objs.size f cdv) = (false, eval e₀ (envOfC qual scope s.heap.objs.size f cdv)) :: starEach rest (envOfC qual scope s.heap.objs.size f cdv) := by rfl)
    (hpl : (backTo cpos (starEach rest (envOfC qual scope s.heap.objs.size f cdv))).any (·.1) = false := by rfl) (hd : (x == ("__debug__" : Str)) = false := by decide) :
    PS (cxOf (CXW P w) P w K mg base N qual scope f cdv A outer s H E) (.Raise (some (.Call (.Name x np) (e₀ :: rest) [] cpos)) none pos) (tRaise E C t) := by
  intro pins s1 σ H1 D I h
  obtain ⟨bm, Nn, nm, qn, bs, hdct, sn, sub, ab, col, dd, k0, k1, k2, k3, k5, mN, hC, hN, hni, TL⟩ := own_obj I.ok.mod.kin hq
  have hand : (cxOf (CXW P w) P w K mg base N qual scope f cdv A outer s H E).A.handled = none := I.ok.hd rfl
  refine wpAny_Raise_call_subT (C := C) (nm := nm) (q := qn) (N := Nn) (bs := bs) (bm := bm) (hdct := hdct) (sn := sn) (sub := sub) (ab := ab) (col := col) (dd := dd) (k0 := k0) (k1 := k1) (k2 := k2) (k3 := k3) (k5 := k5)
    F.excBase_ValueError (mN := mN) (TL.hasType F.excBase_ValueError.hasBase) hand ?_ hni (ld_glob I hg hm ⟨rfl, ?_⟩ hd)
  · show (backTo cpos (starEach (e₀ :: rest) (envOfC qual scope s.heap.objs.size f cdv))).any (·.1) = false
    rw [he]; show (false || (backTo cpos (starEach rest (envOfC qual scope s.heap.objs.size f cdv))).any (·.1)) = false
    rw [hpl]; rfl
  · have hA := ha cpos pins s1 σ H1 _ I h
    show wpAny _ _ (evalArgs (.ref C) true (backTo cpos (starEach (e₀ :: rest) (envOfC qual scope s.heap.objs.size f cdv))) []) _ _ _
    have hA' : wpAny (model P w) (cxOf (CXW P w) P w K mg base N qual scope f cdv A outer s H E).A (spliced (backTo cpos (starEach (e₀ :: rest) (envOfC qual scope s.heap.objs.size f cdv)))) _ _ s1 := hA
    rw [he] at hA' ⊢
    refine Calls.evalArgs_plain (thn hA' fun us s2 ⟨vs, H2, I2, r, hl, q⟩ => ⟨rfl, ?_, ?_, ?_, ?_, fun h' e mk => xe_made I2 mk q⟩)
    · show us.length ≤ sizeLine
      rw [← r.length]; exact hl
    · exact I2.bk _ _ hC
    · exact hN.keeps I2.bk
    · exact TL.keeps I2.bk
end

/-! ### what may raise, at one state of the names -/
def CXAt (X : Cx) (pins : List (Addr × Obj)) (σ : St) (E : XK) (e : Value) (s' : Shared) : Prop := ∃ H1 s1, Inv X pins σ H1 s1 ∧ CXW X.prog X.w X.stack H1 s1 E e s'
abbrev TEx := St → Hp → VK → XK → Prop
abbrev TSx := Ends → (St → XK) → St → Hp → Prop
def PEx (X : Cx) (e : Expr) (t : TEx) : Prop :=
  ∀ (pins : List (Addr × Obj)) (s : Shared) (σ : St) (H : Hp) (Q : VK) (E : XK), Inv X pins σ H s → t σ H Q E → wpAny (model X.prog X.w) X.A (eval e X.env) (EP X pins σ Q) (CXAt X pins σ E) s
def PSx (X : Cx) (st : Stmt) (t : TSx) : Prop :=
  ∀ (pins : List (Addr × Obj)) (s : Shared) (σ : St) (H : Hp) (D : Ends) (E : St → XK), Inv X pins σ H s → t D E σ H → wpAny (model X.prog X.w) X.A (exec st X.env) (SP X pins D) (fun e s' => ∃ σ', CXAt X pins σ' (E σ') e s') s
def PSsx (X : Cx) (st : List Stmt) (t : TSx) : Prop :=
  ∀ (pins : List (Addr × Obj)) (s : Shared) (σ : St) (H : Hp) (D : Ends) (E : St → XK), Inv X pins σ H s → t D E σ H → wpAny (model X.prog X.w) X.A (execs st X.env) (SP X pins D) (fun e s' => ∃ σ', CXAt X pins σ' (E σ') e s') s
section
variable {X : Cx} {k : Nat} {f C : Addr} {fd : FuncData} {ps : List Str} {sp : Sp} {dvs : List V} {ds : List Value} {x m : Str} {p pos apos : Pos} {e o : Expr} {es : List Expr} {ta : TE} {t : TA}
theorem PA.nox {es : List Expr} {t : TA} (h : PA X.nox es t) (E : Value → Shared → Prop) {pos : Pos} {pins : List (Addr × Obj)} {s : Shared} {σ : St} {H : Hp} {Q : List V → Hp → Prop} (I : Inv X pins σ H s) (q : t σ H Q) :
    wpAny (model X.prog X.w) X.A (spliced (backTo pos (starEach es X.env))) (AP X pins σ Q) E s :=
  wpAny_mono (h pos pins s σ H Q (I.wish _) q) (fun _ _ ⟨vs, H', I', r, q⟩ => ⟨vs, H', I'.unwish, r, q⟩) fun _ _ z => False.elim z
theorem PE.noxE {e : Expr} {t : TE} (h : PE X.nox e t) (E : Value → Shared → Prop) {pins : List (Addr × Obj)} {s : Shared} {σ : St} {H : Hp} {Q : VK} (I : Inv X pins σ H s) (q : t σ H Q) :
    wpAny (model X.prog X.w) X.A (eval e X.env) (EP X pins σ Q) E s :=
  wpAny_mono (h pins s σ H Q (I.wish _) q) (fun _ _ ⟨v, H', I', r, q⟩ => ⟨v, H', I'.unwish, r, q⟩) fun _ _ z => False.elim z
theorem run_fnx {pins : List (Addr × Obj)} {σ : St} {H : Hp} {s : Shared} {Q : VK} {E : XK} {us : List Value} {vs : List V} (F : FnOk X.prog X.w X.K X.mg X.base (CXW X.prog X.w) k f fd ps sp) (hr : Room k X.A) (hb : Binds X.K fd ps ds) (hd : Vals dvs ds)
    (I : Inv X pins σ H s) (r : Vals vs us) (h : sp (vs ++ dvs) H Q E) : wpAny (model X.prog X.w) X.A (call (.ref f) us) (EP X pins σ Q) (CXAt X pins σ E) s := by
  have r2 : Vals (vs ++ dvs) (us ++ ds) := r.append hd
  have hl : (us ++ ds).length = ps.length := by rw [← r2.length]; exact F.len _ _ _ _ h
  refine wpAny_call (codeAny_mono (F.run X.A X.stack s H ⟨us, []⟩ (us ++ ds) (vs ++ dvs) Q E hr I.env0 (hb s us I.kIn hl) r2 h) fun r s' hq => ?_)
  cases r with
  | error e => exact ⟨H, s, I, hq⟩
  | ok fl =>
    cases fl with
    | ret u => exact I.after hq
    | next => exact False.elim hq
    | brk => exact False.elim hq
    | cont => exact False.elim hq
def tCallX (sp : Sp) (dvs : List V) (t : TA) : TEx := fun σ H Q E => t σ H fun vs H1 => sp (vs ++ dvs) H1 Q E
theorem pex_call (F : FnOk X.prog X.w X.K X.mg X.base (CXW X.prog X.w) k f fd ps sp) (hr : Room k X.A) (hg : Gl X x) (hm : X.mg x = some (.ref f)) (hk : PySem.W.keepIn X.K (.ref f) = true) (hb : Binds X.K fd ps ds) (hd : Vals dvs ds)
    (ha : PA X.nox (e :: es) t) (hdb : (x == ("__debug__" : Str)) = false := by decide) (he : starEach (e :: es) X.env = (false, eval e X.env) :: starEach es X.env := by rfl) (hpl : (backTo pos (starEach es X.env)).any (·.1) = false := by rfl) :
    PEx X (.Call (.Name x p) (e :: es) [] pos) (tCallX sp dvs t) := by
  intro pins s σ H Q E I h
  refine wpAny_Call_Name_kw (ld_glob I hg hm ?_ hdb)
  refine PySem.W.callWith_K (h₀ := X.base) I.ok.mod.kin hk (wpAny_mono (ha.nox (CXAt X pins σ E) I h) (fun us s1 ⟨vs, H1, I1, r, q⟩ => ⟨I1.kIn, ?_⟩) fun _ _ z => z) he hpl
  exact run_fnx F hr hb hd I1 r q
def tSetX (i : Nat) (te : TEx) : TSx := fun D E σ H => te σ H (fun v H1 => D.nx (σ.set i (some v)) H1) (E σ)
theorem psx_set {i : Nat} {x : Str} {e : Expr} {te : TEx} {pos' : Pos} (hN : X.N.Nodup) (hi : X.N[i]? = some x) (hx : Loc X.env.scope x) (he : PEx X e te) (hs : swapsWith e (some (.Name x pos')) pos.line X.env = pure false := by rfl)
    (hf : X.fn x = true ∨ X.env.scope.names.lookup x = some .local := by first | exact .inl rfl | exact .inr rfl | assumption) : PSx X (.Assign [.Name x pos'] e pos) (tSetX i te) := by
  intro pins s σ H D E I h
  refine wpAny_Assign_Name (wpAny_mono (he pins s σ H _ _ I h) (fun v s1 ⟨y, H1, I1, r1, q1⟩ => ?_) fun e s' z => ⟨σ, z⟩) hs
  exact store_ok I1 hN hi hx r1 (fun s2 I2 => ⟨_, H1, I2, q1⟩) hf
def tRetX (te : TEx) : TSx := fun D E σ H => te σ H D.rt (E σ)
theorem psx_ret {te : TEx} (he : PEx X e te) : PSx X (.Return (some e) pos) (tRetX te) := by
  intro pins s σ H D E I h
  exact wpAny_Return_some (wpAny_mono (he pins s σ H _ _ I h) (fun v s1 ⟨x, H1, I1, r1, q1⟩ => ⟨x, σ, H1, I1, r1, q1⟩) fun e s' z => ⟨σ, z⟩)
theorem psx_one {st : Stmt} {t : TSx} (h1 : PSx X st t) : PSsx X [st] t := by
  intro pins s σ H D E I h
  refine wpAny_execs_cons (wpAny_mono (h1 pins s σ H D E I h) (fun f s1 q => ?_) fun _ _ z => z)
  cases f with
  | next => exact wpAny_execs_nil q
  | ret v => exact q
  | brk => exact q
  | cont => exact q
end

/-! ### try: .. except C: .. -/
/-- the context of a handler's suite -/
def hcx (X : Cx) (e : Addr) : Cx := { X with A := X.A.mark (some (.ref e)), calm := false, xe := fun _ _ => False }
theorem hcx_in {X : Cx} {e : Addr} {pins : List (Addr × Obj)} {σ : St} {H : Hp} {s : Shared} (I : Inv X pins σ H s) : Inv (hcx X e) pins σ H s := by
  obtain ⟨ok, os, bare, bs, loc, cell, free, freeC, pin, hok, len⟩ := I
  exact ⟨⟨ok.mod, ok.kind, ok.glob, ok.blt, ok.above, ok.inj, ok.has, ok.cab, fun z => Bool.noConfusion (show false = true from z), ok.frames, ok.stk, ok.exf, ok.bs, ok.bsz, ok.noex, ok.exfs, ok.funs, ok.frf⟩, os, bare, bs, loc, cell, free, freeC, pin, hok, len⟩
theorem hcx_out {X : Cx} {e : Addr} (ok : X.Ok) {pins : List (Addr × Obj)} {σ : St} {H : Hp} {s : Shared} (I : Inv (hcx X e) pins σ H s) : Inv X pins σ H s := by
  obtain ⟨_, os, bare, bs, loc, cell, free, freeC, pin, hok, len⟩ := I
  exact ⟨ok, os, bare, bs, loc, cell, free, freeC, pin, hok, len⟩
theorem hcx_sp {X : Cx} {e : Addr} (ok : X.Ok) {pins : List (Addr × Obj)} {D : Ends} {f : Flow} {s : Shared} (h : SP (hcx X e) pins D f s) : SP X pins D f s := by
  cases f with
  | next => obtain ⟨σ', H', I, q⟩ := h; exact ⟨σ', H', hcx_out ok I, q⟩
  | brk => obtain ⟨σ', H', I, q⟩ := h; exact ⟨σ', H', hcx_out ok I, q⟩
  | cont => obtain ⟨σ', H', I, q⟩ := h; exact ⟨σ', H', hcx_out ok I, q⟩
  | ret u => obtain ⟨v, σ', H', I, r, q⟩ := h; exact ⟨v, σ', H', hcx_out ok I, r, q⟩
section
variable {X : Cx} {body suite : List Stmt} {b₀ : Stmt} {x : Str} {C : Addr} {np hpos pos : Pos} {tb : TSx} {th : TS}
def tTry (K : PySem.W.Frag) (C : Addr) (tb : TSx) (th : TS) : TS := fun D σ H => tb D (fun σ' cls _ H' => PySem.W.exmOne K cls (.ref C) = some true ∧ th D σ' H') σ H
theorem ps_try (hst : X.stack = X.env :: X.outer) (hfr : X.env.frame = some X.env.locals) (hb : PSsx X body tb) (hg : Gl X x) (hm : X.mg x = some (.ref C)) (hh : ∀ ea, PSs (hcx X ea) (b₀ :: suite) th) (hd : (x == ("__debug__" : Str)) = false := by decide) :
    PS X (.Try body [.ExceptHandler (some (.Name x np)) none (b₀ :: suite) hpos] [] [] pos) (tTry X.K C tb th) := by
  intro pins s σ H D I h
  refine wpAny_Try_except (wpAny_mono (hb pins s σ H D _ I h) (fun f s1 q => ?_) fun e s1 q => ?_)
  · cases f with
    | next => exact wpAny_execs_nil q
    | ret v => exact q
    | brk => exact q
    | cont => exact q
  · obtain ⟨σ', H1, s2, I1, ea, t, cls, H', B, rfl, fl, os, bare, hok, xu, hx, q⟩ := q
    rw [hst] at fl
    have back : ∀ (h' : Heap) (tk : Nat), B.StaysIn h' → h'.FunFrames B X.stack → XUn X.stack H1 H' s2.heap B h' → Inv X pins σ' H' { s1 with heap := h', toks := tk } := fun h' tk st fr xu' =>
      I1.call' (ch := []) os (xu'.un st fr) (hok.kept st) bare fun b z => nomatch z
    have fr0 : s1.heap.FunFrames B X.stack := by rw [hst]; exact fl.2.2.1
    refine wpAny_looks_onW (by rw [I.ok.frames, hst]) hfr fl fun h4 held4 up4 => ?_
    have x4 := xu.step fr0 up4
    refine wpAny_landsW held4 fun h5 fl5 up5 => ?_
    have fr4 : h4.FunFrames B X.stack := by rw [hst]; exact held4.2.2.1
    have x5 := x4.step fr4 up5
    have fr5 : h5.FunFrames B X.stack := by rw [hst]; exact fl5.2.2.1
    have I5 : Inv X pins σ' H' { s1 with heap := h5 } := back h5 s1.toks fl5.1 fr5 x5
    obtain ⟨ob, hob, hobc⟩ := fl5.there
    have LT : Looks (model X.prog X.w) h5 (typeOf (.ref ea)) cls := hobc ▸ (Looks.ld hob).andThen .now
    refine wpAny_handleBy_cons (codeAny_handlers_test ?_) (by intro z; cases z)
    have ld := fun Q E q => ld_glob (X := hcx X ea) (pos := np) (Q := Q) (E := E) (hcx_in I5) hg hm q hd
    refine ld _ _ ?_
    refine (exm_one (M := model X.prog X.w) I5.kIn LT hx).here ?_
    refine codeAny_handlers_suite ?_
    refine lands_againW fl5 fun h6 fl6 up6 => ?_
    have x6 := x5.step fr5 up6
    have fr6 : h6.FunFrames B X.stack := by rw [hst]; exact fl6.2.2.1
    have I6 : Inv X pins σ' H' { s1 with heap := h6 } := back h6 s1.toks fl6.1 fr6 x6
    exact wpAny_mono (hh ea pins _ σ' H' D (hcx_in I6) q) (fun f s7 q7 => hcx_sp I.ok q7) fun _ _ z => (show False from z).elim
end
end L2
namespace L2
open PySem PySem.Spec PyProof.Rows PySem.Calls PySem.W
section
variable {X : Cx} {pins : List (Addr × Obj)} {σ : St} {H : Hp} {s : Shared}
end
section
variable {X : Cx} {body suite : List Stmt} {b₀ : Stmt} {x n : Str} {C : Addr} {np hpos pos : Pos} {tb : TSx} {th : TS} {j : Nat}
end
end L2
namespace L2
open PySem PySem.Spec PyProof.Rows PySem.Calls
/-! ### methods of texts -/
section
variable {X : Cx}
theorem mt_startswith : MtM X "str.startswith" (fun x vs H Q => ∃ z y, x = .str z ∧ vs = [.str y] ∧ Q (.bl (Txt.startswith z y)) H) := by
  intro pins s σ H x vs v us Q I rx rv h
  obtain ⟨z, y, rfl, rfl, q⟩ := h
  obtain ⟨t, rfl⟩ := rx
  obtain ⟨u, rfl, t', rfl⟩ := rv.one
  exact SC.startswith ⟨.bl _, H, I, rfl, q⟩
theorem mt_find : MtM X "str.find" (fun x vs H Q => ∃ z y, x = .str z ∧ vs = [.str y] ∧ Q (.int (Txt.find z y)) H) := by
  intro pins s σ H x vs v us Q I rx rv h
  obtain ⟨z, y, rfl, rfl, q⟩ := h
  obtain ⟨t, rfl⟩ := rx
  obtain ⟨u, rfl, t', rfl⟩ := rv.one
  exact SC.find ⟨.int _, H, I.tok _, ⟨_, rfl⟩, q⟩
theorem mt_strip : MtM X "str.strip" (fun x vs H Q => ∃ z y, x = .str z ∧ vs = [.str y] ∧ z.length ≤ sizeLine ∧ Q (.str (Txt.stripChars z y)) H) := by
  intro pins s σ H x vs v us Q I rx rv h
  obtain ⟨z, y, rfl, rfl, hz, q⟩ := h
  obtain ⟨t, rfl⟩ := rx
  obtain ⟨u, rfl, t', rfl⟩ := rv.one
  exact SC.stripChars (fun t' k => ⟨.str _, H, I.tok _, ⟨_, rfl⟩, q⟩) hz
theorem mt_zfill : MtM X "str.zfill" (fun x vs H Q => ∃ z i, x = .str z ∧ vs = [.int i] ∧ PadOk i = true ∧ Q (.str (Txt.zfill z i)) H) := by
  intro pins s σ H x vs v us Q I rx rv h
  obtain ⟨z, i, rfl, rfl, hz, q⟩ := h
  obtain ⟨t, rfl⟩ := rx
  obtain ⟨u, rfl, t', rfl⟩ := rv.one
  exact SC.zfill hz (fun t' k => ⟨.str _, H, I.tok _, ⟨_, rfl⟩, q⟩)
/-- f'..{text!r}' -/
theorem pe_fstrR {c : Str} {j : Nat} {e : Expr} {te : TE} {p1 p2 pos : Pos} (he : PE X e te) (hc : c.length ≤ 1000 := by decide +kernel) :
    PE X (.JoinedStr [.Constant (.str c) j p1, .FormattedValue e 114 none p2] pos) (fun σ H Q => te σ H fun x H1 => ∃ z, x = .str z ∧ z.length ≤ 100000 ∧ (∀ k ∈ cd z, k < 1000) ∧ ∀ y, Q (.str y) H1) := by
  intro pins s σ H Q I h
  have l0 : (Str.empty ++ c).length = c.length := by rw [strLen_append]; exact Nat.zero_add _
  refine JoinedStr_many (joinParts_cons (Calls.Constant_str ⟨?_, ?_⟩))
  · rw [l0, sizeLine_eq]; omega
  · refine joinParts_cons (wpAny_FormattedValue_repr (thn (he pins _ σ H _ (I.tok _) h) fun v s1 ⟨x, H1, I1, r, z, ex, hz, hk, q⟩ => ?_))
    subst ex
    obtain ⟨t, rfl⟩ := r
    have hl : (reprText z).length ≤ 1000002 := Nat.le_trans (StrLaws.reprText_len z fun c hc => Nat.lt_of_lt_of_le (hk c hc) (by decide)) (by omega)
    refine wpAny_pyReprObj_str (formatField_str (fun t' tk => ⟨?_, joinParts_nil ⟨.str _, H1, I1.tok _, ⟨_, rfl⟩, q _⟩ ?_⟩) ?_) ?_
    · rw [strLen_append, l0, sizeLine_eq]; omega
    · rw [strLen_append, l0, sizeLine_eq]; omega
    · rw [sizeLine_eq]; omega
    · rw [sizeLine_eq]; omega
end
end L2
namespace L2
open PySem PySem.Spec PyProof.Rows PySem.Calls
/-! ### a def with defaults: T their tuple, ds its items -/
structure FunD (K : PySem.W.Frag) (x qual : Str) (st : Stmt) (ds : List Value) (f : Addr) (fd : FuncData) : Prop where
  ex : ∃ (T : Addr) (oc : Value) (od : Option Addr) (kV doc pm : Value) (an : Option Addr) (cdv ct : Value) (osl : Array (Option Value)) (to : Obj) (n : Nat),
    fd = PySem.W.fnOf x qual (defArgs st) (defBody st) (defScope st) (.ref T) kV doc pm an cdv ct ∧ K.lookup f = some ⟨oc, od, .func fd, osl⟩ ∧ PySem.W.codeIn K cdv qual = true ∧ K.lookup T = some to ∧ to.cls = .type "tuple" ∧ to.data = .seq ds.toArray n
  kp : PySem.W.keepIn K (.ref f) = true
section
variable {P : Program} {w : World} {K : PySem.W.Frag} {mg : Str → Option Value} {base : Heap} {x qual : Str} {st : Stmt} {f : Addr} {fd : FuncData} {N ps : List Str} {k : Nat} {sp : Sp} {ds : List Value}
theorem FunD.okX (F : FunD K x qual st ds f fd) (S : FnScope N ps (defScope st)) (len : ∀ vs H Q E, sp vs H Q E → vs.length = ps.length)
    (hbody : ∀ (cdv : Value) (A : Around) (outer : List Env) (s : Shared) (H : Hp) (vs : List V) (Q : VK) (E : XK), Room k (A.deeper (envOfC qual (defScope st) s.heap.objs.size f cdv)) → sp vs H Q E →
      ∃ t, PSs (cxOf (CXW P w) P w K mg base N qual (defScope st) f cdv A outer s H E) (defBody st) t ∧ t { nx := fun _ H' => Q .non H', rt := Q } (start N vs) H) : FnOk P w K mg base (CXW P w) (k + 1) f fd ps sp := by
  obtain ⟨T, oc, od, kV, doc, pm, an, cdv, ct, osl, to, n, rfl, lk, hcd, _⟩ := F.ex
  exact fn_of lk hcd S len fun A outer s H vs Q E hr hsp => hbody cdv A outer s H vs Q E hr hsp
theorem FunD.ok (F : FunD K x qual st ds f fd) (S : FnScope N ps (defScope st)) (len : ∀ vs H Q E, sp vs H Q E → vs.length = ps.length)
    (hbody : ∀ (cdv : Value) (A : Around) (outer : List Env) (s : Shared) (H : Hp) (vs : List V) (Q : VK) (E : XK), Room k (A.deeper (envOfC qual (defScope st) s.heap.objs.size f cdv)) → sp vs H Q E →
      ∃ t, PSs (cxOf CX0 P w K mg base N qual (defScope st) f cdv A outer s H E).nox (defBody st) t ∧ t { nx := fun _ H' => Q .non H', rt := Q } (start N vs) H) : FnOk P w K mg base CX0 (k + 1) f fd ps sp := by
  obtain ⟨T, oc, od, kV, doc, pm, an, cdv, ct, osl, to, n, rfl, lk, hcd, _⟩ := F.ex
  refine fn_of lk hcd S len fun A outer s H vs Q E hr hsp => ?_
  obtain ⟨t, h, q⟩ := hbody cdv A outer s H vs Q E hr hsp
  exact ⟨t, h.nox, q⟩
/-- its arguments bind: es the defaults that fill up -/
theorem FunD.binds {es : List Value} (F : FunD K x qual st ds f fd)
    (h : ∀ (T : Addr) (kV doc pm : Value) (an : Option Addr) (cdv ct : Value) (us : List Value) (M : Model) (A : Around) (E : Value → Shared → Prop) (Q : List (Str × Value) → Shared → Prop) (s : Shared) (to : Obj) (n : Nat), s.heap.get? T = some to → to.cls = .type "tuple" → to.data = .seq ds.toArray n →
      (us ++ es).length = ps.length → Q (ps.zip (us ++ es)) s → wpAny M A (bindArgs (PySem.W.fnOf x qual (defArgs st) (defBody st) (defScope st) (.ref T) kV doc pm an cdv ct) ⟨us, []⟩) Q E s) : Binds K fd ps es := by
  obtain ⟨T, oc, od, kV, doc, pm, an, cdv, ct, osl, to, n, rfl, lk, hcd, lt, tc, td⟩ := F.ex
  intro s us X hl M A E Q q
  exact h T kV doc pm an cdv ct us M A E Q s to n (X _ _ lt) tc td hl q
end

/-! ### classes of the text: who stands under whom -/
section
variable {K : PySem.W.Frag} {C D : Addr} {cd : ClassData} {r b : Bool} {T : String}
theorem kitCls_ref (h1 : PySem.W.clsIn K C = some cd) (h2 : PySem.W.typeIn K (.ref C) = some (.type "type")) (h3 : PySem.W.mroIn K D (.ref C) = some r) : PySem.W.kitCls K (.ref D) (.ref C) = some r := by
  show (if ((PySem.W.clsIn K C).isSome && PySem.W.typeIn K (.ref C) == some (.type "type")) = true then PySem.W.mroIn K D (.ref C) else none) = some r
  rw [h1, h2, h3]; rfl
theorem exm_ref (h0 : PySem.W.subIn K (.ref C) (.type "BaseException") = some true) (h1 : PySem.W.clsIn K C = some cd) (h2 : PySem.W.typeIn K (.ref C) = some (.type "type")) (h3 : PySem.W.mroIn K D (.ref C) = some r) : PySem.W.exmOne K (.ref D) (.ref C) = some r := by
  unfold PySem.W.exmOne
  rw [h0, if_pos (by rfl)]
  exact kitCls_ref h1 h2 h3
theorem excCls_mk (ga : PySem.W.findIn K (.ref D) "__getattribute__" = some (some (.builtin "BaseException.__getattribute__"))) (gk : PySem.W.findIn K (.ref D) "__getattr__" = some none) (cl : PySem.W.clsIn K D = some cd) (ha : PySem.W.findIn K (.ref D) "__class__" = some (some (.builtin "object.__class__")))
    (hn : PySem.W.specialIn K (.builtin "object.__class__") "__get__" = some (some (.builtin "getset_descriptor.__get__"))) (tk : PySem.W.takesIn K (.builtin "object.__class__") = some true) (mo : PySem.W.mroIn K D (.type "object") = some true) (mb : PySem.W.mroIn K D (.type "BaseException") = some true) : ExcCls K D :=
  ⟨ga, gk, by rw [cl]; rfl, ha, hn, tk, mo, mb⟩
theorem app_len {α : Type} {us ds : List α} {n m : Nat} (h : (us ++ ds).length = n) (hm : ds.length + m = n) : us.length = m := by rw [List.length_append] at h; omega
theorem funD_mk {x qual : Str} {st : Stmt} {f T : Addr} {oc : Value} {od an dd : Option Addr} {osl dsl : Array (Option Value)} {kV doc pm cdv ct : Value} {ds : List Value} {n : Nat} (l : K.lookup f = some ⟨oc, od, .func (PySem.W.fnOf x qual (defArgs st) (defBody st) (defScope st) (.ref T) kV doc pm an cdv ct), osl⟩)
    (c : PySem.W.codeIn K cdv qual = true) (k : PySem.W.keepIn K (.ref f) = true) (lt : K.lookup T = some ⟨.type "tuple", dd, .seq ds.toArray n, dsl⟩) : FunD K x qual st ds f (PySem.W.fnOf x qual (defArgs st) (defBody st) (defScope st) (.ref T) kV doc pm an cdv ct) :=
  ⟨⟨T, oc, od, kV, doc, pm, an, cdv, ct, osl, _, n, rfl, l, c, lt, rfl, rfl⟩, k⟩
end
end L2
/-! written numbers, as lists of codes -/
namespace L2
theorem Bt.ValueError : PySem.bootBuiltins "ValueError" = some (.type "ValueError") := PyProof.Rows.Boot.«ValueError»
open PySem PySem.Spec PyProof.Rows
def FIG : Str := "0123456789"
def inF (c : Nat) : Bool := !(Builtin.Str.occurrences FIG (S [c]) 0 FIG.length 1).isEmpty
theorem inF_iff (c : Nat) : inF c = true ↔ 48 ≤ c ∧ c ≤ 57 := by
  have h : inF c = decide (c ∈ FIG.cps.toList) := StrLaws.found_one FIG c
  have e : FIG.cps.toList = [48, 49, 50, 51, 52, 53, 54, 55, 56, 57] := by decide +kernel
  rw [h, e, decide_eq_true_iff]
  simp only [List.mem_cons, List.not_mem_nil, or_false]
  omega
theorem occF {c : Nat} (h : inF c = true) : Builtin.Str.occurrences FIG (S [c]) 0 FIG.length 1 = [c - 48] := by
  obtain ⟨h1, h2⟩ := (inF_iff c).mp h
  have : c = 48 ∨ c = 49 ∨ c = 50 ∨ c = 51 ∨ c = 52 ∨ c = 53 ∨ c = 54 ∨ c = 55 ∨ c = 56 ∨ c = 57 := by omega
  rcases this with e | e | e | e | e | e | e | e | e | e <;> (subst e; decide +kernel)
theorem findF {c : Nat} (h : inF c = true) : Txt.find FIG (S [c]) = ((c - 48 : Nat) : Int) := by
  unfold Txt.find
  rw [occF h]
/-- what figures are worth -/
def val (l : List Nat) : Int := l.foldl (fun a c => a * 10 + ((c - 48 : Nat) : Int)) 0
theorem val_snoc (l : List Nat) (c : Nat) : val (l ++ [c]) = val l * 10 + ((c - 48 : Nat) : Int) := by unfold val; rw [List.foldl_append]; rfl
theorem val_take {l : List Nat} {i c : Nat} (h : l[i]? = some c) : val (l.take (i + 1)) = val (l.take i) * 10 + ((c - 48 : Nat) : Int) := by
  rw [List.take_succ, h]; exact val_snoc _ _
theorem val_bound : ∀ (n : Nat) (l : List Nat), l.length = n → l.all inF = true → 0 ≤ val l ∧ val l < 10 ^ n
  | 0, l, e, _ => by rw [List.eq_nil_of_length_eq_zero e]; exact ⟨by decide, by decide⟩
  | n + 1, l, e, h => by
    have hne : l ≠ [] := fun z => by rw [z] at e; cases e
    have el : l = l.dropLast ++ [l.getLast hne] := (List.dropLast_concat_getLast hne).symm
    rw [el, List.all_append, Bool.and_eq_true] at h
    obtain ⟨i1, i2⟩ := val_bound n l.dropLast (by rw [List.length_dropLast]; omega) h.1
    have hc := (inF_iff (l.getLast hne)).mp (by simpa using h.2)
    rw [el, val_snoc, Int.pow_succ]
    exact ⟨by omega, by omega⟩
theorem pow10_ib {x : Int} {n : Nat} (h0 : 0 ≤ x) (h : x < 10 ^ n) : ib x ≤ 4 * n := by
  refine ib_big ?_
  have h1 : (10 : Int) ^ n ≤ 16 ^ n := by
    have : (10 : Nat) ^ n ≤ 16 ^ n := Nat.pow_le_pow_left (by decide) n
    exact_mod_cast this
  have h2 : ((2 : Nat) ^ (4 * n)) = 16 ^ n := by rw [Nat.pow_mul]
  rw [h2]
  have h3 : x < ((16 ^ n : Nat) : Int) := by
    have e : ((16 ^ n : Nat) : Int) = (16 : Int) ^ n := by push_cast; rfl
    rw [e]; omega
  omega
/-! ### the first sign -/
theorem cutFrom (l : List Nat) (k : Nat) : cutN l (some (k : Int)) none = l.drop k := by
  unfold cutN
  have e1 : HT.sIx l.length 0 (some (k : Int)) = min k l.length := HT.sIx_nat l.length 0 k
  have e2 : HT.sIx l.length l.length none = l.length := rfl
  rw [e1, e2]
  by_cases h : k ≤ l.length
  · rw [Nat.min_eq_left h, List.take_of_length_le (by rw [List.length_drop]; exact Nat.le_refl _)]
  · rw [Nat.min_eq_right (by omega), List.drop_length, List.drop_eq_nil_of_le (by omega), List.take_nil]
theorem starts1 (z : Str) (k : Nat) : Txt.startswith z (S [k]) = decide ((cd z).take 1 = [k]) := by
  unfold Txt.startswith Builtin.Str.subAt
  have hl : (S [k]).length = 1 := rfl
  rw [hl]
  have hz : z.length = (cd z).length := len_cd z
  have e : z = S (cd z) := (S_cd z).symm
  cases h : cd z with
  | nil =>
    rw [hz, h]
    simp
  | cons c r =>
    rw [hz, h]
    have ex : z.cps.extract 0 (0 + 1) = #[c] := by
      apply Array.ext'
      rw [Array.toList_extract]
      have : z.cps.toList = c :: r := h
      rw [this]; rfl
    rw [ex]
    have e1 : decide (0 + 1 ≤ (c :: r).length) = true := decide_eq_true (by rw [List.length_cons]; omega)
    have e2 : (c :: r).take 1 = [c] := rfl
    rw [e1, e2, Bool.true_and]
    by_cases hk : c = k
    · subst hk
      rw [decide_eq_true rfl]
      show (#[c] == #[c]) = true
      exact beq_self_eq_true _
    · have e3 : ([c] = [k]) = False := by
        rw [eq_iff_iff]; exact ⟨fun h => hk (List.cons.inj h).1, False.elim⟩
      rw [decide_eq_false (by rw [e3]; exact not_false)]
      show (#[c] == #[k]) = false
      rw [beq_eq_false_iff_ne]
      intro h
      exact hk (List.cons.inj (congrArg Array.toList h)).1
theorem dec_cd (x y : Str) : decide (V.str x = V.str y) = decide (cd x = cd y) := by
  rw [Bool.eq_iff_iff, decide_eq_true_iff, decide_eq_true_iff]
  exact ⟨fun h => congrArg cd (V.str.inj h), fun h => congrArg V.str (cd_inj h)⟩
/-- the figures of a text: without a - ahead -/
def fig (l : List Nat) : List Nat := if l.take 1 = [45] then l.drop 1 else l
/-- what a written number of at most so many figures is worth -/
def numB (l : List Nat) (most : Int) : Option Int :=
  if (fig l).length < 1 ∨ most < (fig l).length ∨ ((fig l).take 1 = [48] ∧ l ≠ [48]) ∨ (fig l).all inF = false then none
  else some (if l.take 1 = [45] then - val (fig l) else val (fig l))
def figB (l : List Nat) : Bool := decide (0 < l.length) && l.all inF
theorem figB_iff (l : List Nat) : figB l = true ↔ 0 < l.length ∧ l.all inF = true := by unfold figB; rw [Bool.and_eq_true, decide_eq_true_iff]
theorem numB_no1 {l : List Nat} {m : Int} (h : figB (fig l) = false) : numB l m = none := by
  unfold numB
  rw [if_pos]
  by_cases h1 : (fig l).length < 1
  · exact .inl h1
  · refine .inr (.inr (.inr ?_))
    cases e : (fig l).all inF with
    | false => rfl
    | true => exact absurd ((figB_iff _).mpr ⟨by omega, e⟩) (by rw [h]; decide)
theorem numB_no2 {l : List Nat} {m : Int} (h : (fig l).take 1 = [48]) (h2 : l ≠ [48]) : numB l m = none := if_pos (.inr (.inr (.inl ⟨h, h2⟩)))
theorem numB_no3 {l : List Nat} {m : Int} (h : m < (fig l).length) : numB l m = none := if_pos (.inr (.inl h))
theorem numB_yes {l : List Nat} {m : Int} (h1 : figB (fig l) = true) (h2 : ¬ (fig l).take 1 = [48]) (h3 : ¬ m < (fig l).length) : numB l m = some (if l.take 1 = [45] then - val (fig l) else val (fig l)) := by
  unfold numB
  rw [if_neg]
  obtain ⟨a, b⟩ := (figB_iff _).mp h1
  intro h
  rcases h with h | h | h | h
  · omega
  · exact h3 h
  · exact h2 h.1
  · rw [b] at h; cases h
theorem numB_zero {most : Int} (h : 1 ≤ most) : numB [48] most = some 0 := by
  unfold numB
  have e1 : fig [48] = [48] := by decide
  rw [e1, if_neg]
  · decide
  · intro h
    rcases h with h | h | h | h
    · exact absurd h (by decide)
    · simp only [List.length_cons, List.length_nil] at h; omega
    · exact absurd rfl h.2
    · exact absurd h (by decide +kernel)
theorem take1_at {l : List Nat} (h : 1 ≤ l.length) : ∃ c, atI l 0 = some c ∧ l.take 1 = [c] := by
  cases l with
  | nil => cases h
  | cons c r => exact ⟨c, atI_nat (j := 0) rfl, rfl⟩
/-- texts that are not long, of signs that are common -/
structure Fine (n : Nat) (z : Str) : Prop where
  len : z.length ≤ n
  cod : ∀ c ∈ cd z, c < 1000
theorem Fine.mono {n m : Nat} {z : Str} (h : Fine n z) (l : n ≤ m) : Fine m z := ⟨Nat.le_trans h.len l, h.cod⟩
theorem Fine.app {n m : Nat} {x y : Str} (h : Fine n x) (k : Fine m y) : Fine (n + m) (x ++ y) := by
  refine ⟨?_, fun c hc => ?_⟩
  · rw [len_cd, cd_app, List.length_append, ← len_cd, ← len_cd]; have := h.len; have := k.len; omega
  · rw [cd_app] at hc
    rcases List.mem_append.mp hc with e | e
    · exact h.cod c e
    · exact k.cod c e
theorem Fine.cut {n : Nat} {z : Str} (h : Fine n z) (lo hi : Option Int) : Fine n (S (cutN (cd z) lo hi)) := by
  refine ⟨?_, fun c hc => ?_⟩
  · rw [len_S]; unfold cutN; rw [List.length_take, List.length_drop, ← len_cd]; have := h.len; omega
  · rw [cd_S] at hc; exact h.cod c (List.mem_of_mem_drop (List.mem_of_mem_take hc))
theorem Fine.size {n : Nat} {z : Str} (h : Fine n z) (hn : n ≤ 100000 := by decide) : z.length ≤ sizeLine := by rw [sizeLine_eq]; have := h.len; omega
theorem Fine.int {i : Int} {k : Nat} (hk : 0 < k) (h : i.natAbs < 10 ^ k) : Fine (k + 1) (toString i) := by
  refine ⟨?_, fun c hc => ?_⟩
  · rw [show ((toString i : String) : Str).length = (toString i).length from PySem.ofString_length _]
    exact int_text_length_le10 hk h
  · rcases Nat.lt_or_ge c 1000 with z | z
    · exact z
    · exact absurd hc (int_text_free' c ⟨by omega, by omega⟩ i)
end L2
/-! equality of values, lists and tuples too -/
namespace L2
open PySem PySem.Spec PyProof.Rows PySem.Calls
theorem rcAt_V {A : Around} {s : Shared} {y x : V} {u v : Value} (ry : RelV y u) (rx : RelV x v) (fy : flatV y = true) (fx : flatV x = true) : SeqAt.RcAt A s u v (eqV y x) := by
  cases y with
  | non =>
    cases ry
    cases x with
    | non => cases rx; exact SeqAt.RcAt.none_none
    | bl b => cases rx; exact SeqAt.RcAt.none_bool b
    | int b => obtain ⟨t, rfl⟩ := rx; exact SeqAt.RcAt.none_int b t
    | str b => obtain ⟨t, rfl⟩ := rx; exact SeqAt.RcAt.none_str b t
    | _ => exact absurd (show false = true from fx) Bool.false_ne_true
  | bl a =>
    cases ry
    cases x with
    | non => cases rx; exact SeqAt.RcAt.bool_none a
    | bl b => cases rx; exact SeqAt.RcAt.bool_bool a b
    | int b => obtain ⟨t, rfl⟩ := rx; exact SeqAt.RcAt.bool_int a b t
    | str b => obtain ⟨t, rfl⟩ := rx; exact SeqAt.RcAt.bool_str a b t
    | _ => exact absurd (show false = true from fx) Bool.false_ne_true
  | int a =>
    obtain ⟨t', rfl⟩ := ry
    cases x with
    | non => cases rx; exact SeqAt.RcAt.int_none a t'
    | bl b => cases rx; exact SeqAt.RcAt.int_bool a t' b
    | int b => obtain ⟨t, rfl⟩ := rx; exact SeqAt.RcAt.int_int a t' b t
    | str b => obtain ⟨t, rfl⟩ := rx; exact SeqAt.RcAt.int_str a t' b t
    | _ => exact absurd (show false = true from fx) Bool.false_ne_true
  | str a =>
    obtain ⟨t', rfl⟩ := ry
    cases x with
    | non => cases rx; exact SeqAt.RcAt.str_none a t'
    | bl b => cases rx; exact SeqAt.RcAt.str_bool a t' b
    | int b => obtain ⟨t, rfl⟩ := rx; exact SeqAt.RcAt.str_int a t' b t
    | str b => obtain ⟨t, rfl⟩ := rx; exact SeqAt.RcAt.str_str a t' b t
    | _ => exact absurd (show false = true from fx) Bool.false_ne_true
  | _ => exact absurd (show false = true from fy) Bool.false_ne_true
theorem rcNe_V {A : Around} {s : Shared} {y x : V} {u v : Value} (ry : RelV y u) (rx : RelV x v) (fy : flatV y = true) (fx : flatV x = true) : SeqAt.RcNeAt A s u v (!eqV y x) := by
  cases y with
  | non =>
    cases ry
    cases x with
    | non => cases rx; exact SeqAt.RcNeAt.none_none
    | bl b => cases rx; exact SeqAt.RcNeAt.none_bool b
    | int b => obtain ⟨t, rfl⟩ := rx; exact SeqAt.RcNeAt.none_int b t
    | str b => obtain ⟨t, rfl⟩ := rx; exact SeqAt.RcNeAt.none_str b t
    | _ => exact absurd (show false = true from fx) Bool.false_ne_true
  | bl a =>
    cases ry
    cases x with
    | non => cases rx; exact SeqAt.RcNeAt.bool_none a
    | bl b => cases rx; exact SeqAt.RcNeAt.bool_bool a b
    | int b => obtain ⟨t, rfl⟩ := rx; exact SeqAt.RcNeAt.bool_int a b t
    | str b => obtain ⟨t, rfl⟩ := rx; exact SeqAt.RcNeAt.bool_str a b t
    | _ => exact absurd (show false = true from fx) Bool.false_ne_true
  | int a =>
    obtain ⟨t', rfl⟩ := ry
    cases x with
    | non => cases rx; exact SeqAt.RcNeAt.int_none a t'
    | bl b => cases rx; exact SeqAt.RcNeAt.int_bool a t' b
    | int b => obtain ⟨t, rfl⟩ := rx; exact SeqAt.RcNeAt.int_int a t' b t
    | str b => obtain ⟨t, rfl⟩ := rx; exact SeqAt.RcNeAt.int_str a t' b t
    | _ => exact absurd (show false = true from fx) Bool.false_ne_true
  | str a =>
    obtain ⟨t', rfl⟩ := ry
    cases x with
    | non => cases rx; exact SeqAt.RcNeAt.str_none a t'
    | bl b => cases rx; exact SeqAt.RcNeAt.str_bool a t' b
    | int b => obtain ⟨t, rfl⟩ := rx; exact SeqAt.RcNeAt.str_int a t' b t
    | str b => obtain ⟨t, rfl⟩ := rx; exact SeqAt.RcNeAt.str_str a t' b t
    | _ => exact absurd (show false = true from fx) Bool.false_ne_true
  | _ => exact absurd (show false = true from fy) Bool.false_ne_true
/-- x == y is b, x != y is not b; by items (the same, or equal) it is b -/
structure EqJ (X : Cx) (H : Hp) (n : Nat) (x y : V) (b : Bool) : Prop where
  rc : ∀ (pins : List (Addr × Obj)) (s : Shared) (σ : St) (u v : Value) (A : Around), Inv X pins σ H s → RelV x u → RelV y v → A.units + n < cLine → SeqAt.RcAt A s u v b
  ne : ∀ (pins : List (Addr × Obj)) (s : Shared) (σ : St) (u v : Value) (A : Around), Inv X pins σ H s → RelV x u → RelV y v → A.units + n < cLine → SeqAt.RcNeAt A s u v (!b)
def EqJi (X : Cx) (H : Hp) (n : Nat) (x y : V) (b : Bool) : Prop :=
  ∀ (pins : List (Addr × Obj)) (s : Shared) (σ : St) (u v : Value) (A : Around), Inv X pins σ H s → RelV x u → RelV y v → A.units + n < cLine → SeqAt.EqAt A s u v b
section
variable {X : Cx} {H : Hp} {n : Nat} {x y : V} {b : Bool} {p q : Addr} {xs ys : List V}
theorem eqj_flat (fx : flatV x = true) (fy : flatV y = true) : EqJ X H n x y (eqV x y) := ⟨fun _ _ _ _ _ _ _ rx ry _ => rcAt_V rx ry fx fy, fun _ _ _ _ _ _ _ rx ry _ => rcNe_V rx ry fx fy⟩
theorem eqi_flat (fx : flatV x = true) (fy : flatV y = true) : EqJi X H n x y (eqV x y) := fun _ _ _ _ _ _ _ rx ry _ => eqAt_V rx ry fx fy
theorem eqi_same : EqJi X H n (.ref p) (.ref p) true := fun _ _ _ _ _ _ _ rx ry _ => by cases rx; cases ry; exact SeqAt.EqAt.same _
theorem eqi_refs (hn : p ≠ q) (h : EqJ X H n (.ref p) (.ref q) b) : EqJi X H n (.ref p) (.ref q) b := fun pins s σ u v A I rx ry hu => by
  have r := h.rc pins s σ u v A I rx ry hu
  cases rx; cases ry
  exact SeqAt.EqAt.of_refs hn r
theorem vals_at {xs : List V} {us : List Value} (r : Vals xs us) {j : Nat} (h : j < us.toArray.size) : ∃ x, xs[j]? = some x ∧ RelV x us.toArray[j] := by
  have hj : j < us.length := by simpa using h
  have hx : j < xs.length := by rw [r.length]; exact hj
  obtain ⟨u, hu, ru⟩ := r.get (List.getElem?_eq_getElem hx)
  refine ⟨xs[j], List.getElem?_eq_getElem hx, ?_⟩
  rw [List.getElem?_eq_getElem hj] at hu
  cases hu
  simpa using ru
theorem eqj_tups {e : Nat → Bool} (h : SqT X.K H p xs) (k : SqT X.K H q ys) (he : ∀ (j : Nat) x y, xs[j]? = some x → ys[j]? = some y → EqJi X H n x y (e j)) :
    EqJ X H (n + 1) (.ref p) (.ref q) ((List.range (min xs.length ys.length)).all e && xs.length == ys.length) := by
  have g : ∀ (pins : List (Addr × Obj)) (s : Shared) (σ : St) (A : Around), Inv X pins σ H s → A.units + (n + 1) < cLine → ∃ its its' : List Value, s.heap.IsTuple p its.toArray ∧ s.heap.IsTuple q its'.toArray ∧ its.toArray.size = xs.length ∧ its'.toArray.size = ys.length ∧
      ∀ j (h1 : j < its.toArray.size) (h2 : j < its'.toArray.size), SeqAt.EqAt A.in1 s its.toArray[j] its'.toArray[j] (e j) := fun pins s σ A I hu => by
    obtain ⟨its, r, pl, _⟩ := I.tuple h
    obtain ⟨its', r', pl', _⟩ := I.tuple k
    have l1 := r.length
    have l2 := r'.length
    refine ⟨its, its', pl, pl', by simp only [List.size_toArray]; omega, by simp only [List.size_toArray]; omega, fun j h1 h2 => ?_⟩
    obtain ⟨x, hx, rx⟩ := vals_at r h1
    obtain ⟨y, hy, ry⟩ := vals_at r' h2
    exact he j x y hx hy pins s σ _ _ A.in1 I rx ry (by show A.units + 1 + n < _; omega)
  refine ⟨fun pins s σ u v A I rx ry hu => ?_, fun pins s σ u v A I rx ry hu => ?_⟩ <;> (cases rx; cases ry; have hu' : A.units < cLine := by omega)
  · obtain ⟨its, its', a, b, c, d, z⟩ := g pins s σ A I hu
    rw [← c, ← d]; exact SeqAt.RcAt.tuples a b hu' z
  · obtain ⟨its, its', a, b, c, d, z⟩ := g pins s σ A I hu
    rw [← c, ← d]
    exact SeqAt.RcNeAt.tuples a b hu' z
theorem eqV_self {x : V} (h : flatV x = true) : eqV x x = true := by
  cases x <;> first | rfl | exact beq_self_eq_true _ | cases h
/-- flat items -/
def eqL : List V → List V → Bool
  | [], [] => true
  | x :: xs, y :: ys => eqV x y && eqL xs ys
  | _, _ => false
theorem eqL_range : ∀ {xs ys : List V}, xs.length = ys.length → (List.range xs.length).all (fun j => eqV (xs.getD j .non) (ys.getD j .non)) = eqL xs ys
  | [], [], _ => rfl
  | x :: xs, y :: ys, h => by
    have h' : xs.length = ys.length := Nat.succ.inj h
    rw [List.length_cons, List.range_succ_eq_map, List.all_cons, List.all_map, eqL, ← eqL_range h']
    rfl
  | [], _ :: _, h => by cases h
  | _ :: _, [], h => by cases h
theorem eqL_len : ∀ {xs ys : List V}, eqL xs ys = true → xs.length = ys.length
  | [], [], _ => rfl
  | x :: xs, y :: ys, h => by rw [eqL, Bool.and_eq_true] at h; rw [List.length_cons, List.length_cons, eqL_len h.2]
  | [], _ :: _, h => by cases h
  | _ :: _, [], h => by cases h
theorem eqL_strs : ∀ {xs ys : List Str}, eqL (xs.map V.str) (ys.map V.str) = decide (xs = ys)
  | [], [] => rfl
  | x :: xs, y :: ys => by
    rw [List.map_cons, List.map_cons, eqL, eqL_strs]
    show ((x == y) && decide (xs = ys)) = _
    by_cases e : x = y
    · subst e; rw [beq_self_eq_true]; by_cases e2 : xs = ys <;> simp [e2]
    · rw [beq_eq_false_iff_ne.mpr e]; simp [e]
  | [], _ :: _ => rfl
  | _ :: _, [] => rfl
theorem all_get {xs : List V} (h : xs.all flatV = true) {j : Nat} {x : V} (e : xs[j]? = some x) : flatV x = true ∧ xs.getD j .non = x :=
  ⟨List.all_eq_true.mp h x (List.mem_of_getElem? e), by rw [List.getD, e]; rfl⟩
theorem eqj_ftups (h : SqT X.K H p xs) (k : SqT X.K H q ys) (fx : xs.all flatV = true) (fy : ys.all flatV = true) : EqJ X H (n + 1) (.ref p) (.ref q) (eqL xs ys) := by
  have e : ((List.range (min xs.length ys.length)).all (fun j => eqV (xs.getD j .non) (ys.getD j .non)) && xs.length == ys.length) = eqL xs ys := by
    by_cases hl : xs.length = ys.length
    · rw [← hl, Nat.min_self, beq_self_eq_true, Bool.and_true]; exact eqL_range hl
    · have : eqL xs ys = false := by
        cases e : eqL xs ys with
        | false => rfl
        | true => exact absurd (eqL_len e) hl
      rw [this, beq_eq_false_iff_ne.mpr hl, Bool.and_false]
  rw [← e]
  refine eqj_tups h k fun j x y hx hy => ?_
  obtain ⟨a, a'⟩ := all_get fx hx
  obtain ⟨b, b'⟩ := all_get fy hy
  rw [a', b']
  exact eqi_flat a b
/-- == and != of anything -/
theorem op_eqJ (hu : X.A.units + 20 < cLine) : OpR X (compareOp .Eq) (fun x y H Q => ∃ b, EqJ X H 20 x y b ∧ Q (.bl b) H) := by
  intro pins s σ H x y v u Q I rx ry h
  obtain ⟨b, e, q⟩ := h
  exact e.rc pins s σ v u X.A I rx ry hu X.prog X.w X.xe _ ⟨.bl b, H, I, rfl, q⟩
theorem op_neJ (hu : X.A.units + 20 < cLine) : OpR X (compareOp .NotEq) (fun x y H Q => ∃ b, EqJ X H 20 x y b ∧ Q (.bl (!b)) H) := by
  intro pins s σ H x y v u Q I rx ry h
  obtain ⟨b, e, q⟩ := h
  exact e.ne pins s σ v u X.A I rx ry hu X.prog X.w X.xe _ ⟨.bl (!b), H, I, rfl, q⟩
theorem hu20 {A : Around} {k : Nat} (hr : Room k A) : A.units + 20 < cLine := by have := hr.units; omega
end
end L2
/-! classes: methods by the class of what is at hand, a base's __init__, is True, in, index -/
namespace L2
open PySem PySem.Spec PyProof.Rows PySem.Calls
section
variable {P : Program} {w : World} {K : PySem.W.Frag} {mg : Str → Option Value} {base : Heap}
/-- a method m of the class at C -/
structure MethJ (P : Program) (w : World) (K : PySem.W.Frag) (mg : Str → Option Value) (base : Heap) (CX : CXT) (k : Nat) (C : Addr) (m : Str) where
  f : Addr
  fd : FuncData
  ps : List Str
  sp : Sp
  ds : List Value
  dvs : List V
  c : Cls K C
  hm : Meth K C m f
  F : FnOk P w K mg base CX k f fd ps sp
  hb : Binds K fd ps ds
  hd : Vals dvs ds
end
theorem passW0 {X : Cx} : Passes (CXW X.prog X.w) X E0 := fun _ _ _ _ _ _ _ h => by
  obtain ⟨_, _, _, _, _, _, _, _, _, _, _, z⟩ := h
  exact z.elim
section
variable {X : Cx} {CX : CXT} {k : Nat} {E : XK} {m : Str} {pos apos : Pos} {e o : Expr} {es : List Expr} {ta : TE} {t : TA}
def tMethG (X : Cx) (CX : CXT) (k : Nat) (m : Str) (E : XK) (ta : TE) (t : TA) : TE := fun σ H Q => ta σ H fun x H1 => ∃ (a C dx : Addr) (fs : List (Str × V)) (M : MethJ X.prog X.w X.K X.mg X.base CX k C m), x = .ref a ∧ H1 a = some (.ins C dx fs) ∧ fs.lookup m = none ∧
  t σ H1 fun vs H2 => M.sp (x :: (vs ++ M.dvs)) H2 Q E
theorem pe_methG {pl : Sem Bool} (hr : Room k X.A) (hx : Passes CX X E) (he : PE X o ta) (ha : PA X (e :: es) t)
    (hst : starEach (e :: es) X.env = (false, eval e X.env) :: starEach es X.env := by rfl) (hpl : (backTo pos (starEach es X.env)).any (·.1) = false := by rfl)
    (ht : eval (.Call (.Attribute o m apos) (e :: es) [] pos) X.env = (do
      let ov ← eval o X.env
      standAt apos.atName
      let (f, first) ← holding [ov] (getMethod ov m pl)
      callWith pos f first (backTo pos (starEach (e :: es) X.env)) (backToKw pos (keywordEach [] X.env))) := by rfl) :
    PE X (.Call (.Attribute o m apos) (e :: es) [] pos) (tMethG X CX k m E ta t) := by
  intro pins s σ H Q I h
  refine PySem.W.methodCall_KW (pl := pl) (thn (he pins s σ H _ I h) fun u s1 ⟨x, H1, I1, rx, a, C, dx, fs, M, ex, ea, l, q⟩ => ?_) ht
  subst ex
  obtain rfl : u = Value.ref a := rx
  refine getmeth_ok I1 ea M.c M.hm l ?_
  refine PySem.W.callWith_K (first := [.ref a]) (h₀ := X.base) I.ok.mod.kin M.hm.kp (thn (ha pos pins s1 σ H1 _ I1 q) fun us s2 ⟨vs, H2, I2, r, q2⟩ => ⟨I2.kIn, ?_⟩) hst hpl
  exact run_fn (us := .ref a :: us) (vs := .ref a :: vs) M.F hr M.hb M.hd hx I2 (.cons rfl r) q2
/-- .. that may raise -/
def tMethGX (X : Cx) (k : Nat) (m : Str) (ta : TE) (t : TA) : TEx := fun σ H Q E => ta σ H fun x H1 => ∃ (a C dx : Addr) (fs : List (Str × V)) (M : MethJ X.prog X.w X.K X.mg X.base (CXW X.prog X.w) k C m), x = .ref a ∧ H1 a = some (.ins C dx fs) ∧ fs.lookup m = none ∧
  t σ H1 fun vs H2 => M.sp (x :: (vs ++ M.dvs)) H2 Q E
theorem pex_methG {pl : Sem Bool} (hr : Room k X.A) (he : PE X.nox o ta) (ha : PA X.nox (e :: es) t)
    (hst : starEach (e :: es) X.env = (false, eval e X.env) :: starEach es X.env := by rfl) (hpl : (backTo pos (starEach es X.env)).any (·.1) = false := by rfl)
    (ht : eval (.Call (.Attribute o m apos) (e :: es) [] pos) X.env = (do
      let ov ← eval o X.env
      standAt apos.atName
      let (f, first) ← holding [ov] (getMethod ov m pl)
      callWith pos f first (backTo pos (starEach (e :: es) X.env)) (backToKw pos (keywordEach [] X.env))) := by rfl) :
    PEx X (.Call (.Attribute o m apos) (e :: es) [] pos) (tMethGX X k m ta t) := by
  intro pins s σ H Q E I h
  refine PySem.W.methodCall_KW (pl := pl) (wpAny_mono (he.noxE (CXAt X pins σ E) I h) (fun u s1 ⟨x, H1, I1, rx, a, C, dx, fs, M, ex, ea, l, q⟩ => ?_) fun _ _ z => z) ht
  subst ex
  obtain rfl : u = Value.ref a := rx
  refine getmeth_ok I1 ea M.c M.hm l ?_
  refine PySem.W.callWith_K (first := [.ref a]) (h₀ := X.base) I.ok.mod.kin M.hm.kp (wpAny_mono (ha.nox (CXAt X pins σ E) I1 q) (fun us s2 ⟨vs, H2, I2, r, q2⟩ => ⟨I2.kIn, ?_⟩) fun _ _ z => z) hst hpl
  exact run_fnx (us := .ref a :: us) (vs := .ref a :: vs) M.F hr M.hb M.hd I2 (.cons rfl r) q2
/-- C.m(self, ..): a def of the class by its name -/
structure ClsFn (K : PySem.W.Frag) (C : Addr) (m : Str) (f : Addr) : Prop where
  rd : PySem.W.readsIn K C (.type "type") = true
  at_ : PySem.W.findCls K (.ref C) (.type "type") m = some (.val (.ref f))
  sp : PySem.W.specialIn K (.ref C) "__getattribute__" = some (some (.builtin "type.__getattribute__"))
  kp : PySem.W.keepIn K (.ref f) = true
theorem pe_clsfn {pl : Sem Bool} {C f : Addr} {fd : FuncData} {ps : List Str} {sp : Sp} {x : Str} {np : Pos} (c : ClsFn X.K C m f) (F : FnOk X.prog X.w X.K X.mg X.base CX k f fd ps sp) (hr : Room k X.A) (hg : Gl X x) (hmg : X.mg x = some (.ref C)) (hb : Binds X.K fd ps []) (hx : Passes CX X E)
    (ha : PA X (e :: es) t) (hd : (x == ("__debug__" : Str)) = false := by decide)
    (hst : starEach (e :: es) X.env = (false, eval e X.env) :: starEach es X.env := by rfl) (hpl : (backTo pos (starEach es X.env)).any (·.1) = false := by rfl)
    (ht : eval (.Call (.Attribute (.Name x np) m apos) (e :: es) [] pos) X.env = (do
      let ov ← eval (.Name x np) X.env
      standAt apos.atName
      let (f, first) ← holding [ov] (getMethod ov m pl)
      callWith pos f first (backTo pos (starEach (e :: es) X.env)) (backToKw pos (keywordEach [] X.env))) := by rfl) :
    PE X (.Call (.Attribute (.Name x np) m apos) (e :: es) [] pos) (tCall sp [] E t) := by
  intro pins s σ H Q I h
  refine PySem.W.methodCall_KW (pl := pl) (ld_glob I hg hmg ?_ hd) ht
  refine PySem.W.method_cls I.kIn c.sp (PySem.W.cls_value (s := s) I.kIn c.rd c.at_ rfl ?_)
  refine PySem.W.callWith_K (first := []) (h₀ := X.base) I.ok.mod.kin c.kp (thn (ha pos pins _ σ H _ (I.tok _) h) fun us s2 ⟨vs, H2, I2, r, q2⟩ => ⟨I2.kIn, ?_⟩) hst hpl
  exact run_fn (us := us) (vs := vs) F hr hb .nil hx I2 r q2
end
end L2
/-! numbers as texts; blanks left out -/
namespace L2
open PySem PySem.Spec PyProof.Rows
/-! ### strip -/
def dropW (l : List Nat) : List Nat := l.dropWhile (· == 32)
def stripL (l : List Nat) : List Nat := (dropW (dropW l).reverse).reverse
theorem drop_takeWhile (p : Nat → Bool) : ∀ l : List Nat, l.drop (l.takeWhile p).length = l.dropWhile p
  | [] => rfl
  | a :: r => by
    rw [List.takeWhile_cons, List.dropWhile_cons]
    by_cases h : p a = true
    · rw [if_pos h, if_pos h, List.length_cons, List.drop_succ_cons, drop_takeWhile p r]
    · rw [if_neg h, if_neg h]; rfl
theorem blank_cps : (("\u0020" : Str).cps.contains : Nat → Bool) = fun c => c == 32 := by
  have e : ("\u0020" : Str).cps = #[32] := by decide +kernel
  funext c
  rw [e]
  show (#[32] : Array Nat).contains c = (c == 32)
  by_cases h : c = 32
  · subst h; simp
  · rw [beq_eq_false_iff_ne.mpr h]
    cases e2 : (#[32] : Array Nat).contains c with
    | false => rfl
    | true => exact absurd (by simpa using e2) h
theorem strip_is (z : Str) : cd (Txt.stripChars z "\u0020") = stripL (cd z) := by
  unfold Txt.stripChars
  rw [stripBy_eq, blank_cps]
  unfold Builtin.Str.strSub stripLo stripHi
  rw [if_pos rfl, if_pos rfl]
  show (z.cps.extract _ _).toList = _
  rw [Array.toList_extract, List.extract_eq_take_drop]
  have e1 : z.cps.toList.drop (z.cps.toList.takeWhile (fun c => c == 32)).length = dropW (cd z) := drop_takeWhile _ _
  rw [e1]
  have hl : z.length = (cd z).length := len_cd z
  have hd : (dropW (cd z)).length = (cd z).length - (z.cps.toList.takeWhile (fun c => c == 32)).length := by rw [← e1, List.length_drop]
  have ht : ((dropW (cd z)).reverse.takeWhile (fun c => c == 32)).length ≤ (dropW (cd z)).length := by
    have := (List.takeWhile_prefix (l := (dropW (cd z)).reverse) (fun c => c == 32)).length_le
    rw [List.length_reverse] at this; exact this
  unfold stripL
  have e2 : dropW (dropW (cd z)).reverse = (dropW (cd z)).reverse.drop ((dropW (cd z)).reverse.takeWhile (fun c => c == 32)).length := (drop_takeWhile _ _).symm
  rw [e2, ← List.reverse_reverse ((dropW (cd z)).take _)]
  congr 1
  rw [List.reverse_take]
  congr 1
  omega
theorem dropW_rep (a : Nat) (l : List Nat) : dropW (List.replicate a 32 ++ l) = dropW l := by
  induction a with
  | zero => rfl
  | succ a ih => rw [List.replicate_succ, List.cons_append]; unfold dropW; rw [List.dropWhile_cons, if_pos (by decide)]; exact ih
theorem dropW_not {l : List Nat} (h : ∀ c, l.head? = some c → c ≠ 32) : dropW l = l := by
  cases l with
  | nil => rfl
  | cons a r => unfold dropW; rw [List.dropWhile_cons, if_neg (by simpa using h a rfl)]
theorem stripL_core {a b : Nat} {w : List Nat} (h1 : ∀ c, w.head? = some c → c ≠ 32) (h2 : ∀ c, w.getLast? = some c → c ≠ 32) : stripL (List.replicate a 32 ++ w ++ List.replicate b 32) = w := by
  unfold stripL
  rw [List.append_assoc, dropW_rep]
  cases w with
  | nil =>
    rw [List.nil_append]
    have : dropW (List.replicate b 32) = [] := by have := dropW_rep b []; rwa [List.append_nil] at this
    rw [this]; rfl
  | cons x r =>
    have e : dropW (x :: r ++ List.replicate b 32) = x :: r ++ List.replicate b 32 := dropW_not fun c hc => h1 c hc
    rw [e, List.reverse_append, List.reverse_replicate, dropW_rep]
    have e2 : dropW (x :: r).reverse = (x :: r).reverse := dropW_not fun c hc => h2 c (by rwa [List.head?_reverse] at hc)
    rw [e2, List.reverse_reverse]
theorem stripL_self {w : List Nat} (h1 : ∀ c, w.head? = some c → c ≠ 32) (h2 : ∀ c, w.getLast? = some c → c ≠ 32) : stripL w = w := by
  have := stripL_core (a := 0) (b := 0) h1 h2
  simpa using this
theorem stripL_no {w : List Nat} (h : ∀ c ∈ w, c ≠ 32) : stripL w = w := stripL_self (fun c hc => h c (List.mem_of_mem_head? hc)) (fun c hc => h c (List.mem_of_getLast? hc))
theorem dropW_mem {l : List Nat} {c : Nat} (h : c ∈ dropW l) : c ∈ l := (List.dropWhile_suffix _).subset h
theorem stripL_mem {l : List Nat} {c : Nat} (h : c ∈ stripL l) : c ∈ l := dropW_mem (List.mem_reverse.mp (dropW_mem (List.mem_reverse.mp h)))
theorem dropW_len (l : List Nat) : (dropW l).length ≤ l.length := (List.dropWhile_suffix _).length_le
theorem stripL_len (l : List Nat) : (stripL l).length ≤ l.length := by
  unfold stripL
  rw [List.length_reverse]
  refine Nat.le_trans (dropW_len _) ?_
  rw [List.length_reverse]; exact dropW_len l
theorem Fine.strip {n : Nat} {z : Str} (h : Fine n z) : Fine n (Txt.stripChars z "\u0020") := by
  refine ⟨?_, fun c hc => ?_⟩
  · rw [len_cd, strip_is]; have := stripL_len (cd z); have := h.len; rw [len_cd] at this; omega
  · rw [strip_is] at hc; exact h.cod c (stripL_mem hc)

/-! ### figures of a number -/
def dig (n : Nat) : List Nat := (Nat.toDigits 10 n).map Char.toNat
theorem digChar : ∀ d : Nat, d < 10 → (Nat.digitChar d).toNat = 48 + d := by decide
theorem dig_lt {n : Nat} (h : n < 10) : dig n = [48 + n] := by
  unfold dig; rw [Nat.toDigits_of_lt_base h]; show [(Nat.digitChar n).toNat] = _; rw [digChar n h]
theorem dig_ge {n : Nat} (h : 10 ≤ n) : dig n = dig (n / 10) ++ [48 + n % 10] := by
  unfold dig; rw [Nat.toDigits_of_base_le (by decide) h, List.map_append]; show _ ++ [(Nat.digitChar (n % 10)).toNat] = _; rw [digChar _ (Nat.mod_lt _ (by decide))]
theorem dig_pos (n : Nat) : 0 < (dig n).length := by unfold dig; rw [List.length_map]; exact Nat.length_toDigits_pos
theorem dig_len {k n : Nat} (hk : 1 ≤ k) (hn : n < 10 ^ k) : (dig n).length ≤ k := by unfold dig; rw [List.length_map]; exact toDigits_len_pow (by decide) hk hn
theorem dig_all (n : Nat) : (dig n).all inF = true := by
  induction n using Nat.strongRecOn with
  | _ n ih =>
    by_cases h : n < 10
    · rw [dig_lt h, List.all_cons, (inF_iff _).mpr ⟨by omega, by omega⟩]; rfl
    · rw [dig_ge (by omega), List.all_append, ih (n / 10) (by omega), List.all_cons, (inF_iff _).mpr ⟨by omega, by have := Nat.mod_lt n (show 0 < 10 by decide); omega⟩]; rfl
theorem val_dig (n : Nat) : val (dig n) = n := by
  induction n using Nat.strongRecOn with
  | _ n ih =>
    by_cases h : n < 10
    · rw [dig_lt h]; show (0 : Int) * 10 + ((48 + n - 48 : Nat) : Int) = n; omega
    · rw [dig_ge (by omega), val_snoc, ih (n / 10) (by omega)]; omega
theorem dig_head {n : Nat} (h : n ≠ 0) : ∃ c r, dig n = c :: r ∧ 49 ≤ c ∧ c ≤ 57 := by
  induction n using Nat.strongRecOn with
  | _ n ih =>
    by_cases h10 : n < 10
    · exact ⟨_, _, dig_lt h10, by omega, by omega⟩
    · obtain ⟨c, r, e, h1, h2⟩ := ih (n / 10) (by omega) (by omega)
      exact ⟨c, r ++ [48 + n % 10], by rw [dig_ge (by omega), e]; rfl, h1, h2⟩
theorem dig_fig {n c : Nat} (h : c ∈ dig n) : 48 ≤ c ∧ c ≤ 57 := (inF_iff c).mp (List.all_eq_true.mp (dig_all n) c h)
theorem dig_zero : dig 0 = [48] := dig_lt (by decide)
/-- the text of a number -/
def numL (i : Int) : List Nat := if i < 0 then 45 :: dig i.natAbs else dig i.natAbs
theorem cd_str (i : Int) : cd ((toString i : String) : Str) = numL i := by
  show (Str.ofString (toString i)).cps.toList = _
  rw [signs_ofString]
  unfold numL
  cases i with
  | ofNat m =>
    rw [if_neg (show ¬ Int.ofNat m < 0 from by have : Int.ofNat m = (m : Int) := rfl; omega)]
    show (Nat.repr m).toList.map Char.toNat = _
    rw [Nat.toList_repr]; rfl
  | negSucc m =>
    rw [if_pos (Int.negSucc_lt_zero m)]
    have : (toString (Int.negSucc m)) = "-" ++ Nat.repr (m + 1) := rfl
    rw [this, String.toList_append, Nat.toList_repr]; rfl
theorem numL_fig (i : Int) : fig (numL i) = dig i.natAbs := by
  unfold numL
  split
  · rfl
  · unfold fig
    rw [if_neg]
    obtain ⟨c, r, e⟩ : ∃ c r, dig i.natAbs = c :: r := by
      cases h : dig i.natAbs with
      | nil => have := dig_pos i.natAbs; rw [h] at this; cases this
      | cons c r => exact ⟨c, r, rfl⟩
    intro z
    have hc := dig_fig (n := i.natAbs) (c := c) (by rw [e]; simp)
    rw [e] at z
    have : c = 45 := by simpa using z
    omega
theorem numL_ne (i : Int) : numL i ≠ [] := by
  unfold numL
  split
  · simp
  · intro z; have := dig_pos i.natAbs; rw [z] at this; cases this
theorem numL_mem {i : Int} {c : Nat} (h : c ∈ numL i) : c = 45 ∨ (48 ≤ c ∧ c ≤ 57) := by
  unfold numL at h
  split at h
  · rcases List.mem_cons.mp h with e | e
    · exact .inl e
    · exact .inr (dig_fig e)
  · exact .inr (dig_fig h)
theorem numL_strip (i : Int) : stripL (numL i) = numL i := stripL_no fun c hc => by rcases numL_mem hc with e | e <;> omega
theorem numB_numL {i : Int} {most : Int} (h1 : 1 ≤ most) (h : ((dig i.natAbs).length : Int) ≤ most) : numB (numL i) most = some i := by
  have e := numL_fig i
  unfold numB
  rw [e, if_neg]
  · congr 1
    rw [val_dig]
    unfold numL
    by_cases hi : i < 0
    · rw [if_pos hi]
      rw [if_pos (show (45 :: dig i.natAbs).take 1 = [45] from rfl)]; omega
    · rw [if_neg hi, if_neg]
      · omega
      · intro z
        obtain ⟨c, r, ec⟩ : ∃ c r, dig i.natAbs = c :: r := by
          cases h : dig i.natAbs with
          | nil => have := dig_pos i.natAbs; rw [h] at this; cases this
          | cons c r => exact ⟨c, r, rfl⟩
        have hc := dig_fig (n := i.natAbs) (c := c) (by rw [ec]; simp)
        rw [ec] at z
        have : c = 45 := by simpa using z
        omega
  · intro z
    rcases z with z | z | z | z
    · have := dig_pos i.natAbs; omega
    · omega
    · by_cases h0 : i.natAbs = 0
      · have : i = 0 := by omega
        subst this
        exact z.2 (by show (if (0:Int) < 0 then _ else _) = _; rw [if_neg (by decide)]; exact dig_zero)
      · obtain ⟨c, r, ec, hc, _⟩ := dig_head h0
        rw [ec] at z
        have : c = 48 := by simpa using z.1
        omega
    · rw [dig_all] at z; cases z
theorem numB_str {i : Int} (h : i.natAbs < 10 ^ 60) : numB (numL i) 60 = some i := numB_numL (by decide) (by have := dig_len (k := 60) (by decide) h; omega)
end L2
namespace L2
open PySem PySem.Spec PyProof.Rows PySem.Calls
section
variable {X : Cx}
theorem op_isnotB : OpR X (compareOp .IsNot) (fun x y H Q => ∃ c d, x = .bl c ∧ y = .bl d ∧ Q (.bl (c != d)) H) := by
  intro pins s σ H x y v u Q I rx ry h
  obtain ⟨c, d, rfl, rfl, q⟩ := h
  cases rx
  cases ry
  exact isnot_bool ⟨.bl _, H, I, rfl, q⟩
end
/-! ### fields -/
theorem lk0 {f a b : Str} {v w : V} (h1 : (f == a) = false) (h2 : (f == b) = false) : ([(a, v), (b, w)] : List (Str × V)).lookup f = none := by
  rw [List.lookup_cons, h1, List.lookup_cons, h2]; rfl
theorem lk1 {a : Str} {v : V} {r : List (Str × V)} : ((a, v) :: r).lookup a = some v := by rw [List.lookup_cons, beq_self_eq_true]
theorem lk2 {a b : Str} {v w : V} (h : (b == a) = false) {r : List (Str × V)} : ((a, v) :: (b, w) :: r).lookup b = some w := by rw [List.lookup_cons, h]; exact lk1
theorem iteN {c : Bool} {A B : Prop} (h : c = false) (q : B) : if c = true then A else B := by subst h; exact iteF q
theorem iteY {c : Bool} {A B : Prop} (h : c = true) (q : A) : if c = true then A else B := by subst h; exact iteT q
/-- what a thing is, to isinstance -/
structure Thing (K : PySem.W.Frag) (H : Hp) (x : V) where
  t : Value
  bi : Bool
  bb : Bool
  bs : Bool
  ty : TyE K H x t
  ki : PySem.W.kitOne K t (.type "int") = some bi
  kb : PySem.W.kitOne K t (.type "bool") = some bb
  ks : PySem.W.kitOne K t (.type "str") = some bs
  hi : (bi && !bb) = true → ∃ n, x = .int n
  hs : bs = true → ∃ z, x = .str z
  ni : ∀ n, x = .int n → (bi && !bb) = true
  ns : ∀ z, x = .str z → bs = true
  hbl : bb = true → ∃ b, x = .bl b
  nbl : ∀ b, x = .bl b → bb = true
theorem Same.seqT {K : PySem.W.Frag} {H H' : Hp} {a : Addr} {xs : List V} (e : Same H H') (h : SqT K H a xs) : SqT K H' a xs := by
  rcases h with h | h
  · exact .inl (h.imp (fun k => e _ _ k) (fun ⟨o, k⟩ => ⟨o, e _ _ k⟩))
  · exact .inr h
theorem Same.tyE' {K : PySem.W.Frag} {H H' : Hp} {x : V} {t : Value} (e : Same H H') (h : TyE K H x t) : TyE K H' x t := by
  cases h with
  | old h => exact .old (e.ty h)
  | exc h c => exact .exc (e _ _ h) c
  | tpl h => exact .tpl (e.seqT h)
def Thing.same {K : PySem.W.Frag} {H H' : Hp} {x : V} (h : Thing K H x) (e : Same H H') : Thing K H' x := ⟨h.t, h.bi, h.bb, h.bs, e.tyE' h.ty, h.ki, h.kb, h.ks, h.hi, h.hs, h.ni, h.ns, h.hbl, h.nbl⟩
theorem Same.upd {H H' : Hp} {p : Addr} {o : HO} (e : Same H H') (h : H p = none ∨ H p = some o) : Same H (L2.upd H' p o) := fun b u q => by
  by_cases z : b = p
  · subst z
    rcases h with h | h
    · rw [h] at q; cases q
    · rw [h] at q; rw [upd_same]; exact q
  · rw [upd_ne z]; exact e b u q
/-- what is shown of a number that a text writes -/
def numV : Option Int → V
  | some n => .int n
  | none => .non
end L2
/-! written whole numbers: what the laws ask of them -/
namespace L2
open PySem PySem.Spec PyProof.Rows
theorem str_is (n : Int) : ((toString n : String) : Str) = S (numL n) := cd_inj (cd_str n)
theorem fineNum {n : Int} (h : n.natAbs < 10 ^ 60) : Fine 61 (S (numL n)) := by rw [← str_is]; exact Fine.int (by decide) h
theorem logOk {m : Int} (h : m.natAbs < 10 ^ 61) : m.natAbs.log2 < 1920 := by
  by_cases h0 : m.natAbs = 0
  · rw [h0]; decide
  · exact (Nat.log2_lt h0).mpr (Nat.lt_trans h (by decide +kernel))
end L2
/-! a table of the module, asked by get; in, where it is asked of lists and tuples too; index; split -/
namespace L2
open PySem PySem.Spec PyProof.Rows PySem.Calls
theorem pe_eqv {X : Cx} {e : Expr} {te te' : TE} (h : PE X e te') (h2 : te' = te) : PE X e te := h2 ▸ h
/-- a dict of the module: texts lead to truths -/
def TabK (K : PySem.W.Frag) (a : Addr) (D : List (Str × Bool)) : Prop :=
  (a == sysModules) = false ∧ ∃ o es ep, K.lookup a = some o ∧ o.ExactDict ∧ o.data = .dict es ep ∧ KTD.Rows (fun (b : Bool) (v : Value) => v = .bool b) es.toList D
theorem tabK_mk {K : PySem.W.Frag} {a : Addr} {oc : Value} {od : Option Addr} {es : Array DictEntry} {ep : Nat} {sl : Array (Option Value)} {D : List (Str × Bool)} (h : K.lookup a = some ⟨oc, od, .dict es ep, sl⟩) (hs : (a == sysModules) = false) (hc : oc = .type "dict") (hd : od = none) (hsl : sl = #[]) (hr : KTD.Rows (fun (b : Bool) (v : Value) => v = .bool b) es.toList D) : TabK K a D := by
  subst hc hd hsl
  exact ⟨hs, _, es, ep, h, ⟨rfl, rfl, rfl⟩, rfl, hr⟩
def lookB (D : List (Str × Bool)) (z : Str) : V := match D.lookup z with
  | some b => .bl b
  | none => .non
theorem datum_look (z : Str) : ∀ D : List (Str × Bool), KTD.datumAt z (D.map fun p => (p.1, KTD.Dat.flat (.bool p.2))) = (D.lookup z).map fun b => KTD.Dat.flat (.bool b)
  | [] => rfl
  | (x, b) :: D => by
    show (if decide (z = x) = true then some (KTD.Dat.flat (.bool b)) else KTD.datumAt z (D.map fun p => (p.1, KTD.Dat.flat (.bool p.2)))) = _
    rw [datum_look z D, List.lookup_cons]
    by_cases h : z = x
    · subst h; rw [if_pos (decide_eq_true rfl), beq_self_eq_true]; rfl
    · rw [if_neg (by simpa using h), beq_eq_false_iff_ne.mpr h]
section
variable {X : Cx}
theorem pe_gget {x : Str} {a : Addr} {D : List (Str × Bool)} {e : Expr} {te : TE} {np apos cpos : Pos} (hg : Gl X x) (hm : X.mg x = some (.ref a)) (hT : TabK X.K a D) (he : PE X e te) (m : M1 X (.Name x np) "get" apos e cpos) (hdb : (x == ("__debug__" : Str)) = false := by decide) :
    PE X (.Call (.Attribute (.Name x np) "get" apos) [e] [] cpos) (fun σ H Q => te σ H fun v H1 => ∃ z, v = .str z ∧ Q (lookB D z) H1) := by
  intro pins s σ H Q I h
  obtain ⟨lo, o, es, ep, lk, hc, hd, hr⟩ := hT
  have T0 : KTD.TextTab X.base a (D.map fun p => (p.1, KTD.Dat.flat (.bool p.2))) :=
    ⟨lo, o, es, ep, I.ok.mod.kin _ _ lk, hc, hd, hr.mono (f := fun b => KTD.Dat.flat (.bool b)) fun d v e => by subst e; exact PyProof.V.Flat.bool d⟩
  have T : ∀ {pins : List (Addr × Obj)} {σ : St} {H : Hp} {s : Shared}, Inv X pins σ H s → KTD.Here X.base s.heap a (D.map fun p => (p.1, KTD.Dat.flat (.bool p.2))) := fun I => ⟨T0, I.bk⟩
  refine wpAny_Call_method m.base m.few m.line PySem.F.plainAttrs_dict PySem.F.slot_dict_get PySem.F.type_dict_get (ld_glob I hg hm ?_ hdb)
  refine ⟨(T I).typeIs, (T I).noDict, ?_⟩
  rw [m.trees]
  refine Calls.callWith_builtin rfl (Calls.evalArgs_plain (Calls.spliced_cons (thn (he pins s σ H _ I h) fun iv s2 ⟨y, H2, I2, ry, z, ez, q2⟩ => Calls.spliced_nil ?_)))
  subst ez
  obtain ⟨t, rfl⟩ := ry
  refine call_meetsIn PySem.F.slot_dict_get (T I2).typeIs PySem.F.entry_dict_get (PySem.F.args_dict_get_2 _ _) (KTD.meets_get1 (h₀ := X.base)) ⟨T I2, fun d v ha hv => ?_, fun hn => ?_⟩
  · rw [datum_look] at ha
    cases hl : D.lookup z with
    | none => rw [hl] at ha; cases ha
    | some b =>
      rw [hl] at ha
      cases ha
      have hv' : v = .bool b := PyProof.V.Flat.bool_inv hv
      subst hv'
      refine ⟨.bl b, H2, I2.tok _, rfl, ?_⟩
      unfold lookB at q2
      rw [hl] at q2
      exact q2
  · rw [datum_look] at hn
    cases hl : D.lookup z with
    | some b => rw [hl] at hn; cases hn
    | none =>
      refine ⟨.non, H2, I2.tok _, rfl, ?_⟩
      unfold lookB at q2
      rw [hl] at q2
      exact q2
theorem vals_nth : ∀ {xs : List V} {us : List Value}, Vals xs us → xs.all flatV = true → ∀ {x : V} (j : Nat) (h : j < us.toArray.size), eqU x us.toArray[j] = eqV (xs.getD j .non) x := by
  intro xs us r f x j h
  obtain ⟨y, hy, ry⟩ := vals_at r h
  obtain ⟨a, b⟩ := all_get f hy
  rw [b]
  exact eqU_of ry a
/-- the first place -/
def IdxOf (x : V) (xs : List V) (j : Nat) : Prop := ∃ y, xs[j]? = some y ∧ eqV y x = true ∧ ∀ (m : Nat) z, m < j → xs[m]? = some z → eqV z x = false
theorem mt_lindex : MtM X "list.index" (fun x vs H Q => ∃ p xs y j, x = .ref p ∧ vs = [y] ∧ SqL X.K H p xs ∧ xs.all flatV = true ∧ flatV y = true ∧ IdxOf y xs j ∧ Q (.int (j : Nat)) H) := by
  intro pins s σ H x vs v us Q I rx rv h
  obtain ⟨p, xs, y, j, rfl, rfl, hq, fs, fy, ⟨y', hj, hy, hno⟩, q⟩ := h
  cases rx
  obtain ⟨u, rfl, ru⟩ := rv.one
  obtain ⟨its, r, pl, hz⟩ := I.list hq
  obtain ⟨⟨cls, dd, data, sl⟩, ho, hc, n, hd⟩ := pl.isList
  simp only at hc hd
  subst hc hd
  have hl := r.length
  have hlt : j < xs.length := (List.getElem?_eq_some_iff.mp hj).1
  have hn := line63
  refine call_meets PySem.F.slot_list_index ⟨_, ho, rfl⟩ PySem.F.entry_list_index (PySem.F.args_list_index_2 _ _)
    (SeqAt.list_indexAt p its.toArray n dd sl u (eqU y) j (by rw [List.size_toArray]; omega) (by omega) ?_ ?_) ⟨ho, fun w hw => mem_eqAt ru fy r fs w (by simpa using hw), ⟨.int j, H, I.tok _, ⟨_, rfl⟩, q⟩⟩
  · rw [vals_nth r fs, (all_get fs hj).2]; exact hy
  · intro m hm hmj
    rw [vals_nth r fs]
    have hm' : m < xs.length := by omega
    have e := List.getElem?_eq_getElem hm'
    rw [(all_get fs e).2]
    exact hno m _ hmj e
end
end L2
/-! sets of texts, made of a tuple; a text cut at blanks -/
namespace L2
open PySem PySem.Spec PyProof.Rows PySem.Calls
theorem snocInd {p : List Str → Prop} (l : List Str) (h0 : p []) (hs : ∀ l v, p l → p (l ++ [v])) : p l := by
  have key : ∀ l : List Str, p l.reverse := fun l => by
    induction l with
    | nil => exact h0
    | cons a r ih => rw [List.reverse_cons]; exact hs _ _ ih
  have := key l.reverse
  rwa [List.reverse_reverse] at this
def stepT (σ : List Str) (v : Str) : List Str := if v ∈ σ then σ else σ ++ [v]
def metT (ws : List Str) : List Str := ws.foldl stepT []
theorem metT_snoc (ws : List Str) (v : Str) : metT (ws ++ [v]) = stepT (metT ws) v := by unfold metT; rw [List.foldl_append]; rfl
theorem stepT_mem (σ : List Str) (v k : Str) : k ∈ stepT σ v ↔ k ∈ σ ∨ k = v := by
  unfold stepT
  split
  · constructor
    · exact .inl
    · rintro (h | h)
      · exact h
      · subst h; assumption
  · simp
theorem metT_mem (ws : List Str) : ∀ k, k ∈ metT ws ↔ k ∈ ws := by
  refine snocInd (p := fun ws => ∀ k, k ∈ metT ws ↔ k ∈ ws) ws (fun k => Iff.rfl) fun l v ih k => ?_
  rw [metT_snoc, stepT_mem, ih k, List.mem_append, List.mem_singleton]
theorem metT_len (ws : List Str) : (metT ws).length ≤ ws.length := by
  refine snocInd (p := fun ws => (metT ws).length ≤ ws.length) ws (Nat.le_refl _) fun l v ih => ?_
  rw [metT_snoc]; unfold stepT
  split <;> simp <;> omega
theorem metT_nodup (ws : List Str) : (metT ws).length = ws.length ↔ ws.Nodup := by
  refine snocInd (p := fun ws => (metT ws).length = ws.length ↔ ws.Nodup) ws (by simp [metT]) fun l v ih => ?_
  rw [metT_snoc, List.nodup_append]
  have hl := metT_len l
  unfold stepT
  by_cases h : v ∈ metT l
  · rw [if_pos h]
    have h' := (metT_mem l v).mp h
    constructor
    · intro e; simp at e; omega
    · intro ⟨_, _, d⟩; exact absurd rfl (d v h' v (by simp))
  · rw [if_neg h]
    have h' : v ∉ l := fun z => h ((metT_mem l v).mpr z)
    simp only [List.length_append, List.length_singleton, Nat.add_right_cancel_iff, ih]
    constructor
    · intro e; exact ⟨e, by simp, fun a ha b hb z => by rw [List.mem_singleton.mp hb] at z; exact h' (z ▸ ha)⟩
    · exact fun ⟨e, _⟩ => e
theorem isStr_self (P : Program) (w : World) (z : Str) (t : Tok) : (strKind P w).is z (.str z t) = true := by
  show Value.isStrOf z (.str z t) = true
  simp [Value.isStrOf]
section
variable {prog : Program} {w : World} {A : Around} {R : Result → Shared → Prop} {I : Addr} {fp wr : List Addr} {G : Array GenState → Array GenState → Prop} {n : Nat} {P : Nat → Value → Prop} {St : Nat → Shared → Prop}
theorem set_loopT (W : WalksS prog w A.in1 I fp wr G n P St) (S : Addr) (hSf : S ∉ fp) (ws : List Str) (hn : ws.length = n) (hval : ∀ i v, P i v → ∃ z t, v = .str z t ∧ ws[i]? = some z) (hb : n + 1 < scanBound) :
    ∀ (k i : Nat) (s : Shared), n - i = k → i ≤ n → St i s →
      s.heap.SetOf (strKind prog w) S (fun k' => decide (k' ∈ metT (ws.take i))) (metT (ws.take i)).length →
      (∀ s', Moved (S :: wr) G s s' → s'.heap.SetOf (strKind prog w) S (fun k' => decide (k' ∈ metT ws)) (metT ws).length → R (.ok (.ret .none)) s') →
      codeAny (model prog w) A (.builtin "set.update.loop" ⟨[.ref S, .ref I], []⟩) R s := by
  have hSw : S ∉ wr := fun h => hSf (W.sub _ h)
  have hsub : ∀ b ∈ wr, b ∈ S :: wr := fun b hb => List.mem_cons_of_mem _ hb
  intro k
  induction k with
  | zero =>
    intro i s hk hi hst hS hR
    have hin : i = n := by omega
    subst hin
    rw [← hn, List.take_length] at hS
    refine codeAny_builtin F.entry_set_update_loop ?_
    rw [Around.under_plainId F.plain_set_update_loop _]
    show wpAny _ A.in1 (pyNext (.ref I) >>= _) _ _ s
    refine wpAny_bind (W.done s _ _ hst fun s' hm => ?_)
    exact wpAny_pure (hR s' (hm.mono hsub) (by
      obtain ⟨o, es, ep, t, ho, rest⟩ := hS
      exact ⟨o, es, ep, t, hm.heap S _ hSw ho, rest⟩))
  | succ k ih =>
    intro i s hk hi hst hS hR
    have hlt : i < n := by omega
    refine codeAny_builtin F.entry_set_update_loop ?_
    rw [Around.under_plainId F.plain_set_update_loop _]
    show wpAny _ A.in1 (pyNext (.ref I) >>= _) _ _ s
    refine wpAny_bind (W.item i s _ _ hlt hst fun v s' hP hst' hm => ?_)
    obtain ⟨z, t, rfl, hz⟩ := hval i v hP
    obtain ⟨o, es, ep, tb, ho, rest⟩ := hS
    have hS' : s'.heap.SetOf (strKind prog w) S (fun k' => decide (k' ∈ metT (ws.take i))) (metT (ws.take i)).length := ⟨o, es, ep, tb, hm.heap S _ hSw ho, rest⟩
    show wpAny _ A.in1 (holding [Value.str z t] (setAdd S (.str z t)) >>= _) _ _ s'
    refine wpAny_bind (wpAny_holding ?_)
    unfold setAdd
    refine wpAny_holding ?_
    refine wpAny_bind ((strKind prog w).pyHash (k := z) (isStr_self _ _ _ _) ?_)
    have hroom : (metT (ws.take i)).length + 1 < scanBound := by have := metT_len (ws.take i); rw [List.length_take] at this; omega
    refine wpAny_setAddHashed_of (knd := strKind prog w) (s := { s' with toks := s'.toks + 1 }) (isStr_self _ _ _ _) rfl hS' hroom fun h' hsb hS2 => ?_
    have et : ws.take (i + 1) = ws.take i ++ [z] := by rw [List.take_succ, hz]; rfl
    have hSi : h'.SetOf (strKind prog w) S (fun k' => decide (k' ∈ metT (ws.take (i + 1)))) (metT (ws.take (i + 1))).length := by
      refine SetOf_congr hS2 (fun k' => ?_) ?_
      · rw [et, metT_snoc, Bool.eq_iff_iff, decide_eq_true_iff, stepT_mem]
        simp only [Bool.or_eq_true, decide_eq_true_iff]
      · rw [et, metT_snoc]
        unfold stepT
        by_cases h : z ∈ metT (ws.take i)
        · rw [if_pos h, if_pos (decide_eq_true h)]
        · rw [if_neg h, if_neg (by simpa using h), List.length_append]; rfl
    refine wpAny_pure ⟨plainId_quiet F.plain_set_update_loop _, ih (i + 1) _ (by omega) hlt (W.frame _ s' _ _ hst' (Nat.le_succ _) fun b hb o e => ?_) hSi fun s'' hm'' hS'' => ?_⟩
    · rw [hsb.2 b (fun h : b = S => hSf (by rw [← h]; exact hb))]; exact e
    · refine hR s'' (Moved.trans W.gtrans ((hm.mono hsub).then_heap (Nat.le_succ _) fun b o hb e => ?_) hm'') hS''
      rw [hsb.2 b (fun h : b = S => hb (by rw [h]; exact List.mem_cons_self))]; exact e
end

theorem sub_tup_set : isSubtype (.type "tuple") (.type "set") = pure false := by rw [isSubtype_type]; kernel_rfl
theorem sub_tup_frozenset : isSubtype (.type "tuple") (.type "frozenset") = pure false := by rw [isSubtype_type]; kernel_rfl
section
variable {prog : Program} {w : World} {A : Around} {E : Value → Shared → Prop} {s : Shared}
set_option maxHeartbeats 3200000 in
theorem set_tupT {l : Addr} {items : Array Value} {ws : List Str} {Q : Value → Shared → Prop}
    (hh : A.handled = none) (hl : IsTup s.heap l items) (hn : ws.length = items.size) (hi : ∀ (i : Nat) v, items[i]? = some v → ∃ z t, v = .str z t ∧ ws[i]? = some z) (hb : items.size + 1 < scanBound)
    (h : ∀ (h' : Heap) (tk : Nat), h'.SetOf (strKind prog w) s.heap.objs.size (fun k' => decide (k' ∈ metT ws)) (metT ws).length →
      (∀ b o, b < s.heap.objs.size → s.heap.get? b = some o → h'.get? b = some o) → Q (.ref s.heap.objs.size) { s with heap := h', toks := tk }) :
    wpAny (model prog w) A (call (.type "set") [.ref l]) Q E s := by
  obtain ⟨c, tl, hmro⟩ := F.called_set.mro
  have hmade := F.called_set.made
  have hsub := F.called_set.sub
  refine wpAny_call (codeAny_of_tree ?_)
  show wpAny _ _ (callAny (.type "set") _) _ _ _
  refine wpAny_pure ⟨Code.quiet_builtin _ (by decide +kernel), codeAny_builtin F.entry_type_call ?_⟩
  rw [Around.under_plain (weight_type_call_type "set" [.ref l] []) rfl]
  have h1 := F.called_set.notType
  have h2 := F.called_set.canCreate
  have hct := F.typeCall_set_1 (.ref l)
  repeat (any_goals (first | assumption | wp_step))
  refine codeAny_mono (code_set_new_1 (.ref l) (E := E) (Q₁ := fun obj s₁ => ∃ led : Bool, obj = .ref s.heap.objs.size ∧ s₁ = { s with heap := s.heap.push { cls := .type "set", dict := none, data := .set #[] 0 (.fresh 0 0 led) } }) fun led => ⟨led, rfl, rfl⟩) fun r s₁ hr => ?_
  cases r with
  | error e => exact hr
  | ok fl =>
    cases fl with
    | ret obj =>
      obtain ⟨led, rfl, rfl⟩ := hr
      have hS : (s.heap.push { cls := .type "set", dict := none, data := .set #[] 0 (.fresh 0 0 led) }).get? s.heap.objs.size = some { cls := .type "set", dict := none, data := .set #[] 0 (.fresh 0 0 led) } := Heap.get?_push_size _ rfl
      have hT : Shared.TypeIs { s with heap := s.heap.push { cls := .type "set", dict := none, data := .set #[] 0 (.fresh 0 0 led) } } (.ref s.heap.objs.size) "set" := ⟨_, hS, rfl⟩
      have hli := F.called_set.init.lookup
      have hbi := F.called_set.init.bind (.ref s.heap.objs.size)
      repeat (any_goals (first | assumption | wp_step))
      refine codeAny_mono (codeAny_call_builtin (R := wants (fun r s₂ => r = .none ∧ ∃ h' tk, s₂ = { s with heap := h', toks := tk } ∧
          h'.SetOf (strKind prog w) s.heap.objs.size (fun k' => decide (k' ∈ metT ws)) (metT ws).length ∧
          (∀ b o, b < s.heap.objs.size → s.heap.get? b = some o → h'.get? b = some o)) E) F.called_set.init.plain F.entry_set_init (check_set_init_1 hT ?_)) fun r₂ s₂ hr₂ => ?_
      · obtain ⟨ol, hol, hcl, nl, hdl⟩ := hl
        obtain ⟨ocls, odict, odata, oslots⟩ := ol
        simp only at hcl hdl
        subst hcl; subst hdl
        have hol' : (s.heap.push { cls := .type "set", dict := none, data := .set #[] 0 (.fresh 0 0 led) }).get? l = some { cls := .type "tuple", dict := odict, data := .seq items nl, slots := oslots } := Heap.get?_push_of_some _ hol
        have hsls := sub_tup_set
        have hslf := sub_tup_frozenset
        have hne : (Value.type "tuple" == Value.type "dict") = false := by decide
        have hl1 : (s.heap.push { cls := .type "set", dict := none, data := .set #[] 0 (.fresh 0 0 led) }).IsTuple l items := ⟨_, hol', rfl, nl, rfl⟩
        unfold Builtin.«set.__init__» noKeywords Builtin.Frozenset.updateFrom
        generalize hPI : pyIter = PI
        wp_walk
        subst hPI
        refine wpAny_pyIter_tuple hl1 ?_
        refine wpAny_bind (wpAny_runValue ?_)
        have hlS : l < s.heap.objs.size := Heap.lt_size hol
        have hh3 : A.in1.in1.in1.handled = none := by simp [hh]
        have hneI : l ≠ (s.heap.push { cls := .type "set", dict := none, data := .set #[] 0 (.fresh 0 0 led) }).objs.size := by
          rw [Heap.size_push]; exact Nat.ne_of_lt (Nat.lt_succ_of_lt hlS)
        have hSf : s.heap.objs.size ∉ [(s.heap.push { cls := .type "set", dict := none, data := .set #[] 0 (.fresh 0 0 led) }).objs.size, l] := by
          rw [Heap.size_push]; simp only [List.mem_cons, List.mem_singleton, List.not_mem_nil, or_false, not_or]
          exact ⟨Nat.ne_of_lt (Nat.lt_succ_self _), Nat.ne_of_gt hlS⟩
        refine set_loopT ((Walks.tuple hh3 _ l hneI items).toS) s.heap.objs.size
          hSf ws hn hi hb (items.size - 0) 0 _ (by omega) (Nat.zero_le _)
          ⟨⟨_, Heap.get?_push_size _ rfl, rfl, rfl⟩, ⟨_, Heap.get?_push_of_some _ hol', rfl, nl, rfl⟩⟩ ?hS0 ?hR
        case hS0 =>
          have hget : ((s.heap.push { cls := .type "set", dict := none, data := .set #[] 0 (.fresh 0 0 led) }).push { cls := .type "tuple_iterator", data := .fields #[.ref l, .int 0 0] }).get? s.heap.objs.size
              = some { cls := .type "set", dict := none, data := .set #[] 0 (.fresh 0 0 led) } := Heap.get?_push_of_some _ hS
          exact SetOf_congr ((setObjOf_fresh (knd := strKind prog w) led).setOf hget (by unfold scanBound; omega)) (fun _ => rfl) rfl
        case hR =>
          intro s' hm hS'
          obtain ⟨h', g', d', tk', os'⟩ := s'
          have eg : g' = s.gens := hm.gens
          have ed : d' = s.drawn := hm.drawn
          have eo : os' = s.os := hm.os
          subst eg; subst ed; subst eo
          show wpAny _ _ _ _ _ _
          refine wpAny_pure ?_
          show wpAny _ _ (ret Value.none) _ _ _
          refine wpAny_pure ⟨rfl, h', tk', rfl, hS', fun b o hb e => ?_⟩
          have hb1 : b ≠ s.heap.objs.size := Nat.ne_of_lt hb
          have hb2 : b ≠ (s.heap.push { cls := .type "set", dict := none, data := .set #[] 0 (.fresh 0 0 led) }).objs.size := by
            rw [Heap.size_push]; exact Nat.ne_of_lt (Nat.lt_succ_of_lt hb)
          exact hm.heap b o (by simp only [List.mem_cons, List.mem_singleton, List.not_mem_nil, or_false, not_or]; exact ⟨hb1, hb2⟩) (Heap.get?_push_of_some _ (Heap.get?_push_of_some _ e))
      · cases r₂ with
        | error e => exact hr₂
        | ok fl₂ =>
          cases fl₂ with
          | ret r =>
            obtain ⟨rfl, h', tk, rfl, hS', hk'⟩ := hr₂
            repeat (any_goals (first | assumption | wp_step))
            exact h _ _ hS' hk'
          | _ => exact hr₂.elim
    | _ => exact hr.elim
end
/-- a set of n unlike texts -/
def SetT (P : Program) (w : World) (a : Addr) (S : Str → Bool) (n : Nat) : HO := .ext fun h => h.SetOf (strKind P w) a S n
section
variable {X : Cx}
theorem call_set_tup (hc : X.calm = true) : CallR X (.type "set") (fun xs H Q => ∃ (p : Addr) (ws : List Str), xs = [.ref p] ∧ SqT X.K H p (ws.map V.str) ∧ ws.length ≤ 1000 ∧ ∀ l, H l = none → Q (.ref l) (upd H l (SetT X.prog X.w l (fun k => decide (k ∈ metT ws)) (metT ws).length))) := by
  intro pins s σ H xs us Q I r h
  obtain ⟨p, ws, rfl, hq, hw, q⟩ := h
  obtain ⟨u, rfl, ru⟩ := vals1 r
  cases ru
  obtain ⟨its, rv, pl, hz⟩ := I.tuple hq
  have hl := rv.length
  rw [List.length_map] at hl
  refine set_tupT (ws := ws) (I.ok.hd hc) pl (by rw [List.size_toArray]; omega) (fun i v hv => ?_) (by rw [List.size_toArray]; unfold scanBound; omega) (fun h' tk hS k => ?_)
  · have hv' : its[i]? = some v := by simpa using hv
    obtain ⟨x, hx, rx⟩ := vals_at rv (j := i) (by rw [List.size_toArray]; exact (List.getElem?_eq_some_iff.mp hv').1)
    obtain ⟨z, hz', rfl⟩ := map_get hx
    obtain ⟨t, e⟩ := rx
    refine ⟨z, t, ?_, hz'⟩
    rw [← e]
    exact (List.getElem?_eq_some_iff.mp hv').2.symm.trans (by simp)
  · refine ⟨.ref s.heap.objs.size, _, I.laid (t' := tk) (a := s.heap.objs.size) (o := SetT X.prog X.w s.heap.objs.size (fun k => decide (k ∈ metT ws)) (metT ws).length) (fun b o e => k b o (Heap.lt_size e) e) (Nat.le_refl _) ?_, rfl, q _ (I.hok.fresh (Nat.le_refl _))⟩
    obtain ⟨o, es, ep, t, ho, rest⟩ := hS
    refine ⟨⟨o, es, ep, t, ho, rest⟩, ⟨o, ho⟩, fun h1 h2 ⟨o1, es1, ep1, t1, ho1, rest1⟩ hk => ⟨o1, es1, ep1, t1, hk _ ho1, rest1⟩⟩
theorem call_len_setT : CallR X (.builtin "len") (fun xs H Q => ∃ p S n, xs = [.ref p] ∧ H p = some (SetT X.prog X.w p S n) ∧ Q (.int (n : Nat)) H) := by
  intro pins s σ H xs us Q I r h
  obtain ⟨p, S, n, rfl, hp, q⟩ := h
  obtain ⟨u, rfl, ru⟩ := vals1 r
  cases ru
  obtain ⟨⟨o, es, ep, t, ho, hex, hd, _, _, hb, hf, e⟩, _⟩ := (show ObjOk X.prog X.w H s.heap p (SetT X.prog X.w p S n) from I.hok p _ hp)
  subst e
  exact call_len_set ho hex hd hf (by unfold scanBound at hb; omega) ⟨.int es.size, H, I.tok _, ⟨_, rfl⟩, q⟩
end
end L2
namespace L2
open PySem PySem.Spec PyProof.Rows PySem.Calls
theorem vals_strs : ∀ (ws : List Str) (tk : Nat), Vals (ws.map V.str) (strsFrom tk ws)
  | [], _ => .nil
  | x :: r, tk => .cons ⟨tk, rfl⟩ (vals_strs r (tk + 1))
section
variable {X : Cx}
theorem mt_split : MtM X "str.split" (fun x vs H Q => ∃ z y, x = .str z ∧ vs = [.str y] ∧ 0 < y.length ∧ z.length ≤ 100000 ∧ ∀ l, H l = none → Q (.ref l) (upd H l (.lst ((Txt.split z y).map V.str)))) := by
  intro pins s σ H x vs v us Q I rx rv h
  obtain ⟨z, y, rfl, rfl, hy, hz, q⟩ := h
  obtain ⟨t, rfl⟩ := rx
  obtain ⟨u, rfl, ⟨t', rfl⟩⟩ := rv.one
  have hy' : (y.length == 0) = false := by rw [beq_eq_false_iff_ne]; omega
  have hle := split_le z y
  have hsz : (Txt.split z y).length ≤ sizeLine := by rw [sizeLine_eq]; omega
  have hzs : z.length ≤ sizeLine := by rw [sizeLine_eq]; omega
  have q := q _ (I.hok.fresh (Nat.le_refl _))
  have fin : ∀ (its : List Value) (tk : Nat), Vals ((Txt.split z y).map V.str) its → EP X pins σ Q (.ref s.heap.objs.size) { s with toks := tk, heap := s.heap.push { cls := .type "list", data := .seq its.toArray } } := fun its tk r =>
    ⟨.ref s.heap.objs.size, _, I.laid (t' := tk) (a := s.heap.objs.size) (fun b o e => Heap.get?_push_of_some _ e) (Nat.le_refl _) (show ObjOk X.prog X.w _ _ _ (.lst ((Txt.split z y).map V.str)) from ⟨by rw [List.length_map]; exact hsz, its, _, r, Heap.get?_push_size _ rfl⟩), rfl, q⟩
  cases h1 : (decide (z.length < y.length) || decide (Builtin.Str.strKind z < Builtin.Str.strKind y)) with
  | true =>
    have e : Txt.split z y = [z] := if_pos h1
    exact call_meets PySem.F.slot_str_split (typeIs_str _ _ _) PySem.F.entry_str_split (PySem.F.args_str_split_2 _ _) (meets_str_split_cannot_occur z y t t' h1) (fin [.str z t] _ (by rw [e]; exact .cons ⟨t, rfl⟩ .nil))
  | false =>
    cases hf : (Builtin.Str.occurrences z y 0 z.length (z.length + 1)).isEmpty with
    | true =>
      have e : Txt.split z y = [z] := (if_neg (ne_true_of_eq_false h1)).trans (if_pos hf)
      exact call_meets PySem.F.slot_str_split (typeIs_str _ _ _) PySem.F.entry_str_split (PySem.F.args_str_split_2 _ _) (meets_str_split_not_found z y t t' h1 hy' hf) (fin [.str z t] _ (by rw [e]; exact .cons ⟨t, rfl⟩ .nil))
    | false =>
      have e : Txt.split z y = Builtin.Str.partsBetween z (Builtin.Str.occurrences z y 0 z.length (z.length + 1)) y.length := (if_neg (ne_true_of_eq_false h1)).trans (if_neg (ne_true_of_eq_false hf))
      refine call_meets PySem.F.slot_str_split (typeIs_str _ _ _) PySem.F.entry_str_split (PySem.F.args_str_split_2 _ _) (meets_str_split_sep z y t t' h1 hy' hf hzs (by rw [← e]; exact hsz)) (fin _ _ ?_)
      rw [e]; exact vals_strs _ _
end
theorem comp_tup {K : PySem.W.Frag} {a : Addr} {xs : List V} {te : TE} {σ : St} {H : Hp} {Q : VK} (hz : xs.length ≤ sizeLine) (W : Nat → List V → Hp → Prop) (h0 : W 0 [] H) (hq : ∀ i ys H, W i ys H → SqT K H a xs)
    (hs : ∀ i x ys H, xs[i]? = some x → ys.length = i → W i ys H → te (some x :: σ) H fun v H' => W (i + 1) (ys ++ [v]) H')
    (hd : ∀ ys H, ys.length = xs.length → W xs.length ys H → ∀ p, H p = none → Q (.ref p) (upd H p (.lst ys))) : CompR (Itt K a) te σ H Q := by
  refine ⟨xs.length, W, hz, h0, fun i ys H hi hl hw => ?_⟩
  have q := hq i ys H hw
  by_cases hlt : i < xs.length
  · refine .inr ⟨⟨xs, xs[i], q, by simp [hlt]⟩, hlt, fun v H' y => ?_⟩
    obtain ⟨e, y⟩ := y
    subst e
    exact hs i v ys _ (y xs q) hl hw
  · have e : i = xs.length := by omega
    subst e
    exact .inl ⟨⟨xs, q, Nat.le_refl _⟩, hd ys H hl hw⟩
/-! parts between blanks -/
/-- the parts of a text are those blank-free texts that it joins -/
theorem joinL_inj : ∀ {a b : List (List Nat)}, a ≠ [] → b ≠ [] → (∀ p ∈ a, 32 ∉ p) → (∀ p ∈ b, 32 ∉ p) → joinL [32] a = joinL [32] b → a = b := by
  have cut : ∀ {x y u v : List Nat}, 32 ∉ x → 32 ∉ y → x ++ 32 :: u = y ++ 32 :: v → x = y ∧ u = v := by
    intro x
    induction x with
    | nil =>
      intro y u v hx hy e
      cases y with
      | nil => exact ⟨rfl, (List.cons.inj e).2⟩
      | cons b r => exact absurd (by rw [show b = 32 from (List.cons.inj e).1.symm]; simp) hy
    | cons a x ih =>
      intro y u v hx hy e
      cases y with
      | nil => exact absurd (by rw [show a = 32 from (List.cons.inj e).1]; simp) hx
      | cons b r =>
        have h := List.cons.inj e
        obtain ⟨h1, h2⟩ := ih (fun z => hx (List.mem_cons_of_mem _ z)) (fun z => hy (List.mem_cons_of_mem _ z)) h.2
        exact ⟨by rw [h.1, h1], h2⟩
  intro a
  induction a with
  | nil => intro b h; exact absurd rfl h
  | cons x r ih =>
    intro b _ hb ha hbb e
    cases b with
    | nil => exact absurd rfl hb
    | cons y s =>
      have fx := ha x (by simp)
      have fy := hbb y (by simp)
      cases r with
      | nil =>
        cases s with
        | nil => exact congrArg (· :: []) e
        | cons y2 s =>
          have e' : x = y ++ [32] ++ joinL [32] (y2 :: s) := e
          exact absurd (by rw [e']; simp) fx
      | cons x2 r =>
        cases s with
        | nil =>
          have e' : x ++ [32] ++ joinL [32] (x2 :: r) = y := e
          exact absurd (by rw [← e']; simp) fy
        | cons y2 s =>
          have e' : x ++ [32] ++ joinL [32] (x2 :: r) = y ++ [32] ++ joinL [32] (y2 :: s) := e
          rw [List.append_assoc, List.append_assoc] at e'
          obtain ⟨h1, h2⟩ := cut fx fy e'
          have := ih (b := y2 :: s) (by simp) (by simp) (fun p hp => ha p (List.mem_cons_of_mem _ hp)) (fun p hp => hbb p (List.mem_cons_of_mem _ hp)) h2
          rw [h1, this]
def splitL (l : List Nat) : List (List Nat) := (Txt.split (S l) (S [32])).map cd
theorem splitL_free {l p : List Nat} (h : p ∈ splitL l) : 32 ∉ p := by
  obtain ⟨z, hz, rfl⟩ := List.mem_map.mp h
  exact StrLaws.split_free (S l) 32 z hz
theorem splitL_ne (l : List Nat) : splitL l ≠ [] := by
  intro e
  have := split_pos (S l) (S [32])
  have e2 := congrArg List.length e
  unfold splitL at e2
  rw [List.length_map] at e2
  rw [e2] at this; cases this
theorem splitL_join (l : List Nat) : joinL [32] (splitL l) = l := by
  have e := StrLaws.join_split (S l) (S [32])
  rw [← StrLaws.glued_eq_join] at e
  have e2 := joinS_is (S [32]) (Txt.split (S l) (S [32]))
  rw [show joinS (S [32]) (Txt.split (S l) (S [32])) = S l from e] at e2
  exact (S_inj e2).symm
theorem splitL_of {ws : List (List Nat)} (h : ws ≠ []) (hf : ∀ p ∈ ws, 32 ∉ p) : splitL (joinL [32] ws) = ws :=
  joinL_inj (splitL_ne _) h (fun _ hp => splitL_free hp) hf (splitL_join _)
theorem split_is (z : Str) : Txt.split z (S [32]) = (splitL (cd z)).map S := by
  unfold splitL
  rw [List.map_map, S_cd]
  have : (S ∘ cd) = id := funext fun x => S_cd x
  rw [this, List.map_id]
theorem splitL_one {l : List Nat} (h : 32 ∉ l) : splitL l = [l] := by
  have := splitL_of (ws := [l]) (by simp) (by simpa using h)
  exact this
end L2
namespace HT
open PySem PySem.Spec PyProof.Rows PySem.Calls
section
variable {prog : Program} {w : World} {A : Around} {E : Value → Shared → Prop} {s : Shared}
theorem getItem_tuple_whole {t sl : Addr} {items : Array Value} {vl vu : Value} {lo hi : Option Int} {Q : Value → Shared → Prop} (ht : IsTup s.heap t items) (hs : s.heap.IsSliceOf sl vl vu .none) (pl : IsPart vl lo) (pu : IsPart vu hi)
    (hw : sIx items.size 0 lo = 0 ∧ sIx items.size items.size hi = items.size) (h : Q (.ref t) s) : wpAny (model prog w) A (getItem (.ref t) (.ref sl)) Q E s := by
  obtain ⟨os, hos, hcs, hds⟩ := id hs
  have hTs : s.TypeIs (.ref sl) "slice" := ⟨os, hos, hcs⟩
  unfold getItem
  try with_reducible refine wpAny_holding ?_
  first | refine wpAny_bind (wpAny_pure ?_) | skip
  refine wpAny_bind (wpAny_sequenceKey ht.typeIs (by decide) ?_)
  refine wpAny_bind (wpAny_callSpecial?_slot (name := Str.ofString "__getitem__") ht.typeIs PyProof.Rows.slot_tuple_getitem
    (wpAny_call_entry PyProof.Rows.slot_tuple_getitem ht.typeIs entry_tuple_getitem ?_ (args_tuple_getitem _ _)))
  show wpAny _ _ (Builtin.Tuple.tupleItemsOf (.ref t) >>= _) _ _ s
  refine wpAny_bind (tupleItemsOf_ ht ?_)
  refine wpAny_bind (wpAny_typeOf hTs ?_)
  rw [if_pos (by decide)]
  refine wpAny_bind (sliceApplied_gen hs pl pu ?_)
  have hyes : ((((sIx items.size 0 lo : Nat) : Int) == 0 && (1 : Int) == 1 && (sIx items.size items.size hi - sIx items.size 0 lo) == items.size) = true) := by
    rw [hw.1, hw.2]; simp
  show wpAny _ _ (if (((sIx items.size 0 lo : Nat) : Int) == 0 && (1 : Int) == 1 && (sIx items.size items.size hi - sIx items.size 0 lo) == items.size) = true then _ else _) _ _ s
  rw [if_pos hyes]
  unfold Builtin.Tuple.tupleIsExact
  refine wpAny_bind (wpAny_bind (wpAny_typeOf ht.typeIs (wpAny_pure ?_)))
  rw [if_pos (by decide)]
  refine wpAny_bind (wpAny_rule ?_)
  first
    | exact wpAny_pure ⟨_, rfl, wpAny_pure h⟩
    | exact wpAny_bind (wpAny_pure (wpAny_pure ⟨_, rfl, wpAny_pure h⟩))
    | exact wpAny_bind (wpAny_pure (wpAny_bind (wpAny_pure (wpAny_pure ⟨_, rfl, wpAny_pure h⟩))))
end
end HT
namespace L2
open PySem PySem.Spec PyProof.Rows PySem.Calls
section
variable {X : Cx}
/-- t[lo:hi]: a new tuple, or t itself -/
theorem sl_tup2 : SlR X (fun x lo hi H Q => ∃ a xs, x = .ref a ∧ SqT X.K H a xs ∧ ∀ p H', Same H H' → SqT X.K H' p (cutV xs lo hi) → Q (.ref p) H') := by
  intro pins s σ H x v vl vu lo hi sl Q I rx hs pl pu h
  obtain ⟨a, xs, rfl, hx, q⟩ := h
  by_cases hw : HT.sIx xs.length 0 lo = 0 ∧ HT.sIx xs.length xs.length hi = xs.length
  · cases rx
    obtain ⟨its, r, ht, hz⟩ := I.tuple hx
    have hlen : its.toArray.size = xs.length := by rw [List.size_toArray]; exact r.length.symm
    refine ⟨"tuple", _, PyProof.Rows.slot_tuple_getitem.lookup, ht.typeIs, ?_⟩
    refine HT.getItem_tuple_whole ht hs pl pu (by rw [hlen]; exact hw) ⟨.ref a, H, I, rfl, q a H (Same.refl _) ?_⟩
    have e : cutV xs lo hi = xs := by unfold cutV; rw [hw.1, hw.2, List.drop_zero, Nat.sub_zero, List.take_length]
    rw [e]; exact hx
  · exact sl_tup pins s σ H (.ref a) v vl vu lo hi sl Q I rx hs pl pu ⟨a, xs, rfl, hx, hw, fun p hp => q p _ (same_new hp _) (SqT.of upd_same)⟩
end
end L2
/-! where a token has been made: replace; defs that ask for it -/
namespace L2
open PySem PySem.Spec PyProof.Rows PySem.Calls
def PEp (X : Cx) (e : Expr) (t : TE) : Prop :=
  ∀ (pins : List (Addr × Obj)) (s : Shared) (σ : St) (H : Hp) (Q : VK), Inv X pins σ H s → 1 ≤ s.toks → t σ H Q → wpAny (model X.prog X.w) X.A (eval e X.env) (EP X pins σ Q) X.xe s
def PSp (X : Cx) (st : Stmt) (t : TS) : Prop :=
  ∀ (pins : List (Addr × Obj)) (s : Shared) (σ : St) (H : Hp) (D : Ends), Inv X pins σ H s → 1 ≤ s.toks → t D σ H → wpAny (model X.prog X.w) X.A (exec st X.env) (SP X pins D) X.xe s
def PSsp (X : Cx) (st : List Stmt) (t : TS) : Prop :=
  ∀ (pins : List (Addr × Obj)) (s : Shared) (σ : St) (H : Hp) (D : Ends), Inv X pins σ H s → 1 ≤ s.toks → t D σ H → wpAny (model X.prog X.w) X.A (execs st X.env) (SP X pins D) X.xe s
/-- weaken the end; a token that was made stays made -/
theorem thp {α : Type} {t : Sem α} {Q Q' : α → Shared → Prop} {M : Model} {A : Around} {E : Value → Shared → Prop} {s : Shared} {n : Nat} (hn : n ≤ s.toks) (h : wpAny M A t Q E s) (hQ : ∀ a s, n ≤ s.toks → Q a s → Q' a s) : wpAny M A t Q' E s := wpAny_mono (wpAny_toks_of hn h) (fun a s z => hQ a s z.1 z.2) fun _ _ z => z.2
section
variable {X : Cx} {e : Expr} {te : TE} {pos : Pos} {st : Stmt} {rest : List Stmt} {t u : TS}
theorem PE.made (h : PE X e te) : PEp X e te := fun pins s σ H Q I _ q => h pins s σ H Q I q
theorem psp_ret (he : PEp X e te) : PSp X (.Return (some e) pos) (tRet te) := by
  intro pins s σ H D I hn h
  exact wpAny_Return_some (thn (he pins s σ H _ I hn h) fun v s1 ⟨x, H1, I1, r1, q1⟩ => ⟨x, σ, H1, I1, r1, q1⟩)
theorem psp_set {i : Nat} {x : Str} {pos' : Pos} (hN : X.N.Nodup) (hi : X.N[i]? = some x) (hx : Loc X.env.scope x) (he : PEp X e te) (hs : swapsWith e (some (.Name x pos')) pos.line X.env = pure false := by rfl) (hf : X.fn x = true ∨ X.env.scope.names.lookup x = some .local := by first | exact .inl rfl | exact .inr rfl | assumption) :
    PSp X (.Assign [.Name x pos'] e pos) (tAsg te (gName i)) := by
  intro pins s σ H D I hn h
  refine wpAny_Assign_Name (thn (he pins s σ H _ I hn h) fun v s1 ⟨y, H1, I1, r1, q1⟩ => ?_) hs
  exact store_ok I1 hN hi hx r1 (fun s2 I2 => ⟨_, H1, I2, q1⟩) hf
theorem pssp_cons (h1 : PSp X st t) (h2 : PSs X rest u) : PSsp X (st :: rest) (tSeq t u) := by
  intro pins s σ H D I hn h
  refine wpAny_execs_cons (thn (h1 pins s σ H { D with nx := u D } I hn h) fun f s1 q => ?_)
  cases f with
  | next =>
    obtain ⟨σ', H', I', q⟩ := q
    exact h2 pins s1 σ' H' D I' q
  | ret v => exact q
  | brk => exact q
  | cont => exact q
theorem pssp_one (h1 : PSp X st t) : PSsp X [st] t := by
  intro pins s σ H D I hn h
  refine wpAny_execs_cons (thn (h1 pins s σ H D I hn h) fun f s1 q => ?_)
  cases f with
  | next => exact wpAny_execs_nil q
  | ret v => exact q
  | brk => exact q
  | cont => exact q
/-- o.replace("..", ".."), two unlike texts -/
theorem pep_replace {o : Expr} {to : TE} {a b : Str} {ka kb : Nat} {apos cpos pa pb : Pos} (ho : PEp X o to) (hab : (a == b) = false := by decide +kernel)
    (hbase : attributeBase o "replace" X.env (eval o X.env) = eval o X.env := by rfl)
    (hfew : ((backTo cpos (starEach [.Constant (.str a) ka pa, .Constant (.str b) kb pb] X.env)).all (fun x => !x.1) && (backToKw cpos (keywordEach [] X.env)).all (fun x => x.1.isSome)
      && decide ([Expr.Constant (.str a) ka pa, .Constant (.str b) kb pb].length + ([] : List Keyword).length + (if ([] : List Keyword).isEmpty then 0 else 1) < 30)) = true := by rfl)
    (hline : (apos.endLine == cpos.line) = true := by rfl)
    (hs : backTo cpos (starEach [.Constant (.str a) ka pa, .Constant (.str b) kb pb] X.env) = [(false, eval (.Constant (.str a) ka pa) X.env), (false, eval (.Constant (.str b) kb pb) X.env)] := by rfl) :
    PEp X (.Call (.Attribute o "replace" apos) [.Constant (.str a) ka pa, .Constant (.str b) kb pb] [] cpos) (fun σ H Q => to σ H fun v H1 => ∃ z, v = .str z ∧ z.length + (z.length + 1) * b.length ≤ 16777216 ∧ Q (.str (Txt.replace z a b)) H1) := by
  intro pins s σ H Q I hn h
  refine wpAny_Call_method_late hbase hfew hline rfl (thp hn (ho pins s σ H _ I hn h) fun v s1 hn1 ⟨x, H1, I1, r1, z, ex, hz, q⟩ => ?_)
  subst ex
  obtain ⟨tk, rfl⟩ := r1
  refine ⟨"str", _, PySem.F.plainAttrs_str, PySem.F.slot_str_replace, PySem.F.type_str_replace, typeIs_str _ _ _, (fun _ e => nomatch e), ?_⟩
  rw [hs]
  refine Calls.callWith_builtin rfl (Calls.evalArgs_plain (Calls.spliced_cons (Calls.Constant_str (Calls.spliced_cons (Calls.Constant_str (Calls.spliced_nil ?_))))))
  refine SC.replace (by show s1.toks ≠ 0; omega) (by show s1.toks + 1 ≠ 0; omega) (by show s1.toks ≠ s1.toks + 1; omega) hab hz ?_
  intro t' k
  exact ⟨.str _, H1, I1.tok _, ⟨_, rfl⟩, q⟩
end
/-- as FnOk, where a token has been made -/
structure FnOkP (P : Program) (w : World) (K : PySem.W.Frag) (mg : Str → Option Value) (base : Heap) (CX : CXT) (k : Nat) (f : Addr) (fd : FuncData) (ps : List Str) (sp : Sp) : Prop where
  len : ∀ vs H Q E, sp vs H Q E → vs.length = ps.length
  run : ∀ (A : Around) (outer : List Env) (s : Shared) (H : Hp) (args : Args) (us : List Value) (vs : List V) (Q : VK) (E : XK), Room k A → Env0 P w K mg base A outer s H → 1 ≤ s.toks → BindsTo s fd args (ps.zip us) → Vals vs us → sp vs H Q E →
    codeAny (model P w) A (.call (.ref f) args) (CR CX outer P w H s Q E) s
theorem FnOkP.mono {P : Program} {w : World} {K : PySem.W.Frag} {mg : Str → Option Value} {base : Heap} {CX : CXT} {j k : Nat} {f : Addr} {fd : FuncData} {ps : List Str} {sp : Sp} (F : FnOkP P w K mg base CX j f fd ps sp) (h : j ≤ k) :
    FnOkP P w K mg base CX k f fd ps sp := ⟨F.len, fun A outer s H args us vs Q E hr => F.run A outer s H args us vs Q E (hr.mono h)⟩
theorem fn_ofP {CX : CXT} {P : Program} {w : World} {K : PySem.W.Frag} {mg : Str → Option Value} {base : Heap} {k : Nat} {f : Addr} {name qual : Str} {params : Arguments} {body : List Stmt} {scope : Scope} {dV kV doc pm cdv ct oc : Value} {an od : Option Addr}
    {osl : Array (Option Value)} {N ps : List Str} {sp : Sp} (lk : K.lookup f = some ⟨oc, od, .func (PySem.W.fnOf name qual params body scope dV kV doc pm an cdv ct), osl⟩) (hcd : PySem.W.codeIn K cdv qual = true) (S : FnScope N ps scope)
    (len : ∀ vs H Q E, sp vs H Q E → vs.length = ps.length)
    (hbody : ∀ (A : Around) (outer : List Env) (s : Shared) (H : Hp) (vs : List V) (Q : VK) (E : XK), Room k (A.deeper (envOfC qual scope s.heap.objs.size f cdv)) → sp vs H Q E →
      ∃ t, PSsp (cxOf CX P w K mg base N qual scope f cdv A outer s H E) body t ∧ t { nx := fun _ H' => Q .non H', rt := Q } (start N vs) H) :
    FnOkP P w K mg base CX (k + 1) f (PySem.W.fnOf name qual params body scope dV kV doc pm an cdv ct) ps sp := by
  refine ⟨len, fun A outer s H args us vs Q E hr e0 hn hb r hsp => ?_⟩
  have hl := len _ _ _ _ hsp
  have KX : K.In s.heap := e0.mod.kin.keeps fun b o e => (e0.bs b o e).1
  have lim : s.heap.NoLimit := e0.mod.nolimit.keeps fun b o e => (e0.bs b o e).1
  have hkind : ∀ y ∈ ps.zip us, scope.names.lookup y.1 = some .local ∨ (scope.names.lookup y.1 = some .cell ∧ ((cellsFrom (s.heap.objs.size + 1) scope.names []).lookup y.1).isSome = true) := fun ⟨n, v⟩ hy => by
    rcases S.par n (List.of_mem_zip hy).1 with q | q
    · exact .inl q
    · exact .inr ⟨q, PySem.W.cellsFrom_some _ _ _ (.inl q)⟩
  refine codeAny_call_function hr.depth (KX _ _ lk) rfl S.co S.gen rfl (PySem.W.codeRec_of KX hcd) (hb _ _ _ _ ?_)
  refine wpAny_with_toks hn (wpAny_newFunctionEnv_cells S.kind hkind fun env he s1 x hn1 => ?_)
  subst he
  refine ⟨lim.keeps x.toInCall.keep, codeAny_func ?_⟩
  obtain ⟨t, ht, hq⟩ := hbody A outer s H vs Q E (hr.deeper _) hsp
  have I : Inv (cxOf CX P w K mg base N qual scope f cdv A outer s H E) [] (start N vs) H s1 := inv_start S hr.hd e0 hl r x
  refine wpAny_mono (ht [] s1 (start N vs) H _ I hn1 hq) (fun fl s' hs => ?_) fun e s' hs => hs
  have fin : ∀ {σ' : St} {H' : Hp} {v : V} {u : Value}, Inv (cxOf CX P w K mg base N qual scope f cdv A outer s H E) [] σ' H' s' → RelV v u → Q v H' → CE outer P w H s Q u s' :=
    fun {σ' H' v u} J rv q => ⟨v, H', J.os, J.bare, J.base, J.hok, rv, q⟩
  cases fl with
  | ret u =>
    obtain ⟨v, σ', H', J, rv, q⟩ := hs
    exact fin J rv q
  | next =>
    obtain ⟨σ', H', J, q⟩ := hs
    exact fin (v := V.non) (u := Value.none) J rfl q
  | brk =>
    obtain ⟨_, _, _, q⟩ := hs
    exact False.elim q
  | cont =>
    obtain ⟨_, _, _, q⟩ := hs
    exact False.elim q
theorem PSsp.nox {X : Cx} {b : List Stmt} {t : TS} (h : PSsp X.nox b t) : PSsp X b t := fun pins s σ H D I hn hw =>
  wpAny_mono (h pins s σ H D (I.wish _) hn hw) (fun _ _ q => q.unwish) fun _ _ z => False.elim z
section
variable {P : Program} {w : World} {K : PySem.W.Frag} {mg : Str → Option Value} {base : Heap}
theorem Fun.okP {x qual : Str} {st : Stmt} {f : Addr} {fd : FuncData} {N ps : List Str} {k : Nat} {sp : Sp} (F : Fun K x qual st f fd) (S : FnScope N ps (defScope st)) (len : ∀ vs H Q E, sp vs H Q E → vs.length = ps.length)
    (hbody : ∀ (cdv : Value) (A : Around) (outer : List Env) (s : Shared) (H : Hp) (vs : List V) (Q : VK) (E : XK), Room k (A.deeper (envOfC qual (defScope st) s.heap.objs.size f cdv)) → sp vs H Q E →
      ∃ t, PSsp (cxOf CX0 P w K mg base N qual (defScope st) f cdv A outer s H E).nox (defBody st) t ∧ t { nx := fun _ H' => Q .non H', rt := Q } (start N vs) H) : FnOkP P w K mg base CX0 (k + 1) f fd ps sp := by
  obtain ⟨oc, od, kV, doc, pm, an, cdv, ct, osl, rfl, lk, hcd⟩ := F.ex
  refine fn_ofP lk hcd S len fun A outer s H vs Q E hr hsp => ?_
  obtain ⟨t, h, q⟩ := hbody cdv A outer s H vs Q E hr hsp
  exact ⟨t, h.nox, q⟩
/-- a method m of the class at C, where a token has been made -/
structure MethJP (P : Program) (w : World) (K : PySem.W.Frag) (mg : Str → Option Value) (base : Heap) (CX : CXT) (k : Nat) (C : Addr) (m : Str) where
  f : Addr
  fd : FuncData
  ps : List Str
  sp : Sp
  ds : List Value
  dvs : List V
  c : Cls K C
  hm : Meth K C m f
  F : FnOkP P w K mg base CX k f fd ps sp
  hb : Binds K fd ps ds
  hd : Vals dvs ds
end
section
variable {X : Cx} {CX : CXT} {k : Nat} {E : XK} {m x : Str} {p pos apos : Pos} {e o : Expr} {es : List Expr} {ta te : TE} {t : TA} {f : Addr} {fd : FuncData} {ps : List Str} {ds : List Value} {dvs : List V} {sp : Sp}
theorem run_fnP {pins : List (Addr × Obj)} {σ : St} {H : Hp} {s : Shared} {Q : VK} {us : List Value} {vs : List V} (F : FnOkP X.prog X.w X.K X.mg X.base CX k f fd ps sp) (hr : Room k X.A) (hb : Binds X.K fd ps ds) (hd : Vals dvs ds) (hx : Passes CX X E)
    (I : Inv X pins σ H s) (hn : 1 ≤ s.toks) (r : Vals vs us) (h : sp (vs ++ dvs) H Q E) : wpAny (model X.prog X.w) X.A (call (.ref f) us) (EP X pins σ Q) X.xe s := by
  have r2 : Vals (vs ++ dvs) (us ++ ds) := r.append hd
  have hl : (us ++ ds).length = ps.length := by rw [← r2.length]; exact F.len _ _ _ _ h
  refine wpAny_call (codeAny_mono (F.run X.A X.stack s H ⟨us, []⟩ (us ++ ds) (vs ++ dvs) Q E hr I.env0 hn (hb s us I.kIn hl) r2 h) fun r s' hq => ?_)
  cases r with
  | error e => exact hx pins σ H s e s' I hq
  | ok fl =>
    cases fl with
    | ret u => exact I.after hq
    | next => exact False.elim hq
    | brk => exact False.elim hq
    | cont => exact False.elim hq
theorem pep_call (F : FnOkP X.prog X.w X.K X.mg X.base CX k f fd ps sp) (hr : Room k X.A) (hg : Gl X x) (hm : X.mg x = some (.ref f)) (hk : PySem.W.keepIn X.K (.ref f) = true) (hb : Binds X.K fd ps ds) (hd : Vals dvs ds) (hx : Passes CX X E)
    (ha : PA X (e :: es) t) (hdb : (x == ("__debug__" : Str)) = false := by decide) (he : starEach (e :: es) X.env = (false, eval e X.env) :: starEach es X.env := by rfl) (hpl : (backTo pos (starEach es X.env)).any (·.1) = false := by rfl) :
    PEp X (.Call (.Name x p) (e :: es) [] pos) (tCall sp dvs E t) := by
  intro pins s σ H Q I hn h
  refine wpAny_Call_Name_kw (ld_glob I hg hm ?_ hdb)
  refine PySem.W.callWith_K (h₀ := X.base) I.ok.mod.kin hk (thp hn (ha pos pins s σ H _ I h) fun us s1 hn1 ⟨vs, H1, I1, r, q⟩ => ⟨I1.kIn, ?_⟩) he hpl
  exact run_fnP F hr hb hd hx I1 hn1 r q
/-- an expression that makes a token -/
def PEm (X : Cx) (e : Expr) (t : TE) : Prop :=
  ∀ (pins : List (Addr × Obj)) (s : Shared) (σ : St) (H : Hp) (Q : VK), Inv X pins σ H s → t σ H Q → wpAny (model X.prog X.w) X.A (eval e X.env) (fun u s' => 1 ≤ s'.toks ∧ EP X pins σ Q u s') X.xe s
/-- o.strip("..") -/
theorem pem_strip {to : TE} {a : Str} {ka : Nat} {cpos pa : Pos} (ho : PE X o to)
    (hbase : attributeBase o "strip" X.env (eval o X.env) = eval o X.env := by rfl)
    (hfew : ((backTo cpos (starEach [.Constant (.str a) ka pa] X.env)).all (fun x => !x.1) && (backToKw cpos (keywordEach [] X.env)).all (fun x => x.1.isSome)
      && decide ([Expr.Constant (.str a) ka pa].length + ([] : List Keyword).length + (if ([] : List Keyword).isEmpty then 0 else 1) < 30)) = true := by rfl)
    (hline : (apos.endLine == cpos.line) = true := by rfl)
    (hs : backTo cpos (starEach [.Constant (.str a) ka pa] X.env) = [(false, eval (.Constant (.str a) ka pa) X.env)] := by rfl) :
    PEm X (.Call (.Attribute o "strip" apos) [.Constant (.str a) ka pa] [] cpos) (fun σ H Q => to σ H fun v H1 => ∃ z, v = .str z ∧ z.length ≤ sizeLine ∧ Q (.str (Txt.stripChars z a)) H1) := by
  intro pins s σ H Q I h
  refine wpAny_Call_method_late hbase hfew hline rfl (thn (ho pins s σ H _ I h) fun v s1 ⟨x, H1, I1, r1, z, ex, hz, q⟩ => ?_)
  subst ex
  obtain ⟨tk, rfl⟩ := r1
  refine ⟨"str", _, PySem.F.plainAttrs_str, PySem.F.slot_str_strip, PySem.F.type_str_strip, typeIs_str _ _ _, (fun _ e => nomatch e), ?_⟩
  rw [hs]
  refine Calls.callWith_builtin rfl (Calls.evalArgs_plain (Calls.spliced_cons (Calls.Constant_str (Calls.spliced_nil ?_))))
  refine wpAny_mono (wpAny_toks_of (n := 1) (by show 1 ≤ s1.toks + 1; omega) (mt_strip pins _ σ H1 (.str z) [.str a] _ _ Q (I1.tok _) ⟨_, rfl⟩ (.cons ⟨_, rfl⟩ .nil) ⟨z, a, rfl, rfl, hz, q⟩)) (fun _ _ z => z) fun _ _ z => z.2
def tMethP (X : Cx) (CX : CXT) (k : Nat) (m : Str) (E : XK) (ta te : TE) : TE := fun σ H Q => ta σ H fun x H1 => ∃ (a C dx : Addr) (fs : List (Str × V)) (M : MethJP X.prog X.w X.K X.mg X.base CX k C m), x = .ref a ∧ H1 a = some (.ins C dx fs) ∧ fs.lookup m = none ∧
  te σ H1 fun v H2 => M.sp (x :: ([v] ++ M.dvs)) H2 Q E
/-- o.m(e): m asks for a token, e makes one -/
theorem pe_methP {pl : Sem Bool} (hr : Room k X.A) (hx : Passes CX X E) (he : PE X o ta) (ha : PEm X e te)
    (hst : starEach [e] X.env = [(false, eval e X.env)] := by rfl) (hb1 : backTo pos (starEach [e] X.env) = [(false, eval e X.env)] := by rfl)
    (ht : eval (.Call (.Attribute o m apos) [e] [] pos) X.env = (do
      let ov ← eval o X.env
      standAt apos.atName
      let (f, first) ← holding [ov] (getMethod ov m pl)
      callWith pos f first (backTo pos (starEach [e] X.env)) (backToKw pos (keywordEach [] X.env))) := by rfl) :
    PE X (.Call (.Attribute o m apos) [e] [] pos) (tMethP X CX k m E ta te) := by
  intro pins s σ H Q I h
  refine PySem.W.methodCall_KW (pl := pl) (thn (he pins s σ H _ I h) fun u s1 ⟨x, H1, I1, rx, a, C, dx, fs, M, ex, ea, l, q⟩ => ?_) ht
  subst ex
  obtain rfl : u = Value.ref a := rx
  refine getmeth_ok I1 ea M.c M.hm l ?_
  refine PySem.W.callWith_K (first := [.ref a]) (h₀ := X.base) I.ok.mod.kin M.hm.kp ?_ hst rfl
  rw [hb1]
  exact Calls.spliced_cons (thn (ha pins s1 σ H1 _ I1 q) fun v s2 ⟨hn, x, H2, I2, rx, q2⟩ => Calls.spliced_nil ⟨I2.kIn, run_fnP (us := [.ref a, v]) (vs := [.ref a, x]) M.F hr M.hb M.hd hx I2 hn (.cons rfl (.cons rx .nil)) q2⟩)
end
end L2
/-! written amounts of money -/
namespace L2
open PySem PySem.Spec PyProof.Rows
def pad3 (l : List Nat) : List Nat := List.replicate (3 - l.length) 48 ++ l
def figM (n : Int) : List Nat := pad3 (dig n.natAbs)
def sgn (n : Int) : List Nat := if n < 0 then [45] else []
def monL (n : Int) : List Nat := sgn n ++ ((figM n).take ((figM n).length - 2) ++ 46 :: (figM n).drop ((figM n).length - 2))
def isF (c : Nat) : Prop := 48 ≤ c ∧ c ≤ 57
theorem pad3_len (l : List Nat) : 3 ≤ (pad3 l).length ∧ (pad3 l).length = max 3 l.length := by
  unfold pad3; rw [List.length_append, List.length_replicate]; omega
theorem figM_fig {n : Int} {c : Nat} (h : c ∈ figM n) : isF c := by
  unfold figM pad3 at h
  rcases List.mem_append.mp h with h | h
  · rw [(List.mem_replicate.mp h).2]; exact ⟨by decide, by decide⟩
  · exact dig_fig h
theorem val_rep (k : Nat) (l : List Nat) : val (List.replicate k 48 ++ l) = val l := by
  induction k with
  | zero => rfl
  | succ k ih => rw [List.replicate_succ, List.cons_append]; unfold val; rw [List.foldl_cons]; exact ih
theorem val_figM (n : Int) : val (figM n) = n.natAbs := by unfold figM pad3; rw [val_rep, val_dig]
theorem figM_head {n : Int} (h : (figM n).head? = some 48) : (figM n).length = 3 := by
  have hl := (pad3_len (dig n.natAbs)).2
  by_cases h3 : (dig n.natAbs).length ≤ 3
  · show (pad3 _).length = 3; omega
  · exfalso
    have e : figM n = dig n.natAbs := by unfold figM pad3; rw [show 3 - (dig n.natAbs).length = 0 by omega]; rfl
    rw [e] at h
    by_cases h0 : n.natAbs = 0
    · rw [h0, dig_zero] at h3; simp at h3
    · obtain ⟨c, r, ec, hc, _⟩ := dig_head h0
      rw [ec] at h
      have : c = 48 := by simpa using h
      omega
theorem mon_shape (n : Int) : ∃ a x y, monL n = sgn n ++ (a ++ [46, x, y]) ∧ figM n = a ++ [x, y] ∧ a ≠ [] ∧ (∀ c ∈ a, isF c) ∧ isF x ∧ isF y ∧ (a.head? = some 48 → a = [48]) := by
  have hl : 3 ≤ (figM n).length := (pad3_len _).1
  have hd : ((figM n).drop ((figM n).length - 2)).length = 2 := by rw [List.length_drop]; omega
  obtain ⟨x, y, e⟩ : ∃ x y, (figM n).drop ((figM n).length - 2) = [x, y] := by
    match h : (figM n).drop ((figM n).length - 2), hd with
    | [x, y], _ => exact ⟨x, y, rfl⟩
  have ea : figM n = (figM n).take ((figM n).length - 2) ++ [x, y] := by rw [← e, List.take_append_drop]
  have ht : ((figM n).take ((figM n).length - 2)).length = (figM n).length - 2 := by rw [List.length_take]; omega
  refine ⟨(figM n).take ((figM n).length - 2), x, y, ?_, ea, ?_, fun c hc => figM_fig (List.mem_of_mem_take hc), figM_fig (n := n) (by rw [ea]; simp), figM_fig (n := n) (by rw [ea]; simp), fun h => ?_⟩
  · unfold monL; rw [e]
  · intro z; rw [z] at ht; simp at ht; omega
  · have h1 : (figM n).head? = some 48 := by
      rw [ea]
      cases hh : (figM n).take ((figM n).length - 2) with
      | nil => rw [hh] at h; cases h
      | cons c r => rw [hh] at h; exact h
    have h3 := figM_head h1
    rw [h3] at h ht ⊢
    match hh : (figM n).take (3 - 2), ht with
    | [c], _ => rw [hh] at h; have : c = 48 := by simpa using h
                rw [this]
theorem sgn_mem {n : Int} {c : Nat} (h : c ∈ sgn n) : c = 45 := by unfold sgn at h; split at h; exact List.mem_singleton.mp h; cases h
theorem mon_chars {n : Int} {c : Nat} (h : c ∈ monL n) : c = 45 ∨ c = 46 ∨ isF c := by
  obtain ⟨a, x, y, e, _, _, ha, hx, hy, _⟩ := mon_shape n
  rw [e] at h
  rcases List.mem_append.mp h with h | h
  · exact .inl (sgn_mem h)
  · rcases List.mem_append.mp h with h | h
    · exact .inr (.inr (ha c h))
    · simp only [List.mem_cons, List.not_mem_nil, or_false] at h
      rcases h with h | h | h
      · exact .inr (.inl h)
      · rw [h]; exact .inr (.inr hx)
      · rw [h]; exact .inr (.inr hy)
theorem mon_len (n : Int) : 4 ≤ (monL n).length := by
  obtain ⟨a, x, y, e, _, ha, _⟩ := mon_shape n
  rw [e, List.length_append, List.length_append]
  have : 0 < a.length := List.length_pos_iff.mpr ha
  simp only [List.length_cons, List.length_nil]; omega
/-! ### what is read of a text -/
def filt (l : List Nat) : List Nat := (l.filter (· != 45)).filter (· != 46)
def ansM (l : List Nat) : Option Int := if (filt l).length = 0 ∨ (filt l).all inF = false ∨ 60 < (filt l).length then none else if monL (if l.take 1 = [45] then -val (filt l) else val (filt l)) = l then some (if l.take 1 = [45] then -val (filt l) else val (filt l)) else none
theorem ansM_is {l : List Nat} {n : Int} (h : ansM l = some n) : monL n = l := by
  unfold ansM at h
  by_cases c : (filt l).length = 0 ∨ (filt l).all inF = false ∨ 60 < (filt l).length
  · rw [if_pos c] at h; cases h
  · rw [if_neg c] at h
    generalize (if l.take 1 = [45] then -val (filt l) else val (filt l)) = g at h
    by_cases d : monL g = l
    · rw [if_pos d] at h; cases h; exact d
    · rw [if_neg d] at h; cases h
theorem filt_fig {l : List Nat} (h : ∀ c ∈ l, isF c) : filt l = l := by
  unfold filt
  have e1 : l.filter (· != 45) = l := List.filter_eq_self.mpr fun c hc => by have := h c hc; unfold isF at this; simp; omega
  rw [e1]
  exact List.filter_eq_self.mpr fun c hc => by have := h c hc; unfold isF at this; simp; omega
theorem filt_app (a b : List Nat) : filt (a ++ b) = filt a ++ filt b := by unfold filt; rw [List.filter_append, List.filter_append]
theorem filt_mon (n : Int) : filt (monL n) = figM n := by
  obtain ⟨a, x, y, e, ef, ha, hc, hx, hy, _⟩ := mon_shape n
  have e1 : filt (sgn n) = [] := by unfold sgn; split <;> rfl
  have e2 : filt [46, x, y] = [x, y] := by
    rw [show [46, x, y] = [46] ++ [x, y] from rfl, filt_app, show filt [46] = [] from rfl, List.nil_append]
    exact filt_fig fun c hc => by simp only [List.mem_cons, List.not_mem_nil, or_false] at hc; rcases hc with e | e <;> rw [e] <;> assumption
  rw [e, filt_app, filt_app, e1, filt_fig hc, e2, ef, List.nil_append]
theorem mon_take (n : Int) : (monL n).take 1 = [45] ↔ n < 0 := by
  obtain ⟨a, x, y, e, ef, ha, hc, hx, hy, _⟩ := mon_shape n
  rw [e]
  unfold sgn
  split
  · rename_i h; exact ⟨fun _ => h, fun _ => rfl⟩
  · rename_i h
    refine ⟨fun z => ?_, fun z => absurd z h⟩
    cases a with
    | nil => exact absurd rfl ha
    | cons b a =>
      have : b = 45 := by simpa using z
      have hb := hc b (by simp)
      unfold isF at hb; omega
theorem ansM_mon {n : Int} (h : n.natAbs < 10 ^ 60) : ansM (monL n) = some n := by
  unfold ansM
  rw [filt_mon, val_figM]
  have hl := pad3_len (dig n.natAbs)
  have hd := dig_len (k := 60) (by decide) h
  have hh : (if (monL n).take 1 = [45] then -((n.natAbs : Nat) : Int) else ((n.natAbs : Nat) : Int)) = n := by
    by_cases hn : n < 0
    · rw [if_pos ((mon_take n).mpr hn)]; omega
    · rw [if_neg (fun z => hn ((mon_take n).mp z))]; omega
  rw [hh, if_neg, if_pos rfl]
  rintro (z | z | z)
  · have : (figM n).length = (pad3 (dig n.natAbs)).length := rfl
    omega
  · rw [List.all_eq_false] at z
    obtain ⟨c, hc, k⟩ := z
    exact k ((inF_iff c).mpr (figM_fig hc))
  · have : (figM n).length = (pad3 (dig n.natAbs)).length := rfl
    omega
theorem mon_fine {n : Int} (h : n.natAbs < 10 ^ 60) : Fine 65 (S (monL n)) := by
  refine ⟨?_, fun c hc => ?_⟩
  · obtain ⟨a, x, y, e, ef, _⟩ := mon_shape n
    have hl := (pad3_len (dig n.natAbs)).2
    have hd := dig_len (k := 60) (by decide) h
    have e3 := congrArg List.length ef
    rw [List.length_append] at e3
    have e4 : (figM n).length = (pad3 (dig n.natAbs)).length := rfl
    rw [len_S, e, List.length_append, List.length_append]
    have e5 : (sgn n).length ≤ 1 := by unfold sgn; split <;> simp
    simp only [List.length_cons, List.length_nil] at e3 ⊢
    omega
  · rw [cd_S] at hc
    rcases mon_chars hc with z | z | z
    · omega
    · omega
    · unfold isF at z; omega
theorem mon_blank {n : Int} : (∀ c, (monL n).head? = some c → c ≠ 32) ∧ (∀ c, (monL n).getLast? = some c → c ≠ 32) := by
  have k : ∀ c ∈ monL n, c ≠ 32 := fun c hc => by rcases mon_chars hc with z | z | z; omega; omega; unfold isF at z; omega
  exact ⟨fun c hc => k c (List.mem_of_mem_head? hc), fun c hc => k c (List.mem_of_getLast? hc)⟩
/-! ### the signs left out -/
theorem joinL_filter {c : Nat} : ∀ {ps : List (List Nat)}, (∀ p ∈ ps, c ∉ p) → (joinL [c] ps).filter (· != c) = joinL [] ps
  | [], _ => rfl
  | [x], h => List.filter_eq_self.mpr fun d hd => by
      have := h x (by simp)
      simp; intro z; subst z; exact this hd
  | x :: y :: r, h => by
    have hx : x.filter (· != c) = x := List.filter_eq_self.mpr fun d hd => by
      have := h x (by simp)
      simp; intro z; subst z; exact this hd
    show (x ++ [c] ++ joinL [c] (y :: r)).filter (· != c) = x ++ [] ++ joinL [] (y :: r)
    rw [List.filter_append, List.filter_append, hx, joinL_filter fun p hp => h p (List.mem_cons_of_mem _ hp)]
    simp
theorem replace_is (z : Str) (c : Nat) : cd (Txt.replace z (S [c]) (S [])) = (cd z).filter (· != c) := by
  have h1 : Txt.replace z (S [c]) (S []) = Str.join (S []) (Txt.split z (S [c])) := StrLaws.replace_one z (S []) c
  have h2 : Str.join (S [c]) (Txt.split z (S [c])) = z := StrLaws.join_split z (S [c])
  rw [h1, ← StrLaws.glued_eq_join, show Builtin.Str.glued (S []) (Txt.split z (S [c])) = joinS (S []) (Txt.split z (S [c])) from rfl, joinS_is, cd_S, cd_S]
  rw [← StrLaws.glued_eq_join, show Builtin.Str.glued (S [c]) (Txt.split z (S [c])) = joinS (S [c]) (Txt.split z (S [c])) from rfl, joinS_is] at h2
  have h3 := congrArg cd h2
  rw [cd_S, cd_S] at h3
  rw [← h3, joinL_filter]
  intro p hp
  obtain ⟨x, hx, rfl⟩ := List.mem_map.mp hp
  exact StrLaws.split_free z c x hx
end L2
namespace K08
open PySem L2
def top (i : Nat) : Stmt := PySem.Challenge.pw_askpaper_k08_whole_written_one_way.main.body.getD i (.Pass ⟨0, 0, 0, 0⟩)
abbrev s_is_whole : Stmt := top 10
abbrev s_is_name : Stmt := top 11
abbrev s_are_unlike_names : Stmt := top 12
abbrev s_are_figures : Stmt := top 13
abbrev s_figures_worth : Stmt := top 14
abbrev s_number_of : Stmt := top 15
abbrev s_number_or_none : Stmt := top 16
abbrev s_money_shown : Stmt := top 21
abbrev s_money_or_none : Stmt := top 22
abbrev s_c_Kind___init : Stmt := inClass (top 23) 0
abbrev s_c_Kind_read : Stmt := inClass (top 23) 3
abbrev s_c_YesNo___init : Stmt := inClass (top 24) 0
abbrev s_c_YesNo_fits : Stmt := inClass (top 24) 1
abbrev s_c_YesNo_answer_of : Stmt := inClass (top 24) 2
abbrev s_c_YesNo_shown : Stmt := inClass (top 24) 3
abbrev s_c_YesNo_rank : Stmt := inClass (top 24) 4
abbrev s_c_YesNo_sample : Stmt := inClass (top 24) 5
abbrev s_c_Whole_fits : Stmt := inClass (top 25) 0
abbrev s_c_Whole_answer_of : Stmt := inClass (top 25) 1
abbrev s_c_Whole_shown : Stmt := inClass (top 25) 2
abbrev s_c_Whole_rank : Stmt := inClass (top 25) 3
abbrev s_c_Whole_sample : Stmt := inClass (top 25) 4
abbrev s_c_Money_answer_of : Stmt := inClass (top 26) 0
abbrev s_c_Money_shown : Stmt := inClass (top 26) 1
abbrev s_c_Pick___init : Stmt := inClass (top 27) 0
abbrev s_c_Pick_fits : Stmt := inClass (top 27) 1
abbrev s_c_Pick_answer_of : Stmt := inClass (top 27) 2
abbrev s_c_Pick_shown : Stmt := inClass (top 27) 3
abbrev s_c_Pick_rank : Stmt := inClass (top 27) 4
abbrev s_c_Pick_sample : Stmt := inClass (top 27) 5
abbrev s_c_Names___init : Stmt := inClass (top 28) 0
abbrev s_c_Names_fits : Stmt := inClass (top 28) 1
abbrev s_c_Names_answer_of : Stmt := inClass (top 28) 2
abbrev s_c_Names_shown : Stmt := inClass (top 28) 3
abbrev s_c_Names_rank : Stmt := inClass (top 28) 4
abbrev s_c_Names_sample : Stmt := inClass (top 28) 5
abbrev s_law_cell_at : Stmt := top 30
abbrev s_law_whole : Stmt := top 31
abbrev s_law_letter : Stmt := top 32
abbrev s_law_sign_by : Stmt := top 33
abbrev s_law_wide : Stmt := top 34
abbrev s_law_low : Stmt := top 35
abbrev s_law_size : Stmt := top 36
abbrev s_law_words : Stmt := top 37
abbrev s_law_kinds : Stmt := top 38
abbrev s_law_answer : Stmt := top 39
abbrev s_law_spoilt : Stmt := top 40
abbrev s_law_bare : Stmt := top 41
abbrev s_law_read : Stmt := top 42
abbrev s_law_holds : Stmt := top 43
abbrev s_law_all : Stmt := top 44
abbrev s_law : Stmt := top 45
structure Adr where
  f_is_whole : Addr
  d_is_whole : FuncData
  f_is_name : Addr
  d_is_name : FuncData
  f_are_unlike_names : Addr
  d_are_unlike_names : FuncData
  f_are_figures : Addr
  d_are_figures : FuncData
  f_figures_worth : Addr
  d_figures_worth : FuncData
  f_number_of : Addr
  d_number_of : FuncData
  ds_number_of : List Value
  f_number_or_none : Addr
  d_number_or_none : FuncData
  f_money_shown : Addr
  d_money_shown : FuncData
  f_money_or_none : Addr
  d_money_or_none : FuncData
  f_c_Kind___init : Addr
  d_c_Kind___init : FuncData
  f_c_Kind_read : Addr
  d_c_Kind_read : FuncData
  f_c_YesNo___init : Addr
  d_c_YesNo___init : FuncData
  f_c_YesNo_fits : Addr
  d_c_YesNo_fits : FuncData
  f_c_YesNo_answer_of : Addr
  d_c_YesNo_answer_of : FuncData
  f_c_YesNo_shown : Addr
  d_c_YesNo_shown : FuncData
  f_c_YesNo_rank : Addr
  d_c_YesNo_rank : FuncData
  f_c_YesNo_sample : Addr
  d_c_YesNo_sample : FuncData
  f_c_Whole_fits : Addr
  d_c_Whole_fits : FuncData
  f_c_Whole_answer_of : Addr
  d_c_Whole_answer_of : FuncData
  f_c_Whole_shown : Addr
  d_c_Whole_shown : FuncData
  f_c_Whole_rank : Addr
  d_c_Whole_rank : FuncData
  f_c_Whole_sample : Addr
  d_c_Whole_sample : FuncData
  f_c_Money_answer_of : Addr
  d_c_Money_answer_of : FuncData
  f_c_Money_shown : Addr
  d_c_Money_shown : FuncData
  f_c_Pick___init : Addr
  d_c_Pick___init : FuncData
  f_c_Pick_fits : Addr
  d_c_Pick_fits : FuncData
  f_c_Pick_answer_of : Addr
  d_c_Pick_answer_of : FuncData
  f_c_Pick_shown : Addr
  d_c_Pick_shown : FuncData
  f_c_Pick_rank : Addr
  d_c_Pick_rank : FuncData
  f_c_Pick_sample : Addr
  d_c_Pick_sample : FuncData
  f_c_Names___init : Addr
  d_c_Names___init : FuncData
  ds_c_Names___init : List Value
  f_c_Names_fits : Addr
  d_c_Names_fits : FuncData
  f_c_Names_answer_of : Addr
  d_c_Names_answer_of : FuncData
  f_c_Names_shown : Addr
  d_c_Names_shown : FuncData
  f_c_Names_rank : Addr
  d_c_Names_rank : FuncData
  f_c_Names_sample : Addr
  d_c_Names_sample : FuncData
  f_law_cell_at : Addr
  d_law_cell_at : FuncData
  f_law_whole : Addr
  d_law_whole : FuncData
  f_law_letter : Addr
  d_law_letter : FuncData
  f_law_sign_by : Addr
  d_law_sign_by : FuncData
  f_law_wide : Addr
  d_law_wide : FuncData
  f_law_low : Addr
  d_law_low : FuncData
  f_law_size : Addr
  d_law_size : FuncData
  f_law_words : Addr
  d_law_words : FuncData
  f_law_kinds : Addr
  d_law_kinds : FuncData
  f_law_answer : Addr
  d_law_answer : FuncData
  f_law_spoilt : Addr
  d_law_spoilt : FuncData
  f_law_bare : Addr
  d_law_bare : FuncData
  f_law_read : Addr
  d_law_read : FuncData
  f_law_holds : Addr
  d_law_holds : FuncData
  f_law_all : Addr
  d_law_all : FuncData
  f_law : Addr
  d_law : FuncData
  a_NO_NAMES : Addr
  a_SAMPLE_NAMES : Addr
  a_WRITTEN_TRUTHS : Addr
  c_Kind : Addr
  c_Money : Addr
  c_Names : Addr
  c_NoAnswer : Addr
  c_NoNumber : Addr
  c_Pick : Addr
  c_Whole : Addr
  c_YesNo : Addr
structure Txt (K : PySem.W.Frag) (mg : Str → Option Value) (A : Adr) : Prop where
  F_is_whole : Fun K "is_whole" "is_whole" s_is_whole A.f_is_whole A.d_is_whole
  b_is_whole : Binds K A.d_is_whole ["thing"] []
  k_is_whole : PySem.W.keepIn K (.ref A.f_is_whole) = true
  m_is_whole : mg "is_whole" = some (.ref A.f_is_whole)
  F_is_name : Fun K "is_name" "is_name" s_is_name A.f_is_name A.d_is_name
  b_is_name : Binds K A.d_is_name ["thing"] []
  k_is_name : PySem.W.keepIn K (.ref A.f_is_name) = true
  m_is_name : mg "is_name" = some (.ref A.f_is_name)
  F_are_unlike_names : Fun K "are_unlike_names" "are_unlike_names" s_are_unlike_names A.f_are_unlike_names A.d_are_unlike_names
  b_are_unlike_names : Binds K A.d_are_unlike_names ["words"] []
  k_are_unlike_names : PySem.W.keepIn K (.ref A.f_are_unlike_names) = true
  m_are_unlike_names : mg "are_unlike_names" = some (.ref A.f_are_unlike_names)
  F_are_figures : Fun K "are_figures" "are_figures" s_are_figures A.f_are_figures A.d_are_figures
  b_are_figures : Binds K A.d_are_figures ["text"] []
  k_are_figures : PySem.W.keepIn K (.ref A.f_are_figures) = true
  m_are_figures : mg "are_figures" = some (.ref A.f_are_figures)
  F_figures_worth : Fun K "figures_worth" "figures_worth" s_figures_worth A.f_figures_worth A.d_figures_worth
  b_figures_worth : Binds K A.d_figures_worth ["figures"] []
  k_figures_worth : PySem.W.keepIn K (.ref A.f_figures_worth) = true
  m_figures_worth : mg "figures_worth" = some (.ref A.f_figures_worth)
  F_number_of : FunD K "number_of" "number_of" s_number_of A.ds_number_of A.f_number_of A.d_number_of
  b_number_of : Binds K A.d_number_of ["text", "most"] []
  bd_number_of : Binds K A.d_number_of ["text", "most"] A.ds_number_of
  dv_number_of : Vals [(.int 60)] A.ds_number_of
  k_number_of : PySem.W.keepIn K (.ref A.f_number_of) = true
  m_number_of : mg "number_of" = some (.ref A.f_number_of)
  F_number_or_none : Fun K "number_or_none" "number_or_none" s_number_or_none A.f_number_or_none A.d_number_or_none
  b_number_or_none : Binds K A.d_number_or_none ["text"] []
  k_number_or_none : PySem.W.keepIn K (.ref A.f_number_or_none) = true
  m_number_or_none : mg "number_or_none" = some (.ref A.f_number_or_none)
  F_money_shown : Fun K "money_shown" "money_shown" s_money_shown A.f_money_shown A.d_money_shown
  b_money_shown : Binds K A.d_money_shown ["hundredths"] []
  k_money_shown : PySem.W.keepIn K (.ref A.f_money_shown) = true
  m_money_shown : mg "money_shown" = some (.ref A.f_money_shown)
  F_money_or_none : Fun K "money_or_none" "money_or_none" s_money_or_none A.f_money_or_none A.d_money_or_none
  b_money_or_none : Binds K A.d_money_or_none ["text"] []
  k_money_or_none : PySem.W.keepIn K (.ref A.f_money_or_none) = true
  m_money_or_none : mg "money_or_none" = some (.ref A.f_money_or_none)
  F_c_Kind___init : Fun K "__init__" "Kind.__init__" s_c_Kind___init A.f_c_Kind___init A.d_c_Kind___init
  b_c_Kind___init : Binds K A.d_c_Kind___init ["self", "low", "high"] []
  k_c_Kind___init : PySem.W.keepIn K (.ref A.f_c_Kind___init) = true
  F_c_Kind_read : Fun K "read" "Kind.read" s_c_Kind_read A.f_c_Kind_read A.d_c_Kind_read
  b_c_Kind_read : Binds K A.d_c_Kind_read ["self", "text"] []
  k_c_Kind_read : PySem.W.keepIn K (.ref A.f_c_Kind_read) = true
  F_c_YesNo___init : Fun K "__init__" "YesNo.__init__" s_c_YesNo___init A.f_c_YesNo___init A.d_c_YesNo___init
  b_c_YesNo___init : Binds K A.d_c_YesNo___init ["self"] []
  k_c_YesNo___init : PySem.W.keepIn K (.ref A.f_c_YesNo___init) = true
  F_c_YesNo_fits : Fun K "fits" "YesNo.fits" s_c_YesNo_fits A.f_c_YesNo_fits A.d_c_YesNo_fits
  b_c_YesNo_fits : Binds K A.d_c_YesNo_fits ["self", "thing"] []
  k_c_YesNo_fits : PySem.W.keepIn K (.ref A.f_c_YesNo_fits) = true
  F_c_YesNo_answer_of : Fun K "answer_of" "YesNo.answer_of" s_c_YesNo_answer_of A.f_c_YesNo_answer_of A.d_c_YesNo_answer_of
  b_c_YesNo_answer_of : Binds K A.d_c_YesNo_answer_of ["self", "text"] []
  k_c_YesNo_answer_of : PySem.W.keepIn K (.ref A.f_c_YesNo_answer_of) = true
  F_c_YesNo_shown : Fun K "shown" "YesNo.shown" s_c_YesNo_shown A.f_c_YesNo_shown A.d_c_YesNo_shown
  b_c_YesNo_shown : Binds K A.d_c_YesNo_shown ["self", "answer"] []
  k_c_YesNo_shown : PySem.W.keepIn K (.ref A.f_c_YesNo_shown) = true
  F_c_YesNo_rank : Fun K "rank" "YesNo.rank" s_c_YesNo_rank A.f_c_YesNo_rank A.d_c_YesNo_rank
  b_c_YesNo_rank : Binds K A.d_c_YesNo_rank ["self", "answer"] []
  k_c_YesNo_rank : PySem.W.keepIn K (.ref A.f_c_YesNo_rank) = true
  F_c_YesNo_sample : Fun K "sample" "YesNo.sample" s_c_YesNo_sample A.f_c_YesNo_sample A.d_c_YesNo_sample
  b_c_YesNo_sample : Binds K A.d_c_YesNo_sample ["self", "rank"] []
  k_c_YesNo_sample : PySem.W.keepIn K (.ref A.f_c_YesNo_sample) = true
  F_c_Whole_fits : Fun K "fits" "Whole.fits" s_c_Whole_fits A.f_c_Whole_fits A.d_c_Whole_fits
  b_c_Whole_fits : Binds K A.d_c_Whole_fits ["self", "thing"] []
  k_c_Whole_fits : PySem.W.keepIn K (.ref A.f_c_Whole_fits) = true
  F_c_Whole_answer_of : Fun K "answer_of" "Whole.answer_of" s_c_Whole_answer_of A.f_c_Whole_answer_of A.d_c_Whole_answer_of
  b_c_Whole_answer_of : Binds K A.d_c_Whole_answer_of ["self", "text"] []
  k_c_Whole_answer_of : PySem.W.keepIn K (.ref A.f_c_Whole_answer_of) = true
  F_c_Whole_shown : Fun K "shown" "Whole.shown" s_c_Whole_shown A.f_c_Whole_shown A.d_c_Whole_shown
  b_c_Whole_shown : Binds K A.d_c_Whole_shown ["self", "answer"] []
  k_c_Whole_shown : PySem.W.keepIn K (.ref A.f_c_Whole_shown) = true
  F_c_Whole_rank : Fun K "rank" "Whole.rank" s_c_Whole_rank A.f_c_Whole_rank A.d_c_Whole_rank
  b_c_Whole_rank : Binds K A.d_c_Whole_rank ["self", "answer"] []
  k_c_Whole_rank : PySem.W.keepIn K (.ref A.f_c_Whole_rank) = true
  F_c_Whole_sample : Fun K "sample" "Whole.sample" s_c_Whole_sample A.f_c_Whole_sample A.d_c_Whole_sample
  b_c_Whole_sample : Binds K A.d_c_Whole_sample ["self", "rank"] []
  k_c_Whole_sample : PySem.W.keepIn K (.ref A.f_c_Whole_sample) = true
  F_c_Money_answer_of : Fun K "answer_of" "Money.answer_of" s_c_Money_answer_of A.f_c_Money_answer_of A.d_c_Money_answer_of
  b_c_Money_answer_of : Binds K A.d_c_Money_answer_of ["self", "text"] []
  k_c_Money_answer_of : PySem.W.keepIn K (.ref A.f_c_Money_answer_of) = true
  F_c_Money_shown : Fun K "shown" "Money.shown" s_c_Money_shown A.f_c_Money_shown A.d_c_Money_shown
  b_c_Money_shown : Binds K A.d_c_Money_shown ["self", "answer"] []
  k_c_Money_shown : PySem.W.keepIn K (.ref A.f_c_Money_shown) = true
  F_c_Pick___init : Fun K "__init__" "Pick.__init__" s_c_Pick___init A.f_c_Pick___init A.d_c_Pick___init
  b_c_Pick___init : Binds K A.d_c_Pick___init ["self", "words"] []
  k_c_Pick___init : PySem.W.keepIn K (.ref A.f_c_Pick___init) = true
  F_c_Pick_fits : Fun K "fits" "Pick.fits" s_c_Pick_fits A.f_c_Pick_fits A.d_c_Pick_fits
  b_c_Pick_fits : Binds K A.d_c_Pick_fits ["self", "thing"] []
  k_c_Pick_fits : PySem.W.keepIn K (.ref A.f_c_Pick_fits) = true
  F_c_Pick_answer_of : Fun K "answer_of" "Pick.answer_of" s_c_Pick_answer_of A.f_c_Pick_answer_of A.d_c_Pick_answer_of
  b_c_Pick_answer_of : Binds K A.d_c_Pick_answer_of ["self", "text"] []
  k_c_Pick_answer_of : PySem.W.keepIn K (.ref A.f_c_Pick_answer_of) = true
  F_c_Pick_shown : Fun K "shown" "Pick.shown" s_c_Pick_shown A.f_c_Pick_shown A.d_c_Pick_shown
  b_c_Pick_shown : Binds K A.d_c_Pick_shown ["self", "answer"] []
  k_c_Pick_shown : PySem.W.keepIn K (.ref A.f_c_Pick_shown) = true
  F_c_Pick_rank : Fun K "rank" "Pick.rank" s_c_Pick_rank A.f_c_Pick_rank A.d_c_Pick_rank
  b_c_Pick_rank : Binds K A.d_c_Pick_rank ["self", "answer"] []
  k_c_Pick_rank : PySem.W.keepIn K (.ref A.f_c_Pick_rank) = true
  F_c_Pick_sample : Fun K "sample" "Pick.sample" s_c_Pick_sample A.f_c_Pick_sample A.d_c_Pick_sample
  b_c_Pick_sample : Binds K A.d_c_Pick_sample ["self", "rank"] []
  k_c_Pick_sample : PySem.W.keepIn K (.ref A.f_c_Pick_sample) = true
  F_c_Names___init : FunD K "__init__" "Names.__init__" s_c_Names___init A.ds_c_Names___init A.f_c_Names___init A.d_c_Names___init
  b_c_Names___init : Binds K A.d_c_Names___init ["self", "most"] []
  bd_c_Names___init : Binds K A.d_c_Names___init ["self", "most"] A.ds_c_Names___init
  dv_c_Names___init : Vals [(.int 3)] A.ds_c_Names___init
  k_c_Names___init : PySem.W.keepIn K (.ref A.f_c_Names___init) = true
  F_c_Names_fits : Fun K "fits" "Names.fits" s_c_Names_fits A.f_c_Names_fits A.d_c_Names_fits
  b_c_Names_fits : Binds K A.d_c_Names_fits ["self", "thing"] []
  k_c_Names_fits : PySem.W.keepIn K (.ref A.f_c_Names_fits) = true
  F_c_Names_answer_of : Fun K "answer_of" "Names.answer_of" s_c_Names_answer_of A.f_c_Names_answer_of A.d_c_Names_answer_of
  b_c_Names_answer_of : Binds K A.d_c_Names_answer_of ["self", "text"] []
  k_c_Names_answer_of : PySem.W.keepIn K (.ref A.f_c_Names_answer_of) = true
  F_c_Names_shown : Fun K "shown" "Names.shown" s_c_Names_shown A.f_c_Names_shown A.d_c_Names_shown
  b_c_Names_shown : Binds K A.d_c_Names_shown ["self", "answer"] []
  k_c_Names_shown : PySem.W.keepIn K (.ref A.f_c_Names_shown) = true
  F_c_Names_rank : Fun K "rank" "Names.rank" s_c_Names_rank A.f_c_Names_rank A.d_c_Names_rank
  b_c_Names_rank : Binds K A.d_c_Names_rank ["self", "answer"] []
  k_c_Names_rank : PySem.W.keepIn K (.ref A.f_c_Names_rank) = true
  F_c_Names_sample : Fun K "sample" "Names.sample" s_c_Names_sample A.f_c_Names_sample A.d_c_Names_sample
  b_c_Names_sample : Binds K A.d_c_Names_sample ["self", "rank"] []
  k_c_Names_sample : PySem.W.keepIn K (.ref A.f_c_Names_sample) = true
  F_law_cell_at : Fun K "_law_cell_at" "_law_cell_at" s_law_cell_at A.f_law_cell_at A.d_law_cell_at
  b_law_cell_at : Binds K A.d_law_cell_at ["_law_script", "_law_k"] []
  k_law_cell_at : PySem.W.keepIn K (.ref A.f_law_cell_at) = true
  m_law_cell_at : mg "_law_cell_at" = some (.ref A.f_law_cell_at)
  F_law_whole : Fun K "_law_whole" "_law_whole" s_law_whole A.f_law_whole A.d_law_whole
  b_law_whole : Binds K A.d_law_whole ["_law_found"] []
  k_law_whole : PySem.W.keepIn K (.ref A.f_law_whole) = true
  m_law_whole : mg "_law_whole" = some (.ref A.f_law_whole)
  F_law_letter : Fun K "_law_letter" "_law_letter" s_law_letter A.f_law_letter A.d_law_letter
  b_law_letter : Binds K A.d_law_letter ["_law_number"] []
  k_law_letter : PySem.W.keepIn K (.ref A.f_law_letter) = true
  m_law_letter : mg "_law_letter" = some (.ref A.f_law_letter)
  F_law_sign_by : Fun K "_law_sign_by" "_law_sign_by" s_law_sign_by A.f_law_sign_by A.d_law_sign_by
  b_law_sign_by : Binds K A.d_law_sign_by ["_law_cell"] []
  k_law_sign_by : PySem.W.keepIn K (.ref A.f_law_sign_by) = true
  m_law_sign_by : mg "_law_sign_by" = some (.ref A.f_law_sign_by)
  F_law_wide : Fun K "_law_wide" "_law_wide" s_law_wide A.f_law_wide A.d_law_wide
  b_law_wide : Binds K A.d_law_wide ["_law_cell"] []
  k_law_wide : PySem.W.keepIn K (.ref A.f_law_wide) = true
  m_law_wide : mg "_law_wide" = some (.ref A.f_law_wide)
  F_law_low : Fun K "_law_low" "_law_low" s_law_low A.f_law_low A.d_law_low
  b_law_low : Binds K A.d_law_low ["_law_cell"] []
  k_law_low : PySem.W.keepIn K (.ref A.f_law_low) = true
  m_law_low : mg "_law_low" = some (.ref A.f_law_low)
  F_law_size : Fun K "_law_size" "_law_size" s_law_size A.f_law_size A.d_law_size
  b_law_size : Binds K A.d_law_size ["_law_cell"] []
  k_law_size : PySem.W.keepIn K (.ref A.f_law_size) = true
  m_law_size : mg "_law_size" = some (.ref A.f_law_size)
  F_law_words : Fun K "_law_words" "_law_words" s_law_words A.f_law_words A.d_law_words
  b_law_words : Binds K A.d_law_words ["_law_cell", "_law_many"] []
  k_law_words : PySem.W.keepIn K (.ref A.f_law_words) = true
  m_law_words : mg "_law_words" = some (.ref A.f_law_words)
  F_law_kinds : Fun K "_law_kinds" "_law_kinds" s_law_kinds A.f_law_kinds A.d_law_kinds
  b_law_kinds : Binds K A.d_law_kinds ["_law_script"] []
  k_law_kinds : PySem.W.keepIn K (.ref A.f_law_kinds) = true
  m_law_kinds : mg "_law_kinds" = some (.ref A.f_law_kinds)
  F_law_answer : Fun K "_law_answer" "_law_answer" s_law_answer A.f_law_answer A.d_law_answer
  b_law_answer : Binds K A.d_law_answer ["_law_kind", "_law_k", "_law_cell"] []
  k_law_answer : PySem.W.keepIn K (.ref A.f_law_answer) = true
  m_law_answer : mg "_law_answer" = some (.ref A.f_law_answer)
  F_law_spoilt : Fun K "_law_spoilt" "_law_spoilt" s_law_spoilt A.f_law_spoilt A.d_law_spoilt
  b_law_spoilt : Binds K A.d_law_spoilt ["_law_word", "_law_cell"] []
  k_law_spoilt : PySem.W.keepIn K (.ref A.f_law_spoilt) = true
  m_law_spoilt : mg "_law_spoilt" = some (.ref A.f_law_spoilt)
  F_law_bare : Fun K "_law_bare" "_law_bare" s_law_bare A.f_law_bare A.d_law_bare
  b_law_bare : Binds K A.d_law_bare ["_law_word"] []
  k_law_bare : PySem.W.keepIn K (.ref A.f_law_bare) = true
  m_law_bare : mg "_law_bare" = some (.ref A.f_law_bare)
  F_law_read : Fun K "_law_read" "_law_read" s_law_read A.f_law_read A.d_law_read
  b_law_read : Binds K A.d_law_read ["_law_kind", "_law_word"] []
  k_law_read : PySem.W.keepIn K (.ref A.f_law_read) = true
  m_law_read : mg "_law_read" = some (.ref A.f_law_read)
  F_law_holds : Fun K "_law_holds" "_law_holds" s_law_holds A.f_law_holds A.d_law_holds
  b_law_holds : Binds K A.d_law_holds ["_law_kind", "_law_one"] []
  k_law_holds : PySem.W.keepIn K (.ref A.f_law_holds) = true
  m_law_holds : mg "_law_holds" = some (.ref A.f_law_holds)
  F_law_all : Fun K "_law_all" "_law_all" s_law_all A.f_law_all A.d_law_all
  b_law_all : Binds K A.d_law_all ["_law_kind", "_law_one", "_law_cell"] []
  k_law_all : PySem.W.keepIn K (.ref A.f_law_all) = true
  m_law_all : mg "_law_all" = some (.ref A.f_law_all)
  F_law : Fun K "law" "law" s_law A.f_law A.d_law
  b_law : Binds K A.d_law ["_law_script"] []
  k_law : PySem.W.keepIn K (.ref A.f_law) = true
  m_law : mg "law" = some (.ref A.f_law)
  g_FIGURES : GlobV mg "FIGURES" (.str "0123456789")
  g_LETTERS : GlobV mg "LETTERS" (.str "abcdefghijklmnopqrstuvwxyz")
  g_LONGEST_NAME : GlobV mg "LONGEST_NAME" (.int 12)
  g_MOST_FIGURES : GlobV mg "MOST_FIGURES" (.int 60)
  g_NO_NAMES : GlobV mg "NO_NAMES" (.ref A.a_NO_NAMES)
  q_NO_NAMES : ∀ H, SqT K H A.a_NO_NAMES [(.str "and"), (.str "each"), (.str "end"), (.str "is"), (.str "not"), (.str "or"), (.str "unless"), (.str "when")]
  g_SAMPLE_NAMES : GlobV mg "SAMPLE_NAMES" (.ref A.a_SAMPLE_NAMES)
  q_SAMPLE_NAMES : ∀ H, SqT K H A.a_SAMPLE_NAMES [(.str "a"), (.str "b"), (.str "c"), (.str "d"), (.str "e"), (.str "f")]
  m_WRITTEN_TRUTHS : mg "WRITTEN_TRUTHS" = some (.ref A.a_WRITTEN_TRUTHS)
  t_WRITTEN_TRUTHS : TabK K A.a_WRITTEN_TRUTHS [("yes", true), ("no", false)]
  n_abs : mg "abs" = none
  n_all : mg "all" = none
  n_bool : mg "bool" = none
  n_int : mg "int" = none
  n_isinstance : mg "isinstance" = none
  n_len : mg "len" = none
  n_list : mg "list" = none
  n_range : mg "range" = none
  n_set : mg "set" = none
  n_str : mg "str" = none
  n_tuple : mg "tuple" = none
  i_NoneType_int : PySem.W.kitOne K (.type "NoneType") (.type "int") = some false
  i_bool_int : PySem.W.kitOne K (.type "bool") (.type "int") = some true
  i_int_int : PySem.W.kitOne K (.type "int") (.type "int") = some true
  i_str_int : PySem.W.kitOne K (.type "str") (.type "int") = some false
  i_list_int : PySem.W.kitOne K (.type "list") (.type "int") = some false
  i_tuple_int : PySem.W.kitOne K (.type "tuple") (.type "int") = some false
  i_dict_int : PySem.W.kitOne K (.type "dict") (.type "int") = some false
  i_NoneType_bool : PySem.W.kitOne K (.type "NoneType") (.type "bool") = some false
  i_bool_bool : PySem.W.kitOne K (.type "bool") (.type "bool") = some true
  i_int_bool : PySem.W.kitOne K (.type "int") (.type "bool") = some false
  i_str_bool : PySem.W.kitOne K (.type "str") (.type "bool") = some false
  i_list_bool : PySem.W.kitOne K (.type "list") (.type "bool") = some false
  i_tuple_bool : PySem.W.kitOne K (.type "tuple") (.type "bool") = some false
  i_dict_bool : PySem.W.kitOne K (.type "dict") (.type "bool") = some false
  i_NoneType_str : PySem.W.kitOne K (.type "NoneType") (.type "str") = some false
  i_bool_str : PySem.W.kitOne K (.type "bool") (.type "str") = some false
  i_int_str : PySem.W.kitOne K (.type "int") (.type "str") = some false
  i_str_str : PySem.W.kitOne K (.type "str") (.type "str") = some true
  i_list_str : PySem.W.kitOne K (.type "list") (.type "str") = some false
  i_tuple_str : PySem.W.kitOne K (.type "tuple") (.type "str") = some false
  i_dict_str : PySem.W.kitOne K (.type "dict") (.type "str") = some false
  i_NoneType_tuple : PySem.W.kitOne K (.type "NoneType") (.type "tuple") = some false
  i_bool_tuple : PySem.W.kitOne K (.type "bool") (.type "tuple") = some false
  i_int_tuple : PySem.W.kitOne K (.type "int") (.type "tuple") = some false
  i_str_tuple : PySem.W.kitOne K (.type "str") (.type "tuple") = some false
  i_list_tuple : PySem.W.kitOne K (.type "list") (.type "tuple") = some false
  i_tuple_tuple : PySem.W.kitOne K (.type "tuple") (.type "tuple") = some true
  i_dict_tuple : PySem.W.kitOne K (.type "dict") (.type "tuple") = some false
  m_Kind : mg "Kind" = some (.ref A.c_Kind)
  v_Kind : GlobV mg "Kind" (.ref A.c_Kind)
  m_Money : mg "Money" = some (.ref A.c_Money)
  v_Money : GlobV mg "Money" (.ref A.c_Money)
  m_Names : mg "Names" = some (.ref A.c_Names)
  v_Names : GlobV mg "Names" (.ref A.c_Names)
  m_NoAnswer : mg "NoAnswer" = some (.ref A.c_NoAnswer)
  v_NoAnswer : GlobV mg "NoAnswer" (.ref A.c_NoAnswer)
  m_NoNumber : mg "NoNumber" = some (.ref A.c_NoNumber)
  v_NoNumber : GlobV mg "NoNumber" (.ref A.c_NoNumber)
  m_Pick : mg "Pick" = some (.ref A.c_Pick)
  v_Pick : GlobV mg "Pick" (.ref A.c_Pick)
  m_Whole : mg "Whole" = some (.ref A.c_Whole)
  v_Whole : GlobV mg "Whole" (.ref A.c_Whole)
  m_YesNo : mg "YesNo" = some (.ref A.c_YesNo)
  v_YesNo : GlobV mg "YesNo" (.ref A.c_YesNo)
  x_NoAnswer : PySem.W.excIn K A.c_NoAnswer mroVE "ValueError.__new__" = true
  ec_NoAnswer : ExcCls K A.c_NoAnswer
  x_NoNumber : PySem.W.excIn K A.c_NoNumber mroVE "ValueError.__new__" = true
  ec_NoNumber : ExcCls K A.c_NoNumber
  em_NoNumber_NoNumber : PySem.W.exmOne K (.ref A.c_NoNumber) (.ref A.c_NoNumber) = some true
  em_NoAnswer_NoAnswer : PySem.W.exmOne K (.ref A.c_NoAnswer) (.ref A.c_NoAnswer) = some true
  cl_YesNo : Cls K A.c_YesNo
  ty_YesNo : ∀ (H : Hp) (a dx : Addr) (fs : List (Str × V)), H a = some (.ins A.c_YesNo dx fs) → TyOf K H (.ref a) (.ref A.c_YesNo)
  mk_YesNo : Mk K A.c_YesNo A.f_c_YesNo___init
  me_YesNo_fits : Meth K A.c_YesNo "fits" A.f_c_YesNo_fits
  me_YesNo_answer_of : Meth K A.c_YesNo "answer_of" A.f_c_YesNo_answer_of
  me_YesNo_shown : Meth K A.c_YesNo "shown" A.f_c_YesNo_shown
  me_YesNo_rank : Meth K A.c_YesNo "rank" A.f_c_YesNo_rank
  me_YesNo_sample : Meth K A.c_YesNo "sample" A.f_c_YesNo_sample
  me_YesNo_read : Meth K A.c_YesNo "read" A.f_c_Kind_read
  no_YesNo_low : NoAttr K A.c_YesNo "low"
  no_YesNo_high : NoAttr K A.c_YesNo "high"
  cl_Whole : Cls K A.c_Whole
  ty_Whole : ∀ (H : Hp) (a dx : Addr) (fs : List (Str × V)), H a = some (.ins A.c_Whole dx fs) → TyOf K H (.ref a) (.ref A.c_Whole)
  mk_Whole : Mk K A.c_Whole A.f_c_Kind___init
  me_Whole_fits : Meth K A.c_Whole "fits" A.f_c_Whole_fits
  me_Whole_answer_of : Meth K A.c_Whole "answer_of" A.f_c_Whole_answer_of
  me_Whole_shown : Meth K A.c_Whole "shown" A.f_c_Whole_shown
  me_Whole_rank : Meth K A.c_Whole "rank" A.f_c_Whole_rank
  me_Whole_sample : Meth K A.c_Whole "sample" A.f_c_Whole_sample
  me_Whole_read : Meth K A.c_Whole "read" A.f_c_Kind_read
  no_Whole_low : NoAttr K A.c_Whole "low"
  no_Whole_high : NoAttr K A.c_Whole "high"
  cl_Money : Cls K A.c_Money
  ty_Money : ∀ (H : Hp) (a dx : Addr) (fs : List (Str × V)), H a = some (.ins A.c_Money dx fs) → TyOf K H (.ref a) (.ref A.c_Money)
  mk_Money : Mk K A.c_Money A.f_c_Kind___init
  me_Money_fits : Meth K A.c_Money "fits" A.f_c_Whole_fits
  me_Money_answer_of : Meth K A.c_Money "answer_of" A.f_c_Money_answer_of
  me_Money_shown : Meth K A.c_Money "shown" A.f_c_Money_shown
  me_Money_rank : Meth K A.c_Money "rank" A.f_c_Whole_rank
  me_Money_sample : Meth K A.c_Money "sample" A.f_c_Whole_sample
  me_Money_read : Meth K A.c_Money "read" A.f_c_Kind_read
  no_Money_low : NoAttr K A.c_Money "low"
  no_Money_high : NoAttr K A.c_Money "high"
  cl_Pick : Cls K A.c_Pick
  ty_Pick : ∀ (H : Hp) (a dx : Addr) (fs : List (Str × V)), H a = some (.ins A.c_Pick dx fs) → TyOf K H (.ref a) (.ref A.c_Pick)
  mk_Pick : Mk K A.c_Pick A.f_c_Pick___init
  me_Pick_fits : Meth K A.c_Pick "fits" A.f_c_Pick_fits
  me_Pick_answer_of : Meth K A.c_Pick "answer_of" A.f_c_Pick_answer_of
  me_Pick_shown : Meth K A.c_Pick "shown" A.f_c_Pick_shown
  me_Pick_rank : Meth K A.c_Pick "rank" A.f_c_Pick_rank
  me_Pick_sample : Meth K A.c_Pick "sample" A.f_c_Pick_sample
  me_Pick_read : Meth K A.c_Pick "read" A.f_c_Kind_read
  no_Pick_low : NoAttr K A.c_Pick "low"
  no_Pick_high : NoAttr K A.c_Pick "high"
  no_Pick_words : NoAttr K A.c_Pick "words"
  cl_Names : Cls K A.c_Names
  ty_Names : ∀ (H : Hp) (a dx : Addr) (fs : List (Str × V)), H a = some (.ins A.c_Names dx fs) → TyOf K H (.ref a) (.ref A.c_Names)
  mk_Names : Mk K A.c_Names A.f_c_Names___init
  me_Names_fits : Meth K A.c_Names "fits" A.f_c_Names_fits
  me_Names_answer_of : Meth K A.c_Names "answer_of" A.f_c_Names_answer_of
  me_Names_shown : Meth K A.c_Names "shown" A.f_c_Names_shown
  me_Names_rank : Meth K A.c_Names "rank" A.f_c_Names_rank
  me_Names_sample : Meth K A.c_Names "sample" A.f_c_Names_sample
  me_Names_read : Meth K A.c_Names "read" A.f_c_Kind_read
  no_Names_low : NoAttr K A.c_Names "low"
  no_Names_high : NoAttr K A.c_Names "high"
  cf_Kind_init : ClsFn K A.c_Kind "__init__" A.f_c_Kind___init
theorem sc_is_whole : FnScope ["thing"] ["thing"] (defScope s_is_whole) := ⟨rfl, rfl, rfl, by decide +kernel, rfl, by decide +kernel, by decide +kernel⟩
theorem sc_is_name : FnScope ["thing"] ["thing"] (defScope s_is_name) := ⟨rfl, rfl, rfl, by decide +kernel, rfl, by decide +kernel, by decide +kernel⟩
theorem sc_are_unlike_names : FnScope ["words"] ["words"] (defScope s_are_unlike_names) := ⟨rfl, rfl, rfl, by decide +kernel, rfl, by decide +kernel, by decide +kernel⟩
theorem sc_are_figures : FnScope ["text"] ["text"] (defScope s_are_figures) := ⟨rfl, rfl, rfl, by decide +kernel, rfl, by decide +kernel, by decide +kernel⟩
theorem sc_figures_worth : FnScope ["figures", "worth", "sign"] ["figures"] (defScope s_figures_worth) := ⟨rfl, rfl, rfl, by decide +kernel, rfl, by decide +kernel, by decide +kernel⟩
theorem sc_number_of : FnScope ["text", "most", "below", "figures", "worth"] ["text", "most"] (defScope s_number_of) := ⟨rfl, rfl, rfl, by decide +kernel, rfl, by decide +kernel, by decide +kernel⟩
theorem sc_number_or_none : FnScope ["text"] ["text"] (defScope s_number_or_none) := ⟨rfl, rfl, rfl, by decide +kernel, rfl, by decide +kernel, by decide +kernel⟩
theorem sc_money_shown : FnScope ["hundredths", "figures", "minus"] ["hundredths"] (defScope s_money_shown) := ⟨rfl, rfl, rfl, by decide +kernel, rfl, by decide +kernel, by decide +kernel⟩
theorem sc_money_or_none : FnScope ["text", "figures", "worth", "hundredths"] ["text"] (defScope s_money_or_none) := ⟨rfl, rfl, rfl, by decide +kernel, rfl, by decide +kernel, by decide +kernel⟩
theorem sc_c_Kind___init : FnScope ["self", "low", "high"] ["self", "low", "high"] (defScope s_c_Kind___init) := ⟨rfl, rfl, rfl, by decide +kernel, rfl, by decide +kernel, by decide +kernel⟩
theorem sc_c_Kind_read : FnScope ["self", "text", "answer"] ["self", "text"] (defScope s_c_Kind_read) := ⟨rfl, rfl, rfl, by decide +kernel, rfl, by decide +kernel, by decide +kernel⟩
theorem sc_c_YesNo___init : FnScope ["self"] ["self"] (defScope s_c_YesNo___init) := ⟨rfl, rfl, rfl, by decide +kernel, rfl, by decide +kernel, by decide +kernel⟩
theorem sc_c_YesNo_fits : FnScope ["self", "thing"] ["self", "thing"] (defScope s_c_YesNo_fits) := ⟨rfl, rfl, rfl, by decide +kernel, rfl, by decide +kernel, by decide +kernel⟩
theorem sc_c_YesNo_answer_of : FnScope ["self", "text"] ["self", "text"] (defScope s_c_YesNo_answer_of) := ⟨rfl, rfl, rfl, by decide +kernel, rfl, by decide +kernel, by decide +kernel⟩
theorem sc_c_YesNo_shown : FnScope ["self", "answer"] ["self", "answer"] (defScope s_c_YesNo_shown) := ⟨rfl, rfl, rfl, by decide +kernel, rfl, by decide +kernel, by decide +kernel⟩
theorem sc_c_YesNo_rank : FnScope ["self", "answer"] ["self", "answer"] (defScope s_c_YesNo_rank) := ⟨rfl, rfl, rfl, by decide +kernel, rfl, by decide +kernel, by decide +kernel⟩
theorem sc_c_YesNo_sample : FnScope ["self", "rank"] ["self", "rank"] (defScope s_c_YesNo_sample) := ⟨rfl, rfl, rfl, by decide +kernel, rfl, by decide +kernel, by decide +kernel⟩
theorem sc_c_Whole_fits : FnScope ["self", "thing"] ["self", "thing"] (defScope s_c_Whole_fits) := ⟨rfl, rfl, rfl, by decide +kernel, rfl, by decide +kernel, by decide +kernel⟩
theorem sc_c_Whole_answer_of : FnScope ["self", "text"] ["self", "text"] (defScope s_c_Whole_answer_of) := ⟨rfl, rfl, rfl, by decide +kernel, rfl, by decide +kernel, by decide +kernel⟩
theorem sc_c_Whole_shown : FnScope ["self", "answer"] ["self", "answer"] (defScope s_c_Whole_shown) := ⟨rfl, rfl, rfl, by decide +kernel, rfl, by decide +kernel, by decide +kernel⟩
theorem sc_c_Whole_rank : FnScope ["self", "answer"] ["self", "answer"] (defScope s_c_Whole_rank) := ⟨rfl, rfl, rfl, by decide +kernel, rfl, by decide +kernel, by decide +kernel⟩
theorem sc_c_Whole_sample : FnScope ["self", "rank"] ["self", "rank"] (defScope s_c_Whole_sample) := ⟨rfl, rfl, rfl, by decide +kernel, rfl, by decide +kernel, by decide +kernel⟩
theorem sc_c_Money_answer_of : FnScope ["self", "text"] ["self", "text"] (defScope s_c_Money_answer_of) := ⟨rfl, rfl, rfl, by decide +kernel, rfl, by decide +kernel, by decide +kernel⟩
theorem sc_c_Money_shown : FnScope ["self", "answer"] ["self", "answer"] (defScope s_c_Money_shown) := ⟨rfl, rfl, rfl, by decide +kernel, rfl, by decide +kernel, by decide +kernel⟩
theorem sc_c_Pick___init : FnScope ["self", "words"] ["self", "words"] (defScope s_c_Pick___init) := ⟨rfl, rfl, rfl, by decide +kernel, rfl, by decide +kernel, by decide +kernel⟩
theorem sc_c_Pick_fits : FnScope ["self", "thing"] ["self", "thing"] (defScope s_c_Pick_fits) := ⟨rfl, rfl, rfl, by decide +kernel, rfl, by decide +kernel, by decide +kernel⟩
theorem sc_c_Pick_answer_of : FnScope ["self", "text"] ["self", "text"] (defScope s_c_Pick_answer_of) := ⟨rfl, rfl, rfl, by decide +kernel, rfl, by decide +kernel, by decide +kernel⟩
theorem sc_c_Pick_shown : FnScope ["self", "answer"] ["self", "answer"] (defScope s_c_Pick_shown) := ⟨rfl, rfl, rfl, by decide +kernel, rfl, by decide +kernel, by decide +kernel⟩
theorem sc_c_Pick_rank : FnScope ["self", "answer"] ["self", "answer"] (defScope s_c_Pick_rank) := ⟨rfl, rfl, rfl, by decide +kernel, rfl, by decide +kernel, by decide +kernel⟩
theorem sc_c_Pick_sample : FnScope ["self", "rank"] ["self", "rank"] (defScope s_c_Pick_sample) := ⟨rfl, rfl, rfl, by decide +kernel, rfl, by decide +kernel, by decide +kernel⟩
theorem sc_c_Names___init : FnScope ["self", "most"] ["self", "most"] (defScope s_c_Names___init) := ⟨rfl, rfl, rfl, by decide +kernel, rfl, by decide +kernel, by decide +kernel⟩
theorem sc_c_Names_fits : FnScope ["self", "thing"] ["self", "thing"] (defScope s_c_Names_fits) := ⟨rfl, rfl, rfl, by decide +kernel, rfl, by decide +kernel, by decide +kernel⟩
theorem sc_c_Names_answer_of : FnScope ["self", "text"] ["self", "text"] (defScope s_c_Names_answer_of) := ⟨rfl, rfl, rfl, by decide +kernel, rfl, by decide +kernel, by decide +kernel⟩
theorem sc_c_Names_shown : FnScope ["self", "answer"] ["self", "answer"] (defScope s_c_Names_shown) := ⟨rfl, rfl, rfl, by decide +kernel, rfl, by decide +kernel, by decide +kernel⟩
theorem sc_c_Names_rank : FnScope ["self", "answer"] ["self", "answer"] (defScope s_c_Names_rank) := ⟨rfl, rfl, rfl, by decide +kernel, rfl, by decide +kernel, by decide +kernel⟩
theorem sc_c_Names_sample : FnScope ["self", "rank"] ["self", "rank"] (defScope s_c_Names_sample) := ⟨rfl, rfl, rfl, by decide +kernel, rfl, by decide +kernel, by decide +kernel⟩
theorem sc_law_cell_at : FnScope ["_law_script", "_law_k"] ["_law_script", "_law_k"] (defScope s_law_cell_at) := ⟨rfl, rfl, rfl, by decide +kernel, rfl, by decide +kernel, by decide +kernel⟩
theorem sc_law_whole : FnScope ["_law_found"] ["_law_found"] (defScope s_law_whole) := ⟨rfl, rfl, rfl, by decide +kernel, rfl, by decide +kernel, by decide +kernel⟩
theorem sc_law_letter : FnScope ["_law_number"] ["_law_number"] (defScope s_law_letter) := ⟨rfl, rfl, rfl, by decide +kernel, rfl, by decide +kernel, by decide +kernel⟩
theorem sc_law_sign_by : FnScope ["_law_cell", "_law_some"] ["_law_cell"] (defScope s_law_sign_by) := ⟨rfl, rfl, rfl, by decide +kernel, rfl, by decide +kernel, by decide +kernel⟩
theorem sc_law_wide : FnScope ["_law_cell"] ["_law_cell"] (defScope s_law_wide) := ⟨rfl, rfl, rfl, by decide +kernel, rfl, by decide +kernel, by decide +kernel⟩
theorem sc_law_low : FnScope ["_law_cell"] ["_law_cell"] (defScope s_law_low) := ⟨rfl, rfl, rfl, by decide +kernel, rfl, by decide +kernel, by decide +kernel⟩
theorem sc_law_size : FnScope ["_law_cell"] ["_law_cell"] (defScope s_law_size) := ⟨rfl, rfl, rfl, by decide +kernel, rfl, by decide +kernel, by decide +kernel⟩
theorem sc_law_words : FnScope ["_law_cell", "_law_many", "_law_base", "_law_at", "_law_words_here", "_law_k"] ["_law_cell", "_law_many"] (defScope s_law_words) := ⟨rfl, rfl, rfl, by decide +kernel, rfl, by decide +kernel, by decide +kernel⟩
theorem sc_law_kinds : FnScope ["_law_script", "_law_first", "_law_low_here", "_law_size_here", "_law_words_here"] ["_law_script"] (defScope s_law_kinds) := ⟨rfl, rfl, rfl, by decide +kernel, rfl, by decide +kernel, by decide +kernel⟩
theorem sc_law_answer : FnScope ["_law_kind", "_law_k", "_law_cell"] ["_law_kind", "_law_k", "_law_cell"] (defScope s_law_answer) := ⟨rfl, rfl, rfl, by decide +kernel, rfl, by decide +kernel, by decide +kernel⟩
theorem sc_law_spoilt : FnScope ["_law_word", "_law_cell", "_law_sign", "_law_at", "_law_way", "_law_pair"] ["_law_word", "_law_cell"] (defScope s_law_spoilt) := ⟨rfl, rfl, rfl, by decide +kernel, rfl, by decide +kernel, by decide +kernel⟩
theorem sc_law_bare : FnScope ["_law_word", "_law_at", "_law_end"] ["_law_word"] (defScope s_law_bare) := ⟨rfl, rfl, rfl, by decide +kernel, rfl, by decide +kernel, by decide +kernel⟩
theorem sc_law_read : FnScope ["_law_kind", "_law_word", "_law_refused", "_law_found"] ["_law_kind", "_law_word"] (defScope s_law_read) := ⟨rfl, rfl, rfl, by decide +kernel, rfl, by decide +kernel, by decide +kernel⟩
theorem sc_law_holds : FnScope ["_law_kind", "_law_one", "_law_rank", "_law_word"] ["_law_kind", "_law_one"] (defScope s_law_holds) := ⟨rfl, rfl, rfl, by decide +kernel, rfl, by decide +kernel, by decide +kernel⟩
theorem sc_law_all : FnScope ["_law_kind", "_law_one", "_law_cell", "_law_word", "_law_spoilt_here", "_law_refused", "_law_found"] ["_law_kind", "_law_one", "_law_cell"] (defScope s_law_all) := ⟨rfl, rfl, rfl, by decide +kernel, rfl, by decide +kernel, by decide +kernel⟩
theorem sc_law : FnScope ["_law_script", "_law_kinds_here", "_law_cell", "_law_k"] ["_law_script"] (defScope s_law) := ⟨rfl, rfl, rfl, by decide +kernel, rfl, by decide +kernel, by decide +kernel⟩
end K08
set_option maxHeartbeats 4000000
namespace K08
open PySem L2
seal PE PT PW PA PS PSs PG PGs PI PO PSet OpR UnR CallR TruR IxR SlR PC PPs
local macro_rules | `(tactic| walk_at "rd1") => `(tactic| first
  | (refine And.intro rfl ?_)
  | (refine And.intro (by assumption) ?_)
  | (refine And.intro (fun _ e => e) ?_)
  | (refine And.intro (TyOf.str _) ?_) | (refine And.intro (TyOf.int _) ?_) | (refine And.intro (TyOf.bl _) ?_) | (refine And.intro TyOf.non ?_)
  | (refine iteT ?_) | (refine iteF ?_)
  | (apply Exists.intro))
local macro_rules | `(tactic| walk_at "rd") => `(tactic| repeat (walk_at "rd1"))

def spFig : Sp := fun vs H Q _ => ∃ z, vs = [.str z] ∧ z.length ≤ sizeLine ∧ ∀ H', Same H H' → Q (.bl (figB (cd z))) H'
def spWorth : Sp := fun vs H Q _ => ∃ z, vs = [.str z] ∧ z.length ≤ 1000 ∧ (cd z).all inF = true ∧ Q (.int (val (cd z))) H
def spNum (K : PySem.W.Frag) (A : Adr) : Sp := fun vs H Q E => ∃ x most, vs = [x, .int most] ∧ 1 ≤ most ∧ ((∃ z, x = .str z ∧ Fine 1000 z ∧ (∀ n H', Same H H' → numB (cd z) most = some n → Q (.int n) H') ∧ (∀ H', Same H H' → numB (cd z) most = none → E (.ref A.c_NoNumber) none H')) ∨ (∃ t, TyE K H x t ∧ PySem.W.kitOne K t (.type "str") = some false ∧ ∀ H', Same H H' → E (.ref A.c_NoNumber) none H'))
section
variable {P : Program} {w : World} {K : PySem.W.Frag} {mg : Str → Option Value} {base : Heap} {A : Adr}
theorem ok_are_figures (T : Txt K mg A) : FnOk P w K mg base CX0 1 A.f_are_figures A.d_are_figures ["text"] spFig := by
  refine T.F_are_figures.ok sc_are_figures (fun vs H Q E h => ?_) (fun cdv A0 outer s H vs Q E hr h => ?_)
  · obtain ⟨x, rfl, _⟩ := h
    rfl
  obtain ⟨z, rfl, hz, q⟩ := h
  refine ⟨_, (pss_one (ps_ret (pe_and (pe_cmpR op_gt (pe_callB call_len_str (by rfl) T.n_len PySem.boot_len (pa_cons (pv 0) pa_nil)) pe_int (nomark _)) (pe_one (pe_callB (call_all rfl) (by rfl) T.n_all Bt.all (pa_cons (pe_compR (compOk_of (x := "sign") (M := ["text"]) rfl (by rfl)) rfl (pi_str (pv 0)) (fun _ _ _ _ => (pe_cmpR op_in_str (pv 0) (pe_gv rfl T.g_FIGURES) (by rfl)))) pa_nil)))))), ?_⟩
  walk_at "rd"
  refine ite2 (fun c => ?_) (fun c => ?_)
  · walk_at "rd"
    refine comp_strR hz (fun i ys H' => H' = H ∧ ys = ((cd z).take i).map fun c => V.bl (inF c)) ⟨rfl, rfl⟩ (fun i c ys H' hc hl hw => ?_) (fun ys H' hl hw p hp => ?_)
    · obtain ⟨rfl, rfl⟩ := hw
      walk_at "rd"
      rw [List.take_succ, hc]
      simp [inF, FIG]
    · obtain ⟨rfl, rfl⟩ := hw
      have e : (cd z).take z.length = cd z := List.take_of_length_le (by rw [len_cd]; exact Nat.le_refl _)
      rw [e]
      refine ⟨p, (cd z).map inF, rfl, SqL.of (by rw [upd_same, List.map_map]; rfl), ?_⟩
      have e2 : figB (cd z) = ((cd z).map inF).all id := by
        unfold figB
        have c' : (0 : Int) < z.length := of_decide_eq_true c
        rw [decide_eq_true (by rw [← len_cd]; omega), List.all_map]
        rfl
      rw [e2] at q
      exact q _ (same_new hp _)
  · have e : figB (cd z) = false := by
      unfold figB
      have c' : ¬ (0 : Int) < z.length := of_decide_eq_false (Bool.eq_false_iff.mpr c)
      rw [decide_eq_false (by rw [← len_cd]; omega)]
      rfl
    rw [e] at q
    exact q _ (Same.refl _)
theorem ok_figures_worth (T : Txt K mg A) : FnOk P w K mg base CX0 1 A.f_figures_worth A.d_figures_worth ["figures"] spWorth := by
  refine T.F_figures_worth.ok sc_figures_worth (fun vs H Q E h => ?_) (fun cdv A0 outer s H vs Q E hr h => ?_)
  · obtain ⟨x, rfl, _⟩ := h
    rfl
  obtain ⟨z, rfl, hz, hF, q⟩ := h
  refine ⟨_, (pss_cons (ps_set (i := 1) sc_figures_worth.nd rfl (by first | exact Or.inl rfl | exact Or.inr rfl) pe_int)
      (pss_cons (ps_forR PassesOwn.never rfl (pi_str (pv 0)) (pg_name (i := 2) sc_figures_worth.nd rfl (by first | exact Or.inl rfl | exact Or.inr rfl)) (pss_one (ps_set (i := 1) sc_figures_worth.nd rfl (by first | exact Or.inl rfl | exact Or.inr rfl) (pe_op op_add (pe_op op_mulB (pv 1) pe_int) (pe_bm PySem.F.plainAttrs_str PySem.F.slot_str_find PySem.F.type_str_find mt_find (pe_gv rfl T.g_FIGURES) (pa_cons (pv 2) pa_nil))))))
      (pss_one (ps_ret (pv 1))))), ?_⟩
  walk_at "rd"
  refine for_strR (fun i σ H' => H' = H ∧ ∃ v, σ = [some (.str z), some (.int (val ((cd z).take i))), v]) ⟨rfl, ⟨_, rfl⟩⟩ (fun i c σ H' hc hp => ?_) (fun σ H' hp => ?_)
  · obtain ⟨rfl, v, rfl⟩ := hp
    have hi : i < (cd z).length := (List.getElem?_eq_some_iff.mp hc).1
    have hcF : inF c = true := List.all_eq_true.mp hF c (List.mem_of_getElem? hc)
    have hb := val_bound i ((cd z).take i) (by rw [List.length_take]; omega) (by
      rw [List.all_eq_true]; intro x hx; exact List.all_eq_true.mp hF x (List.mem_of_mem_take hx))
    have hb2 := pow10_ib hb.1 hb.2
    rw [← len_cd] at hi
    refine ⟨_, rfl, _, _, rfl, rfl, ⟨by show ib _ ≤ 60000000; omega, by decide⟩, ?_⟩
    walk_at "rd"
    have e : Txt.find FIG (S [c]) = ((c - 48 : Nat) : Int) := findF hcF
    show some _ :: some (V.int (val ((cd z).take i) * 10 + Txt.find FIG (S [c]))) :: _ = _
    rw [e, val_take hc]
    rfl
  · obtain ⟨rfl, v, rfl⟩ := hp
    have e : (cd z).take z.length = cd z := List.take_of_length_le (by rw [len_cd]; exact Nat.le_refl _)
    rw [e]
    exact ⟨_, rfl, q⟩
theorem ok_number_of (T : Txt K mg A) : FnOk P w K mg base (CXW P w) 2 A.f_number_of A.d_number_of ["text", "most"] (spNum K A) := by
  have G_are_figures := ok_are_figures (P := P) (w := w) (base := base) T
  have G_figures_worth := ok_figures_worth (P := P) (w := w) (base := base) T
  refine T.F_number_of.okX sc_number_of (fun vs H Q E h => ?_) (fun cdv A0 outer s H vs Q E hr h => ?_)
  · obtain ⟨x, most, rfl, _⟩ := h
    rfl
  obtain ⟨x, most, rfl, hm, h⟩ := h
  refine ⟨_, (pss_cons (ps_if (pt_not (pt_val (pe_callB call_isi (by rfl) T.n_isinstance Bt.isinstance (pa_cons (pv 0) (pa_cons (pe_bltn (v := .ty "str") rfl T.n_str Bt.str rfl) pa_nil))))) (pss_one (ps_raise T.m_NoNumber T.x_NoNumber (pa_cons pe_str pa_nil) rfl)) pss_nil)
      (pss_cons (ps_if (pt_cmpR op_eq (pv 0) pe_str (nomark _)) (pss_one (ps_ret pe_int)) pss_nil)
      (pss_cons (ps_set (i := 2) sc_number_of.nd rfl (by first | exact Or.inl rfl | exact Or.inr rfl) (pe_bm PySem.F.plainAttrs_str PySem.F.slot_str_startswith PySem.F.type_str_startswith mt_startswith (pv 0) (pa_cons pe_str pa_nil)))
      (pss_cons (ps_set (i := 3) sc_number_of.nd rfl (by first | exact Or.inl rfl | exact Or.inr rfl) (pe_ifExp (pt_val (pv 2)) (pe_slice sl_str (pv 0) (po_some pe_int) po_none) (pv 0)))
      (pss_cons (ps_if (PW.pt (pw_or (pt_not (pt_val (pe_call G_are_figures (hr.mono (by decide)) rfl T.m_are_figures T.k_are_figures T.b_are_figures .nil pass0 (pa_cons (pv 3) pa_nil)))) (pw_or (pt_cmpR op_eq (pe_ix ix_str (pv 3) pe_int (fun _ _ => rfl)) pe_str (nomark _)) (pw_or1 (pt_cmpR op_gt (pe_callB call_len_str (by rfl) T.n_len PySem.boot_len (pa_cons (pv 3) pa_nil)) (pv 1) (nomark _)))))) (pss_one (ps_raise T.m_NoNumber T.x_NoNumber (pa_cons (pe_fstrR (pv 0)) pa_nil) rfl)) pss_nil)
      (pss_cons (ps_set (i := 4) sc_number_of.nd rfl (by first | exact Or.inl rfl | exact Or.inr rfl) (pe_call G_figures_worth (hr.mono (by decide)) rfl T.m_figures_worth T.k_figures_worth T.b_figures_worth .nil pass0 (pa_cons (pv 3) pa_nil)))
      (pss_one (ps_ret (pe_ifExp (pt_val (pv 2)) (pe_un un_neg (pv 4)) (pv 4)))))))))), ?_⟩
  rcases h with ⟨z, rfl, hz, qs, qn⟩ | ⟨t, ty, kt, q⟩
  · refine ⟨_, rfl, _, _, _, _, rfl, rfl, .old (.str z), T.i_str_str, _, rfl, iteF ?_⟩
    refine ⟨_, rfl, rfl, _, rfl, ?_⟩
    refine ite2 (fun c => ?_) (fun c => ?_) <;> rw [dec_cd, show cd (Str.ofString "0") = [48] by decide +kernel] at c
    · have c' : cd z = [48] := of_decide_eq_true c
      refine qs _ _ (Same.refl _) ?_
      rw [c']; exact numB_zero hm
    have c0 : cd z ≠ [48] := of_decide_eq_false (Bool.eq_false_iff.mpr c)
    have es := starts1 z 45
    rw [show S [45] = (Str.ofString "-") by decide +kernel] at es
    have hz2 : z.length ≤ sizeLine := hz.size
    cases hb : PySem.Txt.startswith z (Str.ofString "-") <;> rw [hb] at es
    · have c1 : ¬ (cd z).take 1 = [45] := of_decide_eq_false es.symm
      obtain ⟨f, rfl⟩ : ∃ f, z = f := ⟨z, rfl⟩
      have ef : cd z = fig (cd z) := (if_neg c1).symm
      have hf1 : z.length ≤ 1000 := hz.len
      have hf2 := hz2
      walk_at "rd"
      rw [hb]
      walk_at "rd" 
      intro H1 s1
      cases hf : figB (cd z)
      · refine ⟨_, rfl, iteT ⟨_, rfl, z, rfl, Nat.le_trans hz.len (by decide), hz.cod, fun y => ⟨(by show 1 ≤ sizeLine; decide), qn _ s1 (numB_no1 (by rw [← ef]; exact hf))⟩⟩⟩
      refine ⟨_, rfl, iteF ?_⟩
      obtain ⟨f1, f2⟩ := (figB_iff _).mp hf
      obtain ⟨k, hk, hk1⟩ := take1_at (l := cd z) f1
      refine ⟨_, rfl, z, 0, k, rfl, rfl, hf2, hk, rfl, _, rfl, ?_⟩
      refine ite2 (fun c2 => ?_) (fun c2 => ?_) <;> rw [dec_cd, show cd (Str.ofString "0") = [48] by decide +kernel] at c2
      · have c3 : (fig (cd z)).take 1 = [48] := by rw [← ef, hk1]; exact of_decide_eq_true c2
        exact ⟨_, rfl, z, rfl, Nat.le_trans hz.len (by decide), hz.cod, fun y => ⟨(by show 1 ≤ sizeLine; decide), qn _ s1 (numB_no2 c3 c0)⟩⟩
      have c3 : ¬ (fig (cd z)).take 1 = [48] := by rw [← ef, hk1]; exact of_decide_eq_false (Bool.eq_false_iff.mpr c2)
      refine ⟨_, rfl, _, rfl, hf2, _, rfl, _, _, rfl, rfl, _, rfl, ?_⟩
      rw [len_cd z, ef]
      refine ite2 (fun c4 => ?_) (fun c4 => ?_)
      · have c5 : most < ((fig (cd z)).length : Nat) := of_decide_eq_true c4
        exact ⟨_, rfl, z, rfl, Nat.le_trans hz.len (by decide), hz.cod, fun y => ⟨(by show 1 ≤ sizeLine; decide), qn _ s1 (numB_no3 c5)⟩⟩
      have c5 : ¬ most < ((fig (cd z)).length : Nat) := of_decide_eq_false (Bool.eq_false_iff.mpr c4)
      have yes := numB_yes (by rw [← ef]; exact hf) c3 c5
      rw [if_neg c1, ← ef] at yes
      refine ⟨_, rfl, z, rfl, hf1, f2, ?_⟩
      walk_at "rd"
      exact qs _ _ s1 yes
    · have c1 : (cd z).take 1 = [45] := of_decide_eq_true es.symm
      walk_at "rd"
      rw [hb]
      walk_at "rd"
      obtain ⟨f, hfe⟩ : ∃ f, S (cutN (cd z) (some 1) none) = f := ⟨_, rfl⟩
      rw [hfe]
      have ef : cd f = fig (cd z) := by rw [← hfe, cd_S]; exact (cutFrom (cd z) 1).trans (if_pos c1).symm
      have hf1 : f.length ≤ 1000 := by rw [← hfe]; exact (hz.cut _ _).len
      have hf2 : f.length ≤ sizeLine := by rw [← hfe]; exact (hz.cut _ _).size
      refine ⟨hf2, ?_⟩
      intro H1 s1
      cases hf : figB (cd f)
      · refine ⟨_, rfl, iteT ⟨_, rfl, z, rfl, Nat.le_trans hz.len (by decide), hz.cod, fun y => ⟨(by show 1 ≤ sizeLine; decide), qn _ s1 (numB_no1 (by rw [← ef]; exact hf))⟩⟩⟩
      refine ⟨_, rfl, iteF ?_⟩
      obtain ⟨f1, f2⟩ := (figB_iff _).mp hf
      obtain ⟨k, hk, hk1⟩ := take1_at (l := cd f) f1
      refine ⟨_, rfl, f, 0, k, rfl, rfl, hf2, hk, rfl, _, rfl, ?_⟩
      refine ite2 (fun c2 => ?_) (fun c2 => ?_) <;> rw [dec_cd, show cd (Str.ofString "0") = [48] by decide +kernel] at c2
      · have c3 : (fig (cd z)).take 1 = [48] := by rw [← ef, hk1]; exact of_decide_eq_true c2
        exact ⟨_, rfl, z, rfl, Nat.le_trans hz.len (by decide), hz.cod, fun y => ⟨(by show 1 ≤ sizeLine; decide), qn _ s1 (numB_no2 c3 c0)⟩⟩
      have c3 : ¬ (fig (cd z)).take 1 = [48] := by rw [← ef, hk1]; exact of_decide_eq_false (Bool.eq_false_iff.mpr c2)
      refine ⟨_, rfl, _, rfl, hf2, _, rfl, _, _, rfl, rfl, _, rfl, ?_⟩
      rw [len_cd f, ef]
      refine ite2 (fun c4 => ?_) (fun c4 => ?_)
      · have c5 : most < ((fig (cd z)).length : Nat) := of_decide_eq_true c4
        exact ⟨_, rfl, z, rfl, Nat.le_trans hz.len (by decide), hz.cod, fun y => ⟨(by show 1 ≤ sizeLine; decide), qn _ s1 (numB_no3 c5)⟩⟩
      have c5 : ¬ most < ((fig (cd z)).length : Nat) := of_decide_eq_false (Bool.eq_false_iff.mpr c4)
      have yes := numB_yes (by rw [← ef]; exact hf) c3 c5
      rw [if_pos c1, ← ef] at yes
      refine ⟨_, rfl, f, rfl, hf1, f2, ?_⟩
      walk_at "rd"
      exact qs _ _ s1 yes
  · refine ⟨_, rfl, _, _, _, _, rfl, rfl, ty, kt, _, rfl, iteT ?_⟩
    refine ⟨(by show 1 ≤ sizeLine; decide), q _ (Same.refl _)⟩
end
end K08
set_option maxHeartbeats 4000000
namespace K08
open PySem L2
seal PE PT PW PA PS PSs PG PGs PI PO PSet OpR UnR CallR TruR IxR SlR PC PPs
local macro_rules | `(tactic| walk_at "rd1") => `(tactic| first
  | (refine And.intro rfl ?_)
  | (refine And.intro (by assumption) ?_)
  | (refine And.intro (fun _ e => e) ?_)
  | (refine And.intro (TyOf.str _) ?_) | (refine And.intro (TyOf.int _) ?_) | (refine And.intro (TyOf.bl _) ?_) | (refine And.intro TyOf.non ?_)
  | (refine iteT ?_) | (refine iteF ?_)
  | (apply Exists.intro))
local macro_rules | `(tactic| walk_at "rd") => `(tactic| repeat (walk_at "rd1"))

/-- a kind of whole numbers: its class, its fields -/
abbrev flds (lo hi : Int) : List (Str × V) := [("low", .int lo), ("high", .int hi)]
def fitW (lo hi : Int) : V → Bool
  | .int n => decide (lo ≤ n) && decide (n ≤ hi)
  | _ => false
def spIsWhole (K : PySem.W.Frag) : Sp := fun vs H Q _ => ∃ x t bi bb, vs = [x] ∧ TyE K H x t ∧ PySem.W.kitOne K t (.type "int") = some bi ∧ PySem.W.kitOne K t (.type "bool") = some bb ∧ Q (.bl (bi && !bb)) H
def spNon : Sp := fun vs H Q _ => ∃ z, vs = [.str z] ∧ Fine 1000 z ∧ ∀ H', Same H H' → Q (numV (numB (cd z) 60)) H'
def spInit (K : PySem.W.Frag) : Sp := fun vs H Q _ => ∃ p C dx lo hi, vs = [.ref p, .int lo, .int hi] ∧ H p = some (.ins C dx []) ∧ Cls K C ∧ NoAttr K C "low" ∧ NoAttr K C "high" ∧ Q .non (upd H p (.ins C dx (flds lo hi)))
def spFits (K : PySem.W.Frag) (C : Addr) : Sp := fun vs H Q _ => ∃ p dx lo hi x, ∃ _ : Thing K H x, vs = [.ref p, x] ∧ H p = some (.ins C dx (flds lo hi)) ∧ Q (.bl (fitW lo hi x)) H
theorem nlo : (("high" : Str) == ("low" : Str)) = false := by decide +kernel
theorem put_low (v : V) : putF "low" v [] = [(("low" : Str), v)] := rfl
theorem put_high (v w : V) : putF "high" w [(("low" : Str), v)] = [(("low" : Str), v), (("high" : Str), w)] := by
  unfold putF
  rw [if_neg (by decide +kernel)]; rfl
section
variable {P : Program} {w : World} {K : PySem.W.Frag} {mg : Str → Option Value} {base : Heap} {A : Adr}
theorem ok_is_whole (T : Txt K mg A) : FnOk P w K mg base CX0 1 A.f_is_whole A.d_is_whole ["thing"] (spIsWhole K) := by
  refine T.F_is_whole.ok sc_is_whole (fun vs H Q E h => ?_) (fun cdv A0 outer s H vs Q E hr h => ?_)
  · obtain ⟨x, _, _, _, rfl, _⟩ := h
    rfl
  obtain ⟨x, t, bi, bb, rfl, ty, k1, k2, q⟩ := h
  refine ⟨_, (pss_one (ps_ret (pe_and (pe_callB call_isi (by rfl) T.n_isinstance Bt.isinstance (pa_cons (pv 0) (pa_cons (pe_bltn (v := .ty "int") rfl T.n_int Bt.int rfl) pa_nil))) (pe_one (pe_not (pe_callB call_isi (by rfl) T.n_isinstance Bt.isinstance (pa_cons (pv 0) (pa_cons (pe_bltn (v := .ty "bool") rfl T.n_bool Bt.bool rfl) pa_nil)))))))), ?_⟩
  refine ⟨_, rfl, _, _, _, _, rfl, rfl, ty, k1, _, rfl, ?_⟩
  cases bi with
  | false => exact iteF q
  | true =>
    refine iteT ?_
    refine ⟨_, rfl, _, _, _, _, rfl, rfl, ty, k2, _, rfl, ?_⟩
    exact q
theorem ok_number_or_none (T : Txt K mg A) : FnOk P w K mg base CX0 3 A.f_number_or_none A.d_number_or_none ["text"] spNon := by
  have G_number_of := ok_number_of (P := P) (w := w) (base := base) T
  refine T.F_number_or_none.ok sc_number_or_none (fun vs H Q E h => ?_) (fun cdv A0 outer s H vs Q E hr h => ?_)
  · obtain ⟨x, rfl, _⟩ := h
    rfl
  obtain ⟨z, rfl, hz, q⟩ := h
  refine ⟨_, (pss_one (ps_try rfl rfl (psx_one (psx_ret (pex_call G_number_of (hr.mono (by decide)) rfl T.m_number_of T.k_number_of T.bd_number_of T.dv_number_of (pa_cons (pv 0) pa_nil)))) rfl T.m_NoNumber (fun _ => (pss_one (ps_ret pe_non))))), ?_⟩
  refine ⟨_, rfl, _, _, rfl, by decide, .inl ⟨z, rfl, hz, fun n H' s1 e => ?_, fun H' s1 e => ?_⟩⟩
  · rw [e] at q; exact q _ s1
  · refine ⟨T.em_NoNumber_NoNumber, ?_⟩
    rw [e] at q; exact q _ s1
theorem ok_init (T : Txt K mg A) : FnOk P w K mg base CX0 1 A.f_c_Kind___init A.d_c_Kind___init ["self", "low", "high"] (spInit K) := by
  refine T.F_c_Kind___init.ok sc_c_Kind___init (fun vs H Q E h => ?_) (fun cdv A0 outer s H vs Q E hr h => ?_)
  · obtain ⟨p, C, dx, lo, hi, rfl, _⟩ := h
    rfl
  obtain ⟨p, C, dx, lo, hi, rfl, hp, cl, n1, n2, q⟩ := h
  refine ⟨_, (pss_cons (ps_fld (pv 0) (pv 1) rfl)
      (pss_one (ps_fld (pv 0) (pv 2) rfl))), ?_⟩
  refine ⟨_, rfl, _, rfl, p, C, dx, _, rfl, hp, cl, n1, by decide, ?_⟩
  refine ⟨_, rfl, _, rfl, p, C, dx, _, rfl, upd_same, cl, n2, (by show 1 < 1000; decide), ?_⟩
  rw [upd_upd, put_low, put_high]
  exact q
theorem ok_fits (T : Txt K mg A) {C : Addr} (cl : Cls K C) (n1 : NoAttr K C "low") (n2 : NoAttr K C "high") : FnOk P w K mg base CX0 2 A.f_c_Whole_fits A.d_c_Whole_fits ["self", "thing"] (spFits K C) := by
  have G_is_whole := ok_is_whole (P := P) (w := w) (base := base) T
  refine T.F_c_Whole_fits.ok sc_c_Whole_fits (fun vs H Q E h => ?_) (fun cdv A0 outer s H vs Q E hr h => ?_)
  · obtain ⟨p, dx, lo, hi, x, _, rfl, _⟩ := h
    rfl
  obtain ⟨p, dx, lo, hi, x, th, rfl, hp, q⟩ := h
  refine ⟨_, (pss_one (ps_ret (pe_and (pe_call G_is_whole (hr.mono (by decide)) rfl T.m_is_whole T.k_is_whole T.b_is_whole .nil pass0 (pa_cons (pv 1) pa_nil)) (pe_one (pe_chain op_le op_le (pe_fld (pv 0) rfl) (pv 1) (pe_fld (pv 0) rfl)))))), ?_⟩
  refine ⟨_, rfl, x, _, _, _, rfl, th.ty, th.ki, th.kb, _, rfl, ?_⟩
  cases e : (th.bi && !th.bb) with
  | false =>
    refine iteF ?_
    have : fitW lo hi x = false := by
      cases x <;> first | rfl | skip
      rw [th.ni _ rfl] at e; cases e
    rw [this] at q
    exact q
  | true =>
    obtain ⟨n, rfl⟩ := th.hi e
    refine iteT ?_
    refine ⟨_, rfl, p, C, dx, _, _, rfl, hp, cl, n1, lk1, _, rfl, _, _, rfl, rfl, _, rfl, ite2 (fun c => ?_) (fun c => ?_)⟩
    · refine ⟨_, rfl, p, C, dx, _, _, rfl, hp, cl, n2, lk2 nlo, _, _, rfl, rfl, ?_⟩
      have : fitW lo hi (.int n) = decide (n ≤ hi) := by
        show (decide (lo ≤ n) && decide (n ≤ hi)) = _
        rw [show decide (lo ≤ n) = true from c]; rfl
      rw [this] at q
      exact q
    · have : fitW lo hi (.int n) = false := by
        show (decide (lo ≤ n) && decide (n ≤ hi)) = _
        rw [show decide (lo ≤ n) = false from Bool.eq_false_iff.mpr c]; rfl
      rw [this] at q
      exact q
end
end K08
set_option maxHeartbeats 4000000
namespace K08
open PySem L2
seal PE PT PW PA PS PSs PG PGs PI PO PSet OpR UnR CallR TruR IxR SlR PC PPs
local macro_rules | `(tactic| walk_at "rd1") => `(tactic| first
  | (refine And.intro rfl ?_)
  | (refine And.intro (by assumption) ?_)
  | (refine And.intro (fun _ e => e) ?_)
  | (refine And.intro (TyOf.str _) ?_) | (refine And.intro (TyOf.int _) ?_) | (refine And.intro (TyOf.bl _) ?_) | (refine And.intro TyOf.non ?_)
  | (refine iteT ?_) | (refine iteF ?_)
  | (apply Exists.intro))
local macro_rules | `(tactic| walk_at "rd") => `(tactic| repeat (walk_at "rd1"))

def thInt {K : PySem.W.Frag} {mg : Str → Option Value} {A : Adr} (T : Txt K mg A) (H : Hp) (n : Int) : Thing K H (.int n) := ⟨_, _, _, _, .old (.int n), T.i_int_int, T.i_int_bool, T.i_int_str, fun _ => ⟨n, rfl⟩, fun h => (by cases h), fun _ _ => rfl, fun _ h => (by cases h), fun h => (by cases h), fun _ h => (by cases h)⟩
def thNon {K : PySem.W.Frag} {mg : Str → Option Value} {A : Adr} (T : Txt K mg A) (H : Hp) : Thing K H .non := ⟨_, _, _, _, .old .non, T.i_NoneType_int, T.i_NoneType_bool, T.i_NoneType_str, fun h => (by cases h), fun h => (by cases h), fun _ h => (by cases h), fun _ h => (by cases h), fun h => (by cases h), fun _ h => (by cases h)⟩
def thStr {K : PySem.W.Frag} {mg : Str → Option Value} {A : Adr} (T : Txt K mg A) (H : Hp) (z : Str) : Thing K H (.str z) := ⟨_, _, _, _, .old (.str z), T.i_str_int, T.i_str_bool, T.i_str_str, fun h => (by cases h), fun _ => ⟨z, rfl⟩, fun _ h => (by cases h), fun _ _ => rfl, fun h => (by cases h), fun _ h => (by cases h)⟩
def spAns (ans : List Nat → Option Int) : Sp := fun vs H Q _ => ∃ p z, vs = [.ref p, .str z] ∧ Fine 1000 z ∧ ∀ H', Same H H' → Q (numV (ans (cd z))) H'
def spShown (shw : Int → List Nat) : Sp := fun vs H Q _ => ∃ p n, vs = [.ref p, .int n] ∧ n.natAbs < 10 ^ 60 ∧ ∀ H', Same H H' → Q (.str (S (shw n))) H'
def spId : Sp := fun vs H Q _ => ∃ p x, vs = [p, x] ∧ Q x H
def ansW (l : List Nat) : Option Int := numB l 60
section
variable {P : Program} {w : World} {K : PySem.W.Frag} {mg : Str → Option Value} {base : Heap} {A : Adr}
theorem ok_wans (T : Txt K mg A) : FnOk P w K mg base CX0 4 A.f_c_Whole_answer_of A.d_c_Whole_answer_of ["self", "text"] (spAns ansW) := by
  have G_number_or_none := ok_number_or_none (P := P) (w := w) (base := base) T
  refine T.F_c_Whole_answer_of.ok sc_c_Whole_answer_of (fun vs H Q E h => ?_) (fun cdv A0 outer s H vs Q E hr h => ?_)
  · obtain ⟨p, z, rfl, _⟩ := h
    rfl
  obtain ⟨p, z, rfl, hz, q⟩ := h
  refine ⟨_, (pss_one (ps_ret (pe_call G_number_or_none (hr.mono (by decide)) rfl T.m_number_or_none T.k_number_or_none T.b_number_or_none .nil pass0 (pa_cons (pv 1) pa_nil)))), ?_⟩
  exact ⟨_, rfl, z, rfl, hz, q⟩
theorem ok_wshown (T : Txt K mg A) : FnOk P w K mg base CX0 1 A.f_c_Whole_shown A.d_c_Whole_shown ["self", "answer"] (spShown numL) := by
  refine T.F_c_Whole_shown.ok sc_c_Whole_shown (fun vs H Q E h => ?_) (fun cdv A0 outer s H vs Q E hr h => ?_)
  · obtain ⟨p, z, rfl, _⟩ := h
    rfl
  obtain ⟨p, n, rfl, hn, q⟩ := h
  refine ⟨_, (pss_one (ps_ret (pe_callTy call_str_int (by rfl) T.n_str Bt.str (pa_cons (pv 1) pa_nil)))), ?_⟩
  refine ⟨_, rfl, n, rfl, logOk (Nat.lt_trans hn (by decide +kernel)), ?_⟩
  rw [str_is]
  exact q _ (Same.refl _)
theorem ok_wrank (T : Txt K mg A) : FnOk P w K mg base CX0 1 A.f_c_Whole_rank A.d_c_Whole_rank ["self", "answer"] spId := by
  refine T.F_c_Whole_rank.ok sc_c_Whole_rank (fun vs H Q E h => ?_) (fun cdv A0 outer s H vs Q E hr h => ?_)
  · obtain ⟨p, z, rfl, _⟩ := h
    rfl
  obtain ⟨p, n, rfl, q⟩ := h
  exact ⟨_, (pss_one (ps_ret (pv 1))), _, rfl, q⟩
theorem ok_wsample (T : Txt K mg A) : FnOk P w K mg base CX0 1 A.f_c_Whole_sample A.d_c_Whole_sample ["self", "rank"] spId := by
  refine T.F_c_Whole_sample.ok sc_c_Whole_sample (fun vs H Q E h => ?_) (fun cdv A0 outer s H vs Q E hr h => ?_)
  · obtain ⟨p, z, rfl, _⟩ := h
    rfl
  obtain ⟨p, n, rfl, q⟩ := h
  exact ⟨_, (pss_one (ps_ret (pv 1))), _, rfl, q⟩
end
end K08
namespace K08
open PySem L2
seal PE PT PW PA PS PSs PG PGs PI PO PSet OpR UnR CallR TruR IxR SlR PC PPs
local macro_rules | `(tactic| walk_at "rd1") => `(tactic| first
  | (refine And.intro rfl ?_)
  | (refine And.intro (by assumption) ?_)
  | (refine And.intro (fun _ e => e) ?_)
  | (refine And.intro (TyOf.str _) ?_) | (refine And.intro (TyOf.int _) ?_) | (refine And.intro (TyOf.bl _) ?_) | (refine And.intro TyOf.non ?_)
  | (refine iteT ?_) | (refine iteF ?_)
  | (apply Exists.intro))
local macro_rules | `(tactic| walk_at "rd") => `(tactic| repeat (walk_at "rd1"))

theorem zfill_dig (m : Nat) : Txt.zfill (S (dig m)) 3 = S (pad3 (dig m)) := by
  unfold Txt.zfill pad3
  rw [len_S]
  split
  · rename_i h
    rw [show 3 - (dig m).length = 0 by omega]; rfl
  · rename_i h
    have hz : zfilled (S (dig m)) ((3 : Int).toNat - (dig m).length) = Builtin.Str.padded (S (dig m)) ((3 : Int).toNat - (dig m).length) 0 48 := by
      unfold zfilled
      split
      · rename_i e
        have : 43 ∈ dig m := by
          have e' : (dig m)[0]? = some 43 := by simpa [S] using e
          exact List.mem_of_getElem? e'
        have := dig_fig this; omega
      · rename_i e
        have : 45 ∈ dig m := by
          have e' : (dig m)[0]? = some 45 := by simpa [S] using e
          exact List.mem_of_getElem? e'
        have := dig_fig this; omega
      · rfl
    rw [hz]
    unfold Builtin.Str.padded
    refine cd_inj ?_
    rw [cd_S]
    show (Array.replicate _ 48 ++ (S (dig m)).cps ++ Array.replicate 0 48).toList = _
    rw [Array.toList_append, Array.toList_append]
    simp [S]
theorem cut_lo {f : List Nat} (h : 2 ≤ f.length) : cutN f none (some (-2)) = f.take (f.length - 2) := by
  unfold cutN
  have e1 : HT.sIx f.length 0 none = 0 := rfl
  have e2 : HT.sIx f.length f.length (some (-2)) = f.length - 2 := by
    show (if (-2 : Int) < 0 then ((-2 : Int) + f.length).toNat else min (-2 : Int).toNat f.length) = _
    rw [if_pos (by decide)]; omega
  rw [e1, e2, List.drop_zero, Nat.sub_zero]
theorem cut_hi {f : List Nat} (h : 2 ≤ f.length) : cutN f (some (-2)) none = f.drop (f.length - 2) := by
  unfold cutN
  have e1 : HT.sIx f.length f.length none = f.length := rfl
  have e2 : HT.sIx f.length 0 (some (-2)) = f.length - 2 := by
    show (if (-2 : Int) < 0 then ((-2 : Int) + f.length).toNat else min (-2 : Int).toNat f.length) = _
    rw [if_pos (by decide)]; omega
  rw [e1, e2, List.take_of_length_le (by rw [List.length_drop]; omega)]
theorem abs_is (n : Int) : (if n < 0 then -n else n) = ((n.natAbs : Nat) : Int) := by split <;> omega
theorem num_dig (m : Nat) : ((toString ((m : Nat) : Int) : String) : Str) = S (dig m) := by
  rw [str_is]; unfold numL; rw [if_neg (by omega)]; rfl
def spMon : Sp := fun vs H Q _ => ∃ n : Int, vs = [.int n] ∧ n.natAbs < 10 ^ 60 ∧ ∀ H', Same H H' → Q (.str (S (monL n))) H'
def spMonN : Sp := fun vs H Q _ => ∃ z, vs = [.str z] ∧ Fine 1000 z ∧ ∀ H', Same H H' → Q (numV (ansM (cd z))) H'
section
variable {P : Program} {w : World} {K : PySem.W.Frag} {mg : Str → Option Value} {base : Heap} {A : Adr}
theorem ok_money_shown (T : Txt K mg A) : FnOk P w K mg base CX0 1 A.f_money_shown A.d_money_shown ["hundredths"] spMon := by
  refine T.F_money_shown.ok sc_money_shown (fun vs H Q E h => ?_) (fun cdv A0 outer s H vs Q E hr h => ?_)
  · obtain ⟨n, rfl, _⟩ := h
    rfl
  obtain ⟨n, rfl, hn, q⟩ := h
  refine ⟨_, (pss_cons (ps_set (i := 1) sc_money_shown.nd rfl (by first | exact Or.inl rfl | exact Or.inr rfl) (pe_bm PySem.F.plainAttrs_str PySem.F.slot_str_zfill PySem.F.type_str_zfill mt_zfill (pe_callTy call_str_int (by rfl) T.n_str Bt.str (pa_cons (pe_callB call_abs (by rfl) T.n_abs Bt.abs (pa_cons (pv 0) pa_nil)) pa_nil)) (pa_cons pe_int pa_nil)))
      (pss_cons (ps_set (i := 2) sc_money_shown.nd rfl (by first | exact Or.inl rfl | exact Or.inr rfl) (pe_ifExp (pt_cmpR op_lt (pv 0) pe_int (nomark _)) pe_str pe_str))
      (pss_one (ps_ret (pe_op op_add_str (pe_op op_add_str (pe_op op_add_str (pv 2) (pe_slice sl_str (pv 1) po_none (po_some (pe_un un_neg pe_int)))) pe_str) (pe_slice sl_str (pv 1) (po_some (pe_un un_neg pe_int)) po_none)))))), ?_⟩
  have hl := pad3_len (dig n.natAbs)
  have hd := dig_len (k := 60) (by decide) hn
  have q := q _ (Same.refl _)
  have ef : (figM n).length = (pad3 (dig n.natAbs)).length := rfl
  refine ⟨_, rfl, n, rfl, ?_⟩
  rw [abs_is]
  refine ⟨_, rfl, logOk (Nat.lt_trans (show (((n.natAbs : Nat) : Int)).natAbs < 10 ^ 60 by omega) (by decide +kernel)), ?_⟩
  rw [num_dig]
  refine ⟨rfl, _, _, rfl, rfl, (by decide +kernel), ?_⟩
  rw [zfill_dig]
  have sz : (S (figM n)).length ≤ sizeLine := small_of (m := 1000) (by rw [len_S]; omega)
  have fin : ∀ sg : List Nat, sg.length ≤ 1 → Q (.str (S (sg ++ ((figM n).take ((figM n).length - 2) ++ 46 :: (figM n).drop ((figM n).length - 2))))) H → tRet (tOp (fun x y H Q => ∃ i j, x = V.str i ∧ y = V.str j ∧ i.length + j.length ≤ sizeLine ∧ Q (V.str (i ++ j)) H) (tOp (fun x y H Q => ∃ i j, x = V.str i ∧ y = V.str j ∧ i.length + j.length ≤ sizeLine ∧ Q (V.str (i ++ j)) H) (tOp (fun x y H Q => ∃ i j, x = V.str i ∧ y = V.str j ∧ i.length + j.length ≤ sizeLine ∧ Q (V.str (i ++ j)) H) (tVar 2) (tSl (fun x lo hi H Q => ∃ z, x = V.str z ∧ z.length ≤ sizeLine ∧ Q (V.str (S (cutN (cd z) lo hi))) H) (tVar 1) tNoPart (tPart (tUn (rU fun i => .int (-i)) (tC (V.int 2)))))) (tC (V.str (Str.ofString ".")))) (tSl (fun x lo hi H Q => ∃ z, x = V.str z ∧ z.length ≤ sizeLine ∧ Q (V.str (S (cutN (cd z) lo hi))) H) (tVar 1) (tPart (tUn (rU fun i => .int (-i)) (tC (V.int 2)))) tNoPart)) { nx := fun _ H' => Q .non H', rt := Q } [some (.int n), some (.str (S (figM n))), some (.str (S sg))] H := fun sg hs qq => by
    refine ⟨_, rfl, _, rfl, _, rfl, _, rfl, _, rfl, sz, ?_⟩
    rw [cd_S, cut_lo (by omega)]
    refine ⟨_, _, rfl, rfl, small_of (m := 1000) (by rw [len_S, len_S, List.length_take]; omega), _, _, rfl, rfl, small_of (m := 1000) (by rw [len_cd, cd_app, List.length_append, cd_S, cd_S, List.length_take]; show _ + 1 ≤ 1000; omega), ?_⟩
    refine ⟨_, rfl, _, rfl, _, rfl, _, rfl, sz, ?_⟩
    rw [cd_S, cut_hi (by omega), show Str.ofString "." = S [46] by decide +kernel, S_app, S_app]
    refine ⟨_, _, rfl, rfl, small_of (m := 1000) (by rw [len_S, len_S, List.length_append, List.length_append, List.length_take, List.length_drop]; show _ + _ + 1 + _ ≤ 1000; omega), ?_⟩
    rw [S_app, List.append_assoc, List.append_assoc]
    exact qq
  unfold monL sgn at q
  refine ⟨_, rfl, _, _, rfl, rfl, _, rfl, ite2 (fun c => ?_) (fun c => ?_)⟩
  · rw [if_pos (of_decide_eq_true c)] at q
    have := fin [45] (by decide) q
    rw [show S [45] = Str.ofString "-" by decide +kernel] at this
    exact this
  · rw [if_neg (fun z => c (decide_eq_true z))] at q
    have := fin [] (by decide) q
    rw [show S [] = Str.ofString "" by decide +kernel] at this
    exact this
end
end K08
namespace K08
open PySem L2
seal PE PT PW PA PS PSs PG PGs PI PO PSet OpR UnR CallR TruR IxR SlR PC PPs
local macro_rules | `(tactic| walk_at "rd1") => `(tactic| first
  | (refine And.intro rfl ?_)
  | (refine And.intro (by assumption) ?_)
  | (refine And.intro (fun _ e => e) ?_)
  | (refine And.intro (TyOf.str _) ?_) | (refine And.intro (TyOf.int _) ?_) | (refine And.intro (TyOf.bl _) ?_) | (refine And.intro TyOf.non ?_)
  | (refine iteT ?_) | (refine iteF ?_)
  | (apply Exists.intro))
local macro_rules | `(tactic| walk_at "rd") => `(tactic| repeat (walk_at "rd1"))

theorem filt_is (z : Str) : cd (Txt.replace (Txt.replace z (Str.ofString "-") (Str.ofString "")) (Str.ofString ".") (Str.ofString "")) = filt (cd z) := by
  rw [show Str.ofString "-" = S [45] by decide +kernel, show Str.ofString "." = S [46] by decide +kernel, show Str.ofString "" = S [] by decide +kernel, replace_is, replace_is]
  rfl
theorem filt_len (l : List Nat) : (filt l).length ≤ l.length := Nat.le_trans (List.length_filter_le _ _) (List.length_filter_le _ _)
theorem val_small {l : List Nat} (h : l.all inF = true) (hl : l.length ≤ 60) : 0 ≤ val l ∧ (val l).natAbs < 10 ^ 60 := by
  obtain ⟨a, b⟩ := val_bound l.length l rfl h
  have hp : (10 : Int) ^ l.length ≤ 10 ^ 60 := by
    have : (10 : Nat) ^ l.length ≤ 10 ^ 60 := Nat.pow_le_pow_right (by decide) hl
    have e1 : ((10 ^ l.length : Nat) : Int) = (10 : Int) ^ l.length := by simp
    have e2 : ((10 ^ 60 : Nat) : Int) = (10 : Int) ^ 60 := by simp
    omega
  refine ⟨a, ?_⟩
  have e2 : ((10 ^ 60 : Nat) : Int) = (10 : Int) ^ 60 := by simp
  omega
section
variable {P : Program} {w : World} {K : PySem.W.Frag} {mg : Str → Option Value} {base : Heap} {A : Adr}
theorem ok_money_or_none (T : Txt K mg A) : FnOkP P w K mg base CX0 2 A.f_money_or_none A.d_money_or_none ["text"] spMonN := by
  have G_are_figures := ok_are_figures (P := P) (w := w) (base := base) T
  have G_figures_worth := ok_figures_worth (P := P) (w := w) (base := base) T
  have G_money_shown := ok_money_shown (P := P) (w := w) (base := base) T
  refine T.F_money_or_none.okP sc_money_or_none (fun vs H Q E h => ?_) (fun cdv A0 outer s H vs Q E hr h => ?_)
  · obtain ⟨n, rfl, _⟩ := h
    rfl
  obtain ⟨z, rfl, hz, q⟩ := h
  refine ⟨_, (pssp_cons (psp_set (i := 1) sc_money_or_none.nd rfl (by first | exact Or.inl rfl | exact Or.inr rfl) (pep_replace (pep_replace (PE.made (pv 0)))))
      (pss_cons (ps_if (PW.pt (pw_or (pt_not (pt_val (pe_call G_are_figures (hr.mono (by decide)) rfl T.m_are_figures T.k_are_figures T.b_are_figures .nil pass0 (pa_cons (pv 1) pa_nil)))) (pw_or1 (pt_cmpR op_gt (pe_callB call_len_str (by rfl) T.n_len PySem.boot_len (pa_cons (pv 1) pa_nil)) (pe_gv rfl T.g_MOST_FIGURES) (nomark _))))) (pss_one (ps_ret pe_non)) pss_nil)
      (pss_cons (ps_set (i := 2) sc_money_or_none.nd rfl (by first | exact Or.inl rfl | exact Or.inr rfl) (pe_call G_figures_worth (hr.mono (by decide)) rfl T.m_figures_worth T.k_figures_worth T.b_figures_worth .nil pass0 (pa_cons (pv 1) pa_nil)))
      (pss_cons (ps_set (i := 3) sc_money_or_none.nd rfl (by first | exact Or.inl rfl | exact Or.inr rfl) (pe_ifExp (pt_val (pe_bm PySem.F.plainAttrs_str PySem.F.slot_str_startswith PySem.F.type_str_startswith mt_startswith (pv 0) (pa_cons pe_str pa_nil))) (pe_un un_neg (pv 2)) (pv 2)))
      (pss_one (ps_ret (pe_ifExp (pt_cmpR op_eq (pe_call G_money_shown (hr.mono (by decide)) rfl T.m_money_shown T.k_money_shown T.b_money_shown .nil pass0 (pa_cons (pv 3) pa_nil)) (pv 0) (nomark _)) (pv 3) pe_non))))))), ?_⟩
  have hzl := hz.len
  have e0 : (Str.ofString "").length = 0 := by decide +kernel
  have l1 : (Txt.replace z (Str.ofString "-") (Str.ofString "")).length ≤ z.length := by
    rw [len_cd, show Str.ofString "-" = S [45] by decide +kernel, show Str.ofString "" = S [] by decide +kernel, replace_is, len_cd]
    exact List.length_filter_le _ _
  refine ⟨_, rfl, z, rfl, (by rw [e0]; omega), _, rfl, (by rw [e0]; omega), ?_⟩
  have ef := filt_is z
  generalize hF : Txt.replace (Txt.replace z (Str.ofString "-") (Str.ofString "")) (Str.ofString ".") (Str.ofString "") = F at ef
  have hFl : F.length ≤ 1000 := by rw [len_cd, ef]; have := filt_len (cd z); rw [← len_cd] at this; omega
  refine ⟨_, rfl, F, rfl, small_of (m := 1000) hFl, fun H1 s1 => ⟨_, rfl, ?_⟩⟩
  rw [ef]
  have q := fun H' (s' : Same H1 H') => q H' (s1.trans s')
  cases hb : figB (filt (cd z)) with
  | false =>
    have e : ansM (cd z) = none := by
      unfold ansM
      rw [if_pos]
      by_cases h0 : (filt (cd z)).length = 0
      · exact .inl h0
      · refine .inr (.inl ?_)
        cases ha : (filt (cd z)).all inF with
        | false => rfl
        | true => rw [(figB_iff _).mpr ⟨by omega, ha⟩] at hb; cases hb
    rw [e] at q
    exact iteT (iteT (q _ (Same.refl _)))
  | true =>
    obtain ⟨hp, ha⟩ := (figB_iff _).mp hb
    refine iteF ⟨_, rfl, F, rfl, small_of (m := 1000) hFl, _, _, rfl, rfl, _, rfl, ?_⟩
    rw [len_cd, ef]
    refine ite2 (fun c => ?_) (fun c => ?_)
    · have c' : (60 : Int) < (filt (cd z)).length := of_decide_eq_true c
      have e : ansM (cd z) = none := by unfold ansM; rw [if_pos (.inr (.inr (by omega)))]
      rw [e] at q
      exact q _ (Same.refl _)
    · have c' : ¬ (60 : Int) < (filt (cd z)).length := fun h => c (decide_eq_true h)
      have e : ansM (cd z) = (if monL (if (cd z).take 1 = [45] then -val (filt (cd z)) else val (filt (cd z))) = cd z then some (if (cd z).take 1 = [45] then -val (filt (cd z)) else val (filt (cd z))) else none) := by
        unfold ansM
        rw [if_neg]
        rintro (h | h | h)
        · omega
        · rw [ha] at h; cases h
        · omega
      rw [e] at q
      obtain ⟨v0, v1⟩ := val_small ha (by omega)
      refine ⟨_, rfl, F, rfl, hFl, (by rw [ef]; exact ha), ?_⟩
      rw [ef]
      have fin : ∀ g : Int, g.natAbs < 10 ^ 60 → (∀ H', Same H1 H' → Q (numV (if monL g = cd z then some g else none)) H') → ∃ n : Int, [V.int g] = [V.int n] ∧ n.natAbs < 10 ^ 60 ∧ ∀ H', Same H1 H' → ((tOp rEq (tC (.str (S (monL n)))) (tC (.str z))) [] H' fun v H'' => ∃ b, v = .bl b ∧ if b = true then Q (.int g) H'' else Q .non H'') := fun g hg qq => by
        refine ⟨g, rfl, hg, fun H2 s2 => ⟨rfl, _, rfl, ?_⟩⟩
        have := qq H2 s2
        refine ite2 (fun d => ?_) (fun d => ?_)
        · have d' : monL g = cd z := by have := V.str.inj (of_decide_eq_true d); rw [← this]; rfl
          rw [if_pos d'] at this
          exact this
        · have d' : ¬ monL g = cd z := fun h => d (decide_eq_true (by rw [h, S_cd]))
          rw [if_neg d'] at this
          exact this
      refine ⟨_, rfl, rfl, z, _, rfl, rfl, _, rfl, ?_⟩
      rw [show Str.ofString "-" = S [45] by decide +kernel, starts1]
      refine ite2 (fun d => ?_) (fun d => ?_)
      · have d' : (cd z).take 1 = [45] := of_decide_eq_true d
        rw [if_pos d'] at q
        obtain ⟨n, e1, e2, e3⟩ := fin _ (by omega) q
        cases e1
        refine ⟨_, rfl, _, rfl, _, rfl, _, rfl, e2, fun H2 s2 => ?_⟩
        obtain ⟨k1, b, k2, k3⟩ := e3 H2 s2
        refine ⟨_, rfl, k1, _, k2, ?_⟩
        cases b with
        | true => exact iteT ⟨_, rfl, k3⟩
        | false => exact iteF k3
      · have d' : ¬ (cd z).take 1 = [45] := fun h => d (decide_eq_true h)
        rw [if_neg d'] at q
        obtain ⟨n, e1, e2, e3⟩ := fin _ (by omega) q
        cases e1
        refine ⟨_, rfl, _, rfl, _, rfl, e2, fun H2 s2 => ?_⟩
        obtain ⟨k1, b, k2, k3⟩ := e3 H2 s2
        refine ⟨_, rfl, k1, _, k2, ?_⟩
        cases b with
        | true => exact iteT ⟨_, rfl, k3⟩
        | false => exact iteF k3
theorem ok_mans (T : Txt K mg A) : FnOkP P w K mg base CX0 4 A.f_c_Money_answer_of A.d_c_Money_answer_of ["self", "text"] (spAns ansM) := by
  have G_money_or_none := ok_money_or_none (P := P) (w := w) (base := base) T
  refine T.F_c_Money_answer_of.okP sc_c_Money_answer_of (fun vs H Q E h => ?_) (fun cdv A0 outer s H vs Q E hr h => ?_)
  · obtain ⟨p, z, rfl, _⟩ := h
    rfl
  obtain ⟨p, z, rfl, hz, q⟩ := h
  refine ⟨_, (pssp_one (psp_ret (pep_call G_money_or_none (hr.mono (by decide)) rfl T.m_money_or_none T.k_money_or_none T.b_money_or_none .nil pass0 (pa_cons (pv 1) pa_nil)))), ?_⟩
  exact ⟨_, rfl, z, rfl, hz, q⟩
end
end K08
namespace K08
open PySem L2
seal PE PT PW PA PS PSs PG PGs PI PO PSet OpR UnR CallR TruR IxR SlR PC PPs
local macro_rules | `(tactic| walk_at "rd1") => `(tactic| first
  | (refine And.intro rfl ?_)
  | (refine And.intro (by assumption) ?_)
  | (refine And.intro (fun _ e => e) ?_)
  | (refine And.intro (TyOf.str _) ?_) | (refine And.intro (TyOf.int _) ?_) | (refine And.intro (TyOf.bl _) ?_) | (refine And.intro TyOf.non ?_)
  | (refine iteT ?_) | (refine iteF ?_)
  | (apply Exists.intro))
local macro_rules | `(tactic| walk_at "rd") => `(tactic| repeat (walk_at "rd1"))

section
variable {P : Program} {w : World} {K : PySem.W.Frag} {mg : Str → Option Value} {base : Heap} {A : Adr}
theorem ok_mshown (T : Txt K mg A) : FnOk P w K mg base CX0 2 A.f_c_Money_shown A.d_c_Money_shown ["self", "answer"] (spShown monL) := by
  have G_money_shown := ok_money_shown (P := P) (w := w) (base := base) T
  refine T.F_c_Money_shown.ok sc_c_Money_shown (fun vs H Q E h => ?_) (fun cdv A0 outer s H vs Q E hr h => ?_)
  · obtain ⟨p, z, rfl, _⟩ := h
    rfl
  obtain ⟨p, n, rfl, hn, q⟩ := h
  refine ⟨_, (pss_one (ps_ret (pe_call G_money_shown (hr.mono (by decide)) rfl T.m_money_shown T.k_money_shown T.b_money_shown .nil pass0 (pa_cons (pv 1) pa_nil)))), ?_⟩
  exact ⟨_, rfl, n, rfl, hn, q⟩
end
end K08
set_option maxHeartbeats 4000000
namespace K08.N
open PySem L2
seal PE PT PW PA PS PSs PG PGs PI PO PSet OpR UnR CallR TruR IxR SlR PC PPs
local macro_rules | `(tactic| walk_at "rd1") => `(tactic| first
  | (refine And.intro rfl ?_)
  | (refine And.intro (by assumption) ?_)
  | (refine And.intro (fun _ e => e) ?_)
  | (refine And.intro (TyOf.str _) ?_) | (refine And.intro (TyOf.int _) ?_) | (refine And.intro (TyOf.bl _) ?_) | (refine And.intro TyOf.non ?_)
  | (refine iteT ?_) | (refine iteF ?_)
  | (apply Exists.intro))
local macro_rules | `(tactic| walk_at "rd") => `(tactic| repeat (walk_at "rd1"))

def kws : List V := [.str "and", .str "each", .str "end", .str "is", .str "not", .str "or", .str "unless", .str "when"]
def inL (c : Nat) : Bool := !(Builtin.Str.occurrences "abcdefghijklmnopqrstuvwxyz" (S [c]) 0 ("abcdefghijklmnopqrstuvwxyz" : Str).length 1).isEmpty
def nameB (z : Str) : Bool := !(inV (.str z) kws) && decide ((1 : Int) ≤ z.length) && decide ((z.length : Int) ≤ 12) && (cd z).all inL
def nameV : V → Bool
  | .str z => nameB z
  | _ => false
/-- what is told of a thing, and its size if it is a text -/
def Ok (K : PySem.W.Frag) (H : Hp) (x : V) : Prop := (∃ _ : Thing K H x, True) ∧ ∀ z, x = .str z → Fine 900 z
theorem Ok.same {K : PySem.W.Frag} {H H' : Hp} {x : V} (h : Ok K H x) (e : Same H H') : Ok K H' x := ⟨let ⟨⟨t, _⟩, _⟩ := h; ⟨t.same e, trivial⟩, h.2⟩
def strsOf (xs : List V) : List Str := xs.filterMap fun x => match x with | .str z => some z | _ => none
def unlikeB (xs : List V) : Bool := xs.all nameV && decide ((metT (strsOf xs)).length = xs.length)
theorem strs_of : ∀ {xs : List V}, xs.all nameV = true → xs = (strsOf xs).map V.str
  | [], _ => rfl
  | x :: r, h => by
    rw [List.all_cons, Bool.and_eq_true] at h
    cases x with
    | str z => show V.str z :: r = V.str z :: (strsOf r).map V.str; rw [← strs_of h.2]
    | _ => cases h.1
theorem strsOf_map (ws : List Str) : strsOf (ws.map V.str) = ws := by
  induction ws with
  | nil => rfl
  | cons a r ih => show a :: strsOf (r.map V.str) = _; rw [ih]
theorem unlike_strs (ws : List Str) : unlikeB (ws.map V.str) = (ws.all nameB && decide ws.Nodup) := by
  unfold unlikeB
  rw [strsOf_map, List.length_map, List.all_map]
  congr 1
  rw [Bool.eq_iff_iff, decide_eq_true_iff, decide_eq_true_iff]
  exact metT_nodup ws
def spIsName (K : PySem.W.Frag) : Sp := fun vs H Q _ => ∃ x, vs = [x] ∧ Ok K H x ∧ ∀ H', Same H H' → Q (.bl (nameV x)) H'
def spUnlike (K : PySem.W.Frag) : Sp := fun vs H Q _ => ∃ (p : Addr) (xs : List V), vs = [.ref p] ∧ SqT K H p xs ∧ xs.length ≤ 1000 ∧ (∀ x ∈ xs, Ok K H x) ∧ ∀ H', Same H H' → Q (.bl (unlikeB xs)) H'
section
variable {P : Program} {w : World} {K : PySem.W.Frag} {mg : Str → Option Value} {base : Heap} {A : Adr}
theorem ok_is_name (T : Txt K mg A) : FnOk P w K mg base CX0 1 A.f_is_name A.d_is_name ["thing"] (spIsName K) := by
  refine T.F_is_name.ok sc_is_name (fun vs H Q E h => ?_) (fun cdv A0 outer s H vs Q E hr h => ?_)
  · obtain ⟨x, rfl, _⟩ := h
    rfl
  obtain ⟨x, rfl, ⟨⟨th, _⟩, hx⟩, q⟩ := h
  refine ⟨_, (pss_cons (ps_if (PW.pt (pw_or (pt_not (pt_val (pe_callB call_isi (by rfl) T.n_isinstance Bt.isinstance (pa_cons (pv 0) (pa_cons (pe_bltn (v := .ty "str") rfl T.n_str Bt.str rfl) pa_nil))))) (pw_or1 (pt_cmpR op_in_seq (pv 0) (pe_gv rfl T.g_NO_NAMES) (by rfl))))) (pss_one (ps_ret pe_bl)) pss_nil)
      (pss_one (ps_ret (pe_and (pe_chain op_le op_le pe_int (pe_callB call_len_str (by rfl) T.n_len PySem.boot_len (pa_cons (pv 0) pa_nil)) (pe_gv rfl T.g_LONGEST_NAME)) (pe_one (pe_callB (call_all rfl) (by rfl) T.n_all Bt.all (pa_cons (pe_compR (compOk_of (x := "sign") (M := ["thing"]) rfl (by rfl)) rfl (pi_str (pv 0)) (fun _ _ _ _ => (pe_cmpR op_in_str (pv 0) (pe_gv rfl T.g_LETTERS) (by rfl)))) pa_nil))))))), ?_⟩
  refine ⟨_, rfl, _, _, _, _, rfl, rfl, th.ty, th.ks, _, rfl, ?_⟩
  cases hb : th.bs with
  | false =>
    refine iteT ?_
    have e : nameV x = false := by cases x <;> first | rfl | (rw [th.ns _ rfl] at hb; cases hb)
    rw [e] at q
    exact q _ (Same.refl _)
  | true =>
    obtain ⟨z, rfl⟩ := th.hs hb
    have hz := (hx z rfl).size
    have q : ∀ H', Same H H' → Q (.bl (nameB z)) H' := q
    have qN := T.q_NO_NAMES H
    refine iteF ⟨_, rfl, _, _, rfl, .inr qN, rfl, rfl, _, rfl, ?_⟩
    refine ite2 (fun c => ?_) (fun c => ?_)
    · have e : nameB z = false := by
        unfold nameB
        rw [show inV (.str z) kws = true from c]
        rfl
      rw [e] at q
      exact q _ (Same.refl _)
    have c0 : inV (.str z) kws = false := by
      cases e : inV (.str z) kws with
      | false => rfl
      | true => exact absurd e c
    walk_at "rd"
    refine ite2 (fun c1 => ?_) (fun c1 => ?_)
    · walk_at "rd"
      refine ite2 (fun c2 => ?_) (fun c2 => ?_)
      · walk_at "rd"
        refine comp_strR hz (fun i ys H' => H = H' ∧ ys = ((cd z).take i).map fun c => V.bl (inL c)) ⟨rfl, rfl⟩ (fun i c ys H' hc hl hw => ?_) (fun ys H' hl hw p hp => ?_)
        · obtain ⟨rfl, rfl⟩ := hw
          walk_at "rd"
          rw [List.take_succ, hc]
          simp [inL]
        · obtain ⟨rfl, rfl⟩ := hw
          have e : (cd z).take z.length = cd z := List.take_of_length_le (by rw [len_cd]; exact Nat.le_refl _)
          rw [e]
          refine ⟨p, (cd z).map inL, rfl, SqL.of (by rw [upd_same, List.map_map]; rfl), ?_⟩
          have e2 : nameB z = ((cd z).map inL).all id := by
            unfold nameB
            rw [c0, c1, c2, List.all_map]
            rfl
          rw [e2] at q
          exact q _ (same_new hp _)
      · have e : nameB z = false := by
          unfold nameB
          rw [show decide ((z.length : Int) ≤ 12) = false from Bool.eq_false_iff.mpr c2]
          simp
        rw [e] at q
        exact q _ (Same.refl _)
    · have e : nameB z = false := by
        unfold nameB
        rw [show decide ((1 : Int) ≤ z.length) = false from Bool.eq_false_iff.mpr c1]
        simp
      rw [e] at q
      refine ⟨_, rfl, iteF ?_⟩
      exact q _ (Same.refl _)
theorem ok_unlike (T : Txt K mg A) : FnOk P w K mg base CX0 2 A.f_are_unlike_names A.d_are_unlike_names ["words"] (spUnlike K) := by
  have G_is_name := ok_is_name (P := P) (w := w) (base := base) T
  refine T.F_are_unlike_names.ok sc_are_unlike_names (fun vs H Q E h => ?_) (fun cdv A0 outer s H vs Q E hr h => ?_)
  · obtain ⟨x, xs, rfl, _⟩ := h
    rfl
  obtain ⟨p, xs, rfl, hq, hl, hx, q⟩ := h
  refine ⟨_, (pss_one (ps_ret (pe_and (pe_callB (call_all rfl) (by rfl) T.n_all Bt.all (pa_cons (pe_compR (compOk_of (x := "word") (M := ["words"]) rfl (by rfl)) rfl (pi_tup (pv 0)) (fun _ _ _ _ => (pe_call G_is_name (hr.mono (by decide)) rfl T.m_is_name T.k_is_name T.b_is_name .nil pass0 (pa_cons (pv 0) pa_nil)))) pa_nil)) (pe_one (pe_cmpR op_eq (pe_callB call_len_setT (by rfl) T.n_len PySem.boot_len (pa_cons (pe_callTy (call_set_tup rfl) (by rfl) T.n_set Bt.set (pa_cons (pv 0) pa_nil)) pa_nil)) (pe_callB call_len_seq (by rfl) T.n_len PySem.boot_len (pa_cons (pv 0) pa_nil)) (nomark _)))))), ?_⟩
  refine ⟨_, rfl, p, rfl, ⟨_, hq⟩, ?_⟩
  refine comp_tup (xs := xs) (small_of (m := 1000) hl) (fun i ys H' => Same H H' ∧ ys = (xs.take i).map fun x => V.bl (nameV x)) ⟨Same.refl _, rfl⟩ (fun i ys H' hw => hw.1.seqT hq) (fun i x ys H' hi hl' hw => ?_) (fun ys H' hl' hw p2 hp2 => ?_)
  · obtain ⟨sH, rfl⟩ := hw
    refine ⟨_, rfl, _, rfl, (hx x (List.mem_of_getElem? hi)).same sH, fun H2 s2 => ⟨sH.trans s2, ?_⟩⟩
    rw [List.take_succ, hi, List.map_append]; rfl
  obtain ⟨sH, rfl⟩ := hw
  rw [List.take_length]
  have sB := sH.trans (same_new hp2 (.lst (xs.map fun x => V.bl (nameV x))))
  refine ⟨p2, xs.map nameV, rfl, SqL.of (by rw [upd_same, List.map_map]; rfl), _, rfl, ?_⟩
  rw [List.all_map]
  cases ha : xs.all nameV with
  | false =>
    refine iteN (show xs.all (id ∘ nameV) = false from ha) ?_
    have e : unlikeB xs = false := by unfold unlikeB; rw [ha]; rfl
    rw [e] at q
    exact q _ sB
  | true =>
    refine iteY (show xs.all (id ∘ nameV) = true from ha) ?_
    have exs := strs_of ha
    have hlw : (strsOf xs).length = xs.length := by have := congrArg List.length exs; rw [List.length_map] at this; exact this.symm
    refine ⟨_, rfl, p, strsOf xs, rfl, (by rw [← exs]; exact sB.seqT hq), by omega, fun p3 hp3 => ?_⟩
    refine ⟨p3, _, _, rfl, upd_same, ?_⟩
    have sC := sB.trans (same_new hp3 (SetT P w p3 (fun k => decide (k ∈ metT (strsOf xs))) (metT (strsOf xs)).length))
    refine ⟨_, rfl, p, xs, rfl, .inr (sC.seqT hq), rfl, ?_⟩
    have e : unlikeB xs = decide (V.int ((metT (strsOf xs)).length : Nat) = V.int (xs.length : Nat)) := by
      unfold unlikeB
      rw [ha, Bool.true_and, Bool.eq_iff_iff, decide_eq_true_iff, decide_eq_true_iff]
      constructor
      · intro z; rw [z]
      · intro z; have : ((metT (strsOf xs)).length : Int) = xs.length := V.int.inj z; omega
    have q := q _ sC
    rw [e] at q
    exact q
end
end K08.N
namespace K08.N
open PySem L2
seal PE PT PW PA PS PSs PG PGs PI PO PSet OpR UnR CallR TruR IxR SlR PC PPs
local macro_rules | `(tactic| walk_at "rd1") => `(tactic| first
  | (refine And.intro rfl ?_)
  | (refine And.intro (by assumption) ?_)
  | (refine And.intro (fun _ e => e) ?_)
  | (refine And.intro (TyOf.str _) ?_) | (refine And.intro (TyOf.int _) ?_) | (refine And.intro (TyOf.bl _) ?_) | (refine And.intro TyOf.non ?_)
  | (refine iteT ?_) | (refine iteF ?_)
  | (apply Exists.intro))
local macro_rules | `(tactic| walk_at "rd") => `(tactic| repeat (walk_at "rd1"))

abbrev flds (m : Int) : List (Str × V) := [("low", .int 0), ("high", .int m)]
def partsN (l : List Nat) : List (List Nat) := if l = [45] then [] else splitL l
abbrev vs (ps : List (List Nat)) : List V := ps.map fun l => V.str (S l)
theorem vs_map (ps : List (List Nat)) : vs ps = (ps.map S).map V.str := by unfold vs; rw [List.map_map]; rfl
theorem mem_joinL {sep : List Nat} {c : Nat} : ∀ {ps : List (List Nat)} {p : List Nat}, p ∈ ps → c ∈ p → c ∈ joinL sep ps
  | [x], p, h, k => by rw [List.mem_singleton.mp h] at k; exact k
  | x :: y :: r, p, h, k => by
    show c ∈ x ++ sep ++ joinL sep (y :: r)
    rcases List.mem_cons.mp h with e | e
    · subst e; simp [k]
    · have := mem_joinL (sep := sep) e k; simp [this]
theorem len_joinL {sep : List Nat} : ∀ {ps : List (List Nat)} {p : List Nat}, p ∈ ps → p.length ≤ (joinL sep ps).length
  | [x], p, h => by rw [List.mem_singleton.mp h]; exact Nat.le_refl _
  | x :: y :: r, p, h => by
    show p.length ≤ (x ++ sep ++ joinL sep (y :: r)).length
    rw [List.length_append, List.length_append]
    rcases List.mem_cons.mp h with e | e
    · subst e; omega
    · have := len_joinL (sep := sep) e; omega
theorem parts_fine {n : Nat} {l p : List Nat} (h : Fine n (S l)) (hp : p ∈ partsN l) : Fine n (S p) := by
  unfold partsN at hp
  split at hp
  · cases hp
  · have e := splitL_join l
    refine ⟨?_, fun c hc => ?_⟩
    · have h1 := len_joinL (sep := [32]) hp
      rw [e] at h1
      have := h.len
      rw [len_S] at this ⊢; omega
    · rw [cd_S] at hc
      have h1 := mem_joinL (sep := [32]) hp hc
      rw [e] at h1
      exact h.cod c (by rw [cd_S]; exact h1)
theorem parts_len (l : List Nat) : (partsN l).length ≤ l.length + 2 := by
  unfold partsN
  split
  · exact Nat.zero_le _
  · unfold splitL
    rw [List.length_map]
    have := PyProof.Rows.split_le (S l) (S [32])
    rwa [len_S] at this
def spInit (K : PySem.W.Frag) : Sp := fun vs H Q _ => ∃ p C dx lo hi, vs = [.ref p, .int lo, .int hi] ∧ H p = some (.ins C dx []) ∧ Cls K C ∧ NoAttr K C "low" ∧ NoAttr K C "high" ∧ Q .non (upd H p (.ins C dx [("low", .int lo), ("high", .int hi)]))
def spNInit (A : Adr) : Sp := fun vs H Q _ => ∃ p dx m, vs = [.ref p, .int m] ∧ H p = some (.ins A.c_Names dx []) ∧ Q .non (upd H p (.ins A.c_Names dx (flds m)))
/-- what the kind says of a thing -/
def Fit (K : PySem.W.Frag) (H : Hp) (m : Int) (x : V) (b : Bool) : Prop := (∃ p xs, x = .ref p ∧ SqT K H p xs ∧ xs.length ≤ 1000 ∧ (∀ y ∈ xs, Ok K H y) ∧ b = (decide ((xs.length : Int) ≤ m) && unlikeB xs)) ∨ (∃ t, TyE K H x t ∧ PySem.W.kitOne K t (.type "tuple") = some false ∧ b = false)
theorem Fit.same {K : PySem.W.Frag} {H H' : Hp} {m : Int} {x : V} {b : Bool} (h : Fit K H m x b) (e : Same H H') : Fit K H' m x b := by
  rcases h with ⟨p, xs, h1, h2, h3, h4, h5⟩ | ⟨t, h1, h2, h3⟩
  · exact .inl ⟨p, xs, h1, e.seqT h2, h3, fun y hy => (h4 y hy).same e, h5⟩
  · exact .inr ⟨t, e.tyE' h1, h2, h3⟩
def spFits (K : PySem.W.Frag) (A : Adr) : Sp := fun vs H Q _ => ∃ (p dx : Addr) (m : Int) (x : V) (b : Bool), vs = [.ref p, x] ∧ H p = some (.ins A.c_Names dx (flds m)) ∧ Fit K H m x b ∧ ∀ H', Same H H' → Q (.bl b) H'
def spAns : Sp := fun vs' H Q _ => ∃ (p : Addr) (z : Str), vs' = [.ref p, .str z] ∧ Fine 1000 z ∧ ∀ t H', Same H H' → H' t = some (.tup (vs (partsN (cd z)))) → Q (.ref t) H'
def spShown (K : PySem.W.Frag) : Sp := fun vs H Q _ => ∃ (p t : Addr) (ws : List Str), vs = [.ref p, .ref t] ∧ SqT K H t (ws.map V.str) ∧ (ws.map (·.length)).sum + ws.length * 1 ≤ 1000 ∧ Q (.str (if ws.length > 0 then joinS " " ws else "-")) H
def spRank (K : PySem.W.Frag) : Sp := fun vs H Q _ => ∃ (p t : Addr) (xs : List V), vs = [.ref p, .ref t] ∧ SqT K H t xs ∧ Q (.int xs.length) H
abbrev smp : List V := [.str "a", .str "b", .str "c", .str "d", .str "e", .str "f"]
def spSample (K : PySem.W.Frag) : Sp := fun vs H Q _ => ∃ (p : Addr) (r : Int), vs = [.ref p, .int r] ∧ ∀ t H', Same H H' → SqT K H' t (cutV smp none (some r)) → Q (.ref t) H'
theorem nlo : (("high" : Str) == ("low" : Str)) = false := by decide +kernel
theorem put_low (v : V) : putF "low" v [] = [(("low" : Str), v)] := rfl
theorem put_high (v w : V) : putF "high" w [(("low" : Str), v)] = [(("low" : Str), v), (("high" : Str), w)] := by
  unfold putF
  rw [if_neg (by decide +kernel)]; rfl
section
variable {P : Program} {w : World} {K : PySem.W.Frag} {mg : Str → Option Value} {base : Heap} {A : Adr}
theorem ok_init (T : Txt K mg A) : FnOk P w K mg base CX0 1 A.f_c_Kind___init A.d_c_Kind___init ["self", "low", "high"] (spInit K) := by
  refine T.F_c_Kind___init.ok sc_c_Kind___init (fun vs H Q E h => ?_) (fun cdv A0 outer s H vs Q E hr h => ?_)
  · obtain ⟨p, C, dx, lo, hi, rfl, _⟩ := h
    rfl
  obtain ⟨p, C, dx, lo, hi, rfl, hp, cl, n1, n2, q⟩ := h
  refine ⟨_, (pss_cons (ps_fld (pv 0) (pv 1) rfl)
      (pss_one (ps_fld (pv 0) (pv 2) rfl))), ?_⟩
  refine ⟨_, rfl, _, rfl, p, C, dx, _, rfl, hp, cl, n1, by decide, ?_⟩
  refine ⟨_, rfl, _, rfl, p, C, dx, _, rfl, upd_same, cl, n2, (by show 1 < 1000; decide), ?_⟩
  rw [upd_upd, put_low, put_high]
  exact q
theorem ok_ninit (T : Txt K mg A) : FnOk P w K mg base CX0 3 A.f_c_Names___init A.d_c_Names___init ["self", "most"] (spNInit A) := by
  have G_c_Kind___init := ok_init (P := P) (w := w) (base := base) T
  refine T.F_c_Names___init.ok sc_c_Names___init (fun vs H Q E h => ?_) (fun cdv A0 outer s H vs Q E hr h => ?_)
  · obtain ⟨p, dx, m, rfl, _⟩ := h
    rfl
  obtain ⟨p, dx, m, rfl, hp, q⟩ := h
  refine ⟨_, (pss_one (ps_expr (pe_clsfn T.cf_Kind_init G_c_Kind___init (hr.mono (by decide)) rfl T.m_Kind T.b_c_Kind___init pass0 (pa_cons (pv 0) (pa_cons pe_int (pa_cons (pv 1) pa_nil)))))), ?_⟩
  exact ⟨_, rfl, _, rfl, p, A.c_Names, dx, 0, m, rfl, hp, T.cl_Names, T.no_Names_low, T.no_Names_high, q⟩
theorem ok_fits (T : Txt K mg A) : FnOk P w K mg base CX0 3 A.f_c_Names_fits A.d_c_Names_fits ["self", "thing"] (spFits K A) := by
  have G_are_unlike_names := ok_unlike (P := P) (w := w) (base := base) T
  refine T.F_c_Names_fits.ok sc_c_Names_fits (fun vs H Q E h => ?_) (fun cdv A0 outer s H vs Q E hr h => ?_)
  · obtain ⟨p, dx, m, x, b, rfl, _⟩ := h
    rfl
  obtain ⟨p, dx, m, x, b, rfl, hp, hf, q⟩ := h
  refine ⟨_, (pss_one (ps_ret (pe_and (pe_callB call_isi (by rfl) T.n_isinstance Bt.isinstance (pa_cons (pv 1) (pa_cons (pe_bltn (v := .ty "tuple") rfl T.n_tuple Bt.tuple rfl) pa_nil))) (pe_and (pe_cmpR op_le (pe_callB call_len_seq (by rfl) T.n_len PySem.boot_len (pa_cons (pv 1) pa_nil)) (pe_fld (pv 0) rfl) (nomark _)) (pe_one (pe_call G_are_unlike_names (hr.mono (by decide)) rfl T.m_are_unlike_names T.k_are_unlike_names T.b_are_unlike_names .nil pass0 (pa_cons (pv 1) pa_nil))))))), ?_⟩
  rcases hf with ⟨t, xs, rfl, hq, hl, hx, rfl⟩ | ⟨t, ty, kt, rfl⟩
  · refine ⟨_, rfl, _, _, _, _, rfl, rfl, .tpl hq, T.i_tuple_tuple, _, rfl, iteT ?_⟩
    refine ⟨_, rfl, t, xs, rfl, .inr hq, _, rfl, p, A.c_Names, dx, _, _, rfl, hp, T.cl_Names, T.no_Names_high, lk2 nlo, _, _, rfl, rfl, _, rfl, ?_⟩
    refine ite2 (fun c => ?_) (fun c => ?_)
    · refine ⟨_, rfl, t, xs, rfl, hq, hl, hx, fun H' s' => ?_⟩
      have := q H' s'
      rw [show decide ((xs.length : Int) ≤ m) = true from c] at this
      exact this
    · have := q H (Same.refl _)
      rw [show decide ((xs.length : Int) ≤ m) = false from Bool.eq_false_iff.mpr c] at this
      exact this
  · exact ⟨_, rfl, _, _, _, _, rfl, rfl, ty, kt, _, rfl, iteF (q _ (Same.refl _))⟩
theorem ok_answer (T : Txt K mg A) : FnOk P w K mg base CX0 1 A.f_c_Names_answer_of A.d_c_Names_answer_of ["self", "text"] spAns := by
  refine T.F_c_Names_answer_of.ok sc_c_Names_answer_of (fun vs H Q E h => ?_) (fun cdv A0 outer s H vs Q E hr h => ?_)
  · obtain ⟨p, z, rfl, _⟩ := h
    rfl
  obtain ⟨p, z, rfl, hz, q⟩ := h
  refine ⟨_, (pss_one (ps_ret (pe_ifExp (pt_cmpR op_eq (pv 1) pe_str (nomark _)) (pe_tup pa_nil) (pe_callTy call_tuple_of (by rfl) T.n_tuple Bt.tuple (pa_cons (pe_bm PySem.F.plainAttrs_str PySem.F.slot_str_split PySem.F.type_str_split mt_split (pv 1) (pa_cons pe_str pa_nil)) pa_nil))))), ?_⟩
  refine ⟨_, rfl, rfl, _, rfl, ite2 (fun c => ?_) (fun c => ?_)⟩
  · have e : V.str z = V.str (Str.ofString "-") := of_decide_eq_true c
    have e2 : cd z = [45] := by
      have e3 : z = Str.ofString "-" := V.str.inj e
      rw [e3]; decide +kernel
    refine ⟨(by show 0 ≤ sizeLine; decide), fun t ht => q t _ (same_new ht _) ?_⟩
    rw [upd_same, show partsN (cd z) = [] by unfold partsN; rw [if_pos e2]]
    rfl
  · have e2 : ¬ cd z = [45] := fun e2 => c (decide_eq_true (congrArg V.str (cd_inj (e2.trans (show [45] = cd (Str.ofString "-") by decide +kernel)))))
    refine ⟨_, rfl, rfl, z, _, rfl, rfl, (by decide +kernel), Nat.le_trans hz.len (by decide), fun l hl => ?_⟩
    refine ⟨l, _, rfl, .inl ⟨SqL.of upd_same, fun t ht => q t _ ((same_new hl _).trans (same_new ht _)) ?_⟩⟩
    rw [upd_same, show partsN (cd z) = splitL (cd z) by unfold partsN; rw [if_neg e2]]
    rw [show Str.ofString " " = S [32] by decide +kernel, split_is, List.map_map]
    rfl
theorem ok_shown (T : Txt K mg A) : FnOk P w K mg base CX0 1 A.f_c_Names_shown A.d_c_Names_shown ["self", "answer"] (spShown K) := by
  refine T.F_c_Names_shown.ok sc_c_Names_shown (fun vs H Q E h => ?_) (fun cdv A0 outer s H vs Q E hr h => ?_)
  · obtain ⟨p, t, ws, rfl, _⟩ := h
    rfl
  obtain ⟨p, t, ws, rfl, hq, hz, q⟩ := h
  refine ⟨_, (pss_one (ps_ret (pe_ifExp (pt_cmpR op_gt (pe_callB call_len_seq (by rfl) T.n_len PySem.boot_len (pa_cons (pv 1) pa_nil)) pe_int (nomark _)) (pe_bm PySem.F.plainAttrs_str PySem.F.slot_str_join PySem.F.type_str_join mt_join pe_str (pa_cons (pv 1) pa_nil)) pe_str))), ?_⟩
  refine ⟨_, rfl, t, _, rfl, .inr hq, _, _, rfl, rfl, _, rfl, ite2 (fun c => ?_) (fun c => ?_)⟩
  · have c' : ws.length > 0 := by have := of_decide_eq_true c; rw [List.length_map] at this; omega
    rw [if_pos c'] at q
    exact ⟨rfl, _, rfl, _, t, ws, rfl, rfl, .inr hq, Nat.le_trans hz (by decide), q⟩
  · have c' : ¬ ws.length > 0 := fun h => c (decide_eq_true (by rw [List.length_map]; omega))
    rw [if_neg c'] at q
    exact q
theorem ok_rank (T : Txt K mg A) : FnOk P w K mg base CX0 1 A.f_c_Names_rank A.d_c_Names_rank ["self", "answer"] (spRank K) := by
  refine T.F_c_Names_rank.ok sc_c_Names_rank (fun vs H Q E h => ?_) (fun cdv A0 outer s H vs Q E hr h => ?_)
  · obtain ⟨p, t, ws, rfl, _⟩ := h
    rfl
  obtain ⟨p, t, xs, rfl, hq, q⟩ := h
  exact ⟨_, (pss_one (ps_ret (pe_callB call_len_seq (by rfl) T.n_len PySem.boot_len (pa_cons (pv 1) pa_nil)))), _, rfl, t, _, rfl, .inr hq, q⟩
theorem ok_sample (T : Txt K mg A) : FnOk P w K mg base CX0 1 A.f_c_Names_sample A.d_c_Names_sample ["self", "rank"] (spSample K) := by
  refine T.F_c_Names_sample.ok sc_c_Names_sample (fun vs H Q E h => ?_) (fun cdv A0 outer s H vs Q E hr h => ?_)
  · obtain ⟨p, r, rfl, _⟩ := h
    rfl
  obtain ⟨p, r, rfl, q⟩ := h
  refine ⟨_, (pss_one (ps_ret (pe_slice sl_tup2 (pe_gv rfl T.g_SAMPLE_NAMES) po_none (po_some (pv 1))))), ?_⟩
  exact ⟨_, rfl, _, rfl, _, _, rfl, T.q_SAMPLE_NAMES H, q⟩
end
end K08.N
set_option maxHeartbeats 4000000
namespace K08
open PySem L2
seal PE PT PW PA PS PSs PG PGs PI PO PSet OpR UnR CallR TruR IxR SlR PC PPs
local macro_rules | `(tactic| walk_at "rd1") => `(tactic| first
  | (refine And.intro rfl ?_)
  | (refine And.intro (by assumption) ?_)
  | (refine And.intro (fun _ e => e) ?_)
  | (refine And.intro (TyOf.str _) ?_) | (refine And.intro (TyOf.int _) ?_) | (refine And.intro (TyOf.bl _) ?_) | (refine And.intro TyOf.non ?_)
  | (refine iteT ?_) | (refine iteF ?_)
  | (apply Exists.intro))
local macro_rules | `(tactic| walk_at "rd") => `(tactic| repeat (walk_at "rd1"))

theorem dig_val : ∀ (k : Nat) (f : List Nat), f.length = k → f.all inF = true → f ≠ [] → (f.head? = some 48 → f = [48]) → dig (val f).toNat = f
  | 0, f, hk, _, hn, _ => absurd (List.length_eq_zero_iff.mp hk) hn
  | k + 1, f, hk, ha, hn, hh => by
    rcases List.eq_nil_or_concat f with e | ⟨g, c, e⟩
    · exact absurd e hn
    rw [List.concat_eq_append] at e
    subst e
    rw [List.all_append, Bool.and_eq_true] at ha
    have hc : inF c = true := by simpa using ha.2
    have hc' := (inF_iff c).mp hc
    rw [val_snoc]
    rcases g with _ | ⟨a, r⟩
    · have : (val [] * 10 + ((c - 48 : Nat) : Int)).toNat = c - 48 := by
        show ((0 : Int) * 10 + ((c - 48 : Nat) : Int)).toNat = c - 48
        omega
      rw [this, dig_lt (by omega)]
      show [48 + (c - 48)] = [c]
      congr 1; omega
    · have hne : a ≠ 48 := fun e => by
        have := hh (by rw [e]; rfl)
        have := congrArg List.length this
        simp at this
      have ih := dig_val k (a :: r) (by simpa using hk) ha.1 (by simp) (fun e => absurd (by simpa using e) hne)
      have v0 := (val_bound (a :: r).length (a :: r) rfl ha.1).1
      have v1 : val (a :: r) ≠ 0 := fun e => by
        rw [e] at ih
        have : dig 0 = a :: r := ih
        rw [dig_zero] at this
        exact hne (List.cons.inj this).1.symm
      have e1 : (val (a :: r) * 10 + ((c - 48 : Nat) : Int)).toNat = (val (a :: r)).toNat * 10 + (c - 48) := by omega
      rw [e1, dig_ge (by omega), show ((val (a :: r)).toNat * 10 + (c - 48)) / 10 = (val (a :: r)).toNat by omega, ih, show ((val (a :: r)).toNat * 10 + (c - 48)) % 10 = c - 48 by omega]
      congr 2; omega
theorem numB_is {l : List Nat} {n : Int} (h : numB l 60 = some n) : numL n = l := by
  unfold numB at h
  split at h
  · cases h
  rename_i hc
  have h1 : ¬ (fig l).length < 1 := fun z => hc (.inl z)
  have h3 : (fig l).take 1 = [48] → l = [48] := fun z => Classical.byContradiction fun y => hc (.inr (.inr (.inl ⟨z, y⟩)))
  have h4 : (fig l).all inF = true := by
    cases e : (fig l).all inF with
    | true => rfl
    | false => exact absurd (.inr (.inr (.inr e))) hc
  have hne : fig l ≠ [] := fun e => h1 (by rw [e]; decide)
  have h48 : (fig l).head? = some 48 → l = [48] := fun z => h3 (by
    cases e : fig l with
    | nil => exact absurd e hne
    | cons a r => rw [e] at z; have : a = 48 := by simpa using z
                  rw [this]; rfl)
  have v0 := (val_bound (fig l).length (fig l) rfl h4).1
  have hd := dig_val _ (fig l) rfl h4 hne (fun z => by
    have := h48 z
    rw [this]; decide)
  have hn : (if l.take 1 = [45] then - val (fig l) else val (fig l)) = n := Option.some.inj h
  by_cases hm : l.take 1 = [45]
  · rw [if_pos hm] at hn
    have ef : fig l = l.drop 1 := if_pos hm
    have el : l = 45 :: fig l := by
      rw [ef]
      have := List.take_append_drop 1 l
      rw [hm] at this
      exact this.symm
    have vne : val (fig l) ≠ 0 := fun e => by
      rw [e] at hd
      have e2 : dig 0 = fig l := hd
      rw [dig_zero] at e2
      have := h48 (by rw [← e2]; rfl)
      rw [this] at hm
      exact absurd hm (by decide)
    have hneg : n < 0 := by omega
    unfold numL
    rw [if_pos hneg, show n.natAbs = (val (fig l)).toNat by omega, hd]
    exact el.symm
  · rw [if_neg hm] at hn
    have ef : fig l = l := if_neg hm
    unfold numL
    rw [if_neg (by omega), show n.natAbs = (val (fig l)).toNat by omega, hd, ef]
/-! the five kinds as one -/
inductive KU where
  | yn
  | wh (lo hi : Int)
  | mo (lo hi : Int)
  | pk (ws : List Str)
  | nm (m : Nat)
inductive AV where
  | b (x : Bool)
  | i (n : Int)
  | s (z : Str)
  | t (ws : List Str)
  deriving DecidableEq
abbrev YN : List (Str × Bool) := [("yes", true), ("no", false)]
structure GoodW (ws : List Str) : Prop where
  nd : ws.Nodup
  wd : ∀ z ∈ ws, z.length ≤ 12 ∧ 1 ≤ z.length ∧ ∀ c ∈ cd z, 97 ≤ c ∧ c ≤ 122
def KU.Good : KU → Prop
  | .yn => True
  | .wh lo hi => lo ≤ hi ∧ lo.natAbs < 10 ^ 60 ∧ hi.natAbs < 10 ^ 60
  | .mo lo hi => lo ≤ hi ∧ lo.natAbs < 10 ^ 60 ∧ hi.natAbs < 10 ^ 60
  | .pk ws => GoodW ws ∧ 1 ≤ ws.length ∧ ws.length ≤ 6
  | .nm m => m ≤ 6
def KU.low : KU → Int
  | .yn => 0
  | .wh lo _ => lo
  | .mo lo _ => lo
  | .pk _ => 0
  | .nm _ => 0
def KU.high : KU → Int
  | .yn => 1
  | .wh _ hi => hi
  | .mo _ hi => hi
  | .pk ws => (ws.length : Int) - 1
  | .nm m => m
abbrev lets : List Str := ["a", "b", "c", "d", "e", "f"]
def fit : KU → AV → Bool
  | .yn, .b _ => true
  | .wh lo hi, .i n => decide (lo ≤ n) && decide (n ≤ hi)
  | .mo lo hi, .i n => decide (lo ≤ n) && decide (n ≤ hi)
  | .pk ws, .s z => decide (z ∈ ws)
  | .nm m, .t ws => decide ((ws.length : Int) ≤ m) && N.unlikeB (ws.map V.str)
  | _, _ => false
def ans : KU → List Nat → Option AV
  | .yn, l => (YN.lookup (S l)).map AV.b
  | .wh _ _, l => (numB l 60).map AV.i
  | .mo _ _, l => (ansM l).map AV.i
  | .pk _, l => some (.s (S l))
  | .nm _, l => some (.t ((N.partsN l).map S))
def shw : KU → AV → List Nat
  | .yn, .b x => if x = true then cd "yes" else cd "no"
  | .wh _ _, .i n => numL n
  | .mo _ _, .i n => monL n
  | .pk _, .s z => cd z
  | .nm _, .t ws => if ws = [] then [45] else joinL [32] (ws.map cd)
  | _, _ => []
def rnk : KU → AV → Int
  | .yn, .b x => if x = true then 1 else 0
  | .wh _ _, .i n => n
  | .mo _ _, .i n => n
  | .pk ws, .s z => (ws.idxOf z : Nat)
  | .nm _, .t ws => (ws.length : Nat)
  | _, _ => 0
def smp : KU → Int → AV
  | .yn, r => .b (decide (r = 1))
  | .wh _ _, r => .i r
  | .mo _ _, r => .i r
  | .pk ws, r => .s ((ws[r.toNat]?).getD "")
  | .nm _, r => .t (lets.take r.toNat)
theorem inL_iff {c : Nat} (h : N.inL c = true) : 97 ≤ c ∧ c ≤ 122 := by
  have e0 : N.inL c = decide (c ∈ ("abcdefghijklmnopqrstuvwxyz" : Str).cps.toList) := StrLaws.found_one "abcdefghijklmnopqrstuvwxyz" c
  have e : ("abcdefghijklmnopqrstuvwxyz" : Str).cps.toList = (List.range 26).map (97 + ·) := by decide +kernel
  rw [e0, e, decide_eq_true_iff] at h
  obtain ⟨k, hk, rfl⟩ := List.mem_map.mp h
  have := List.mem_range.mp hk
  omega
theorem name_let {z : Str} (h : N.nameB z = true) : z.length ≤ 12 ∧ 1 ≤ z.length ∧ ∀ c ∈ cd z, 97 ≤ c ∧ c ≤ 122 := by
  unfold N.nameB at h
  simp only [Bool.and_eq_true, decide_eq_true_iff] at h
  obtain ⟨⟨⟨_, h1⟩, h2⟩, h3⟩ := h
  exact ⟨by omega, by omega, fun c hc => inL_iff (List.all_eq_true.mp h3 c hc)⟩
theorem fit_t {m : Nat} {ws : List Str} (h : fit (.nm m) (.t ws) = true) : (ws.length : Int) ≤ m ∧ ws.Nodup ∧ ∀ z ∈ ws, N.nameB z = true := by
  have h : (decide ((ws.length : Int) ≤ m) && N.unlikeB (ws.map V.str)) = true := h
  rw [N.unlike_strs] at h
  simp only [Bool.and_eq_true, decide_eq_true_iff] at h
  exact ⟨h.1, h.2.2, List.all_eq_true.mp h.2.1⟩
theorem wd_ne {z : Str} (h : z.length ≤ 12 ∧ 1 ≤ z.length ∧ ∀ c ∈ cd z, 97 ≤ c ∧ c ≤ 122) : 32 ∉ cd z ∧ cd z ≠ [] ∧ cd z ≠ [45] := by
  refine ⟨fun e => by have := h.2.2 32 e; omega, fun e => ?_, fun e => ?_⟩
  · have := h.2.1; rw [len_cd, e] at this; exact absurd this (by decide)
  · have := h.2.2 45 (by rw [e]; simp); omega
theorem join_head : ∀ {ps : List (List Nat)}, (∀ p ∈ ps, 32 ∉ p ∧ p ≠ []) → ∀ c, (joinL [32] ps).head? = some c → c ≠ 32
  | [x], h, c, k => fun e => (h x (by simp)).1 (by rw [← e]; exact List.mem_of_mem_head? k)
  | x :: y :: r, h, c, k => fun e => by
    have hx := h x (by simp)
    have k' : (x ++ [32] ++ joinL [32] (y :: r)).head? = some c := k
    cases x with
    | nil => exact absurd rfl hx.2
    | cons a x =>
      have e2 : a = c := by simpa using k'
      exact hx.1 (by rw [← e, e2]; simp)
theorem join_ne : ∀ {ps : List (List Nat)}, ps ≠ [] → (∀ p ∈ ps, 32 ∉ p ∧ p ≠ []) → joinL [32] ps ≠ []
  | [], h, _ => absurd rfl h
  | [x], _, h => (h x (by simp)).2
  | x :: y :: r, _, h => fun e => by
    have e' : x ++ [32] ++ joinL [32] (y :: r) = [] := e
    simp at e'
theorem join_last : ∀ {ps : List (List Nat)}, (∀ p ∈ ps, 32 ∉ p ∧ p ≠ []) → ∀ c, (joinL [32] ps).getLast? = some c → c ≠ 32
  | [x], h, c, k => fun e => (h x (by simp)).1 (by rw [← e]; exact List.mem_of_getLast? k)
  | x :: y :: r, h, c, k => by
    have k' : (x ++ [32] ++ joinL [32] (y :: r)).getLast? = some c := k
    have hr : ∀ p ∈ y :: r, 32 ∉ p ∧ p ≠ [] := fun p hp => h p (List.mem_cons_of_mem _ hp)
    rw [List.getLast?_append] at k'
    refine join_last hr c ?_
    cases e : (joinL [32] (y :: r)).getLast? with
    | none => exact absurd (List.getLast?_eq_none_iff.mp e) (join_ne (by simp) hr)
    | some d => rw [e] at k'; simpa using k'
theorem joinL_len (sep : List Nat) : ∀ ys : List (List Nat), (joinL sep ys).length ≤ (ys.map List.length).sum + ys.length * sep.length
  | [] => Nat.zero_le _
  | [x] => by show x.length ≤ x.length + 0 + 1 * sep.length; omega
  | x :: y :: r => by
    have := joinL_len sep (y :: r)
    show (x ++ sep ++ joinL sep (y :: r)).length ≤ x.length + ((y :: r).map List.length).sum + ((y :: r).length + 1) * sep.length
    rw [List.length_append, List.length_append, Nat.add_mul]
    omega
theorem sum_le {n : Nat} : ∀ {l : List Str}, (∀ z ∈ l, z.length ≤ n) → (l.map (·.length)).sum ≤ l.length * n
  | [], _ => Nat.zero_le _
  | a :: r, h => by
    have h1 := h a (by simp)
    have h2 := sum_le (l := r) fun z hz => h z (by simp [hz])
    show a.length + (r.map (·.length)).sum ≤ (r.length + 1) * n
    rw [Nat.add_mul]; omega
theorem mem_join {c : Nat} : ∀ {ps : List (List Nat)}, c ∈ joinL [32] ps → c = 32 ∨ ∃ p ∈ ps, c ∈ p
  | [x], h => .inr ⟨x, by simp, h⟩
  | x :: y :: r, h => by
    have h' : c ∈ x ++ [32] ++ joinL [32] (y :: r) := h
    rcases List.mem_append.mp h' with k | k
    · rcases List.mem_append.mp k with k | k
      · exact .inr ⟨x, by simp, k⟩
      · exact .inl (by simpa using k)
    · rcases mem_join k with e | ⟨p, hp, e⟩
      · exact .inl e
      · exact .inr ⟨p, List.mem_cons_of_mem _ hp, e⟩
theorem nm_facts {m : Nat} {ws : List Str} (g : m ≤ 6) (h : fit (.nm m) (.t ws) = true) : stripL (shw (.nm m) (.t ws)) = shw (.nm m) (.t ws) ∧ shw (.nm m) (.t ws) ≠ [] ∧ Fine 200 (S (shw (.nm m) (.t ws))) ∧ N.partsN (shw (.nm m) (.t ws)) = ws.map cd ∧ (ws.map (·.length)).sum + ws.length * 1 ≤ 1000 := by
  obtain ⟨hl, hnd, hw⟩ := fit_t h
  have hw' := fun z hz => name_let (hw z hz)
  have hsum := sum_le (n := 12) fun z hz => (hw' z hz).1
  have hp : ∀ p ∈ ws.map cd, 32 ∉ p ∧ p ≠ [] := fun p hp => by
    obtain ⟨z, hz, rfl⟩ := List.mem_map.mp hp
    have := wd_ne (hw' z hz)
    exact ⟨this.1, this.2.1⟩
  have es : shw (.nm m) (.t ws) = if ws = [] then [45] else joinL [32] (ws.map cd) := rfl
  rw [es]
  by_cases e : ws = []
  · subst e
    rw [if_pos rfl]
    exact ⟨by decide, by decide, ⟨by decide, by rw [cd_S]; decide⟩, rfl, by decide⟩
  · rw [if_neg e]
    have hs : splitL (joinL [32] (ws.map cd)) = ws.map cd := splitL_of (fun e' => e (List.map_eq_nil_iff.mp e')) fun p hp' => (hp p hp').1
    refine ⟨stripL_self (join_head hp) (join_last hp), join_ne (fun e' => e (List.map_eq_nil_iff.mp e')) hp, ⟨?_, fun c hc => ?_⟩, ?_, by omega⟩
    · rw [len_S]
      have h1 := joinL_len [32] (ws.map cd)
      have h2 : ((ws.map cd).map List.length).sum = (ws.map (·.length)).sum := by rw [List.map_map]; rfl
      rw [h2, List.length_map, show ([32] : List Nat).length = 1 from rfl] at h1
      omega
    · rw [cd_S] at hc
      rcases mem_join hc with e' | ⟨p, hp', e'⟩
      · omega
      · obtain ⟨z, hz, rfl⟩ := List.mem_map.mp hp'
        have := (hw' z hz).2.2 c e'; omega
    · unfold N.partsN
      rw [if_neg, hs]
      intro e'
      rw [e', splitL_one (by decide)] at hs
      have : [45] ∈ ws.map cd := by rw [← hs]; simp
      obtain ⟨z, hz, e2⟩ := List.mem_map.mp this
      exact (wd_ne (hw' z hz)).2.2 e2
theorem SS_cd (ws : List Str) : (ws.map cd).map S = ws := by
  rw [List.map_map]
  conv => rhs; rw [← List.map_id ws]
  exact List.map_congr_left fun z _ => S_cd z
theorem cd_SS (ps : List (List Nat)) : (ps.map S).map cd = ps := by
  rw [List.map_map]
  conv => rhs; rw [← List.map_id ps]
  exact List.map_congr_left fun z _ => cd_S z
theorem bnd {lo hi n : Int} (g : lo ≤ hi ∧ lo.natAbs < 10 ^ 60 ∧ hi.natAbs < 10 ^ 60) (h : (decide (lo ≤ n) && decide (n ≤ hi)) = true) : n.natAbs < 10 ^ 60 := by
  simp only [Bool.and_eq_true, decide_eq_true_iff] at h
  omega
theorem ans_shw {ku : KU} {a : AV} (g : ku.Good) (h : fit ku a = true) : ans ku (shw ku a) = some a := by
  cases ku <;> cases a <;> first | (cases h; done) | skip
  case yn.b x =>
    cases x
    · show (YN.lookup (S (cd "no"))).map AV.b = some (.b false)
      rw [S_cd]; decide +kernel
    · show (YN.lookup (S (cd "yes"))).map AV.b = some (.b true)
      rw [S_cd]; decide +kernel
  case wh.i lo hi n => show (numB (numL n) 60).map AV.i = _; rw [numB_str (bnd g h)]; rfl
  case mo.i lo hi n => show (ansM (monL n)).map AV.i = _; rw [ansM_mon (bnd g h)]; rfl
  case pk.s ws z => show some (AV.s (S (cd z))) = _; rw [S_cd]
  case nm.t m ws =>
    have := (nm_facts g h).2.2.2.1
    show some (AV.t ((N.partsN (shw (.nm m) (.t ws))).map S)) = _
    rw [this, SS_cd]
theorem shw_ans {ku : KU} {a : AV} {l : List Nat} (h : ans ku l = some a) : shw ku a = l := by
  cases ku with
  | yn =>
    have h' : (YN.lookup (S l)).map AV.b = some a := h
    rw [List.lookup_cons, List.lookup_cons, List.lookup_nil] at h'
    cases e1 : (S l == ("yes" : Str)) with
    | true =>
      rw [e1] at h'
      have : a = .b true := (Option.some.inj h').symm
      subst this
      show cd "yes" = l
      rw [← eq_of_beq e1, cd_S]
    | false =>
      rw [e1] at h'
      cases e2 : (S l == ("no" : Str)) with
      | true =>
        rw [e2] at h'
        have : a = .b false := (Option.some.inj h').symm
        subst this
        show cd "no" = l
        rw [← eq_of_beq e2, cd_S]
      | false => rw [e2] at h'; cases h'
  | wh lo hi =>
    have h' : (numB l 60).map AV.i = some a := h
    cases e : numB l 60 with
    | none => rw [e] at h'; cases h'
    | some n =>
      rw [e] at h'
      have : a = .i n := (Option.some.inj h').symm
      subst this
      exact numB_is e
  | mo lo hi =>
    have h' : (ansM l).map AV.i = some a := h
    cases e : ansM l with
    | none => rw [e] at h'; cases h'
    | some n =>
      rw [e] at h'
      have : a = .i n := (Option.some.inj h').symm
      subst this
      exact ansM_is e
  | pk ws =>
    have : a = .s (S l) := (Option.some.inj h).symm
    subst this
    exact cd_S l
  | nm m =>
    have : a = .t ((N.partsN l).map S) := (Option.some.inj h).symm
    subst this
    show (if (N.partsN l).map S = [] then [45] else joinL [32] (((N.partsN l).map S).map cd)) = l
    rw [cd_SS]
    by_cases e : l = [45]
    · have : N.partsN l = [] := if_pos e
      rw [this, e]; rfl
    · have : N.partsN l = splitL l := if_neg e
      rw [this, if_neg (fun z => splitL_ne l (List.map_eq_nil_iff.mp z)), splitL_join]
theorem shw_facts {ku : KU} {a : AV} (g : ku.Good) (h : fit ku a = true) : stripL (shw ku a) = shw ku a ∧ shw ku a ≠ [] ∧ Fine 200 (S (shw ku a)) := by
  cases ku <;> cases a <;> first | (cases h; done) | skip
  case yn.b x =>
    cases x
    · show stripL (cd "no") = cd "no" ∧ cd "no" ≠ [] ∧ Fine 200 (S (cd "no"))
      rw [S_cd]
      exact ⟨by decide +kernel, by decide +kernel, ⟨by decide +kernel, by decide +kernel⟩⟩
    · show stripL (cd "yes") = cd "yes" ∧ cd "yes" ≠ [] ∧ Fine 200 (S (cd "yes"))
      rw [S_cd]
      exact ⟨by decide +kernel, by decide +kernel, ⟨by decide +kernel, by decide +kernel⟩⟩
  case wh.i lo hi n => exact ⟨numL_strip n, numL_ne n, (fineNum (bnd g h)).mono (by decide)⟩
  case mo.i lo hi n =>
    refine ⟨stripL_self mon_blank.1 mon_blank.2, fun e => ?_, (mon_fine (bnd g h)).mono (by decide)⟩
    have := mon_len n
    have e' : monL n = [] := e
    rw [e'] at this; exact absurd this (by decide)
  case pk.s ws z =>
    have hz : z ∈ ws := of_decide_eq_true h
    have hw := g.1.wd z hz
    have := wd_ne hw
    refine ⟨stripL_no fun c hc e => this.1 (by rw [← e]; exact hc), this.2.1, ?_⟩
    show Fine 200 (S (cd z))
    rw [S_cd]
    exact ⟨by have := hw.1; omega, fun c hc => by have := hw.2.2 c hc; omega⟩
  case nm.t m ws =>
    have := nm_facts g h
    exact ⟨this.1, this.2.1, this.2.2.1⟩
theorem lets_ok : ∀ i : Nat, i < 7 → N.unlikeB ((lets.take i).map V.str) = true ∧ (lets.take i).length = i := by decide +kernel
theorem rnk_rng {ku : KU} {a : AV} (g : ku.Good) (h : fit ku a = true) : ku.low ≤ rnk ku a ∧ rnk ku a ≤ ku.high := by
  cases ku <;> cases a <;> first | (cases h; done) | skip
  case yn.b x => cases x <;> decide
  case wh.i lo hi n =>
    have h' : (decide (lo ≤ n) && decide (n ≤ hi)) = true := h
    simp only [Bool.and_eq_true, decide_eq_true_iff] at h'
    exact h'
  case mo.i lo hi n =>
    have h' : (decide (lo ≤ n) && decide (n ≤ hi)) = true := h
    simp only [Bool.and_eq_true, decide_eq_true_iff] at h'
    exact h'
  case pk.s ws z =>
    have hz : z ∈ ws := of_decide_eq_true h
    have := List.idxOf_lt_length_of_mem hz
    show (0 : Int) ≤ (ws.idxOf z : Nat) ∧ ((ws.idxOf z : Nat) : Int) ≤ (ws.length : Int) - 1
    omega
  case nm.t m ws =>
    have := (fit_t h).1
    show (0 : Int) ≤ (ws.length : Nat) ∧ ((ws.length : Nat) : Int) ≤ (m : Nat)
    omega
theorem smp_fit {ku : KU} {r : Int} (g : ku.Good) (h1 : ku.low ≤ r) (h2 : r ≤ ku.high) : fit ku (smp ku r) = true ∧ rnk ku (smp ku r) = r := by
  cases ku with
  | yn =>
    have h1' : 0 ≤ r := h1
    have h2' : r ≤ 1 := h2
    refine ⟨rfl, ?_⟩
    show (if decide (r = 1) = true then (1 : Int) else 0) = r
    by_cases e : r = 1
    · rw [if_pos (decide_eq_true e)]; exact e.symm
    · rw [if_neg (fun z => e (of_decide_eq_true z))]; omega
  | wh lo hi =>
    have h1' : lo ≤ r := h1
    have h2' : r ≤ hi := h2
    refine ⟨?_, rfl⟩
    show (decide (lo ≤ r) && decide (r ≤ hi)) = true
    rw [decide_eq_true h1', decide_eq_true h2']; rfl
  | mo lo hi =>
    have h1' : lo ≤ r := h1
    have h2' : r ≤ hi := h2
    refine ⟨?_, rfl⟩
    show (decide (lo ≤ r) && decide (r ≤ hi)) = true
    rw [decide_eq_true h1', decide_eq_true h2']; rfl
  | pk ws =>
    have h1' : 0 ≤ r := h1
    have h2' : r ≤ (ws.length : Int) - 1 := h2
    have hr : r.toNat < ws.length := by omega
    have e : (ws[r.toNat]?).getD "" = ws[r.toNat] := by rw [List.getElem?_eq_getElem hr]; rfl
    refine ⟨?_, ?_⟩
    · show decide ((ws[r.toNat]?).getD "" ∈ ws) = true
      rw [e]; exact decide_eq_true (List.getElem_mem hr)
    · show ((ws.idxOf ((ws[r.toNat]?).getD "") : Nat) : Int) = r
      rw [e, g.1.nd.idxOf_getElem]; omega
  | nm m =>
    have g' : m ≤ 6 := g
    have h1' : 0 ≤ r := h1
    have h2' : r ≤ (m : Nat) := h2
    have := lets_ok r.toNat (by omega)
    refine ⟨?_, ?_⟩
    · show (decide (((lets.take r.toNat).length : Int) ≤ (m : Nat)) && N.unlikeB ((lets.take r.toNat).map V.str)) = true
      rw [this.1, this.2, decide_eq_true (by omega)]; rfl
    · show (((lets.take r.toNat).length : Nat) : Int) = r
      rw [this.2]; omega
end K08
set_option maxHeartbeats 4000000
namespace K08
open PySem L2
seal PE PT PW PA PS PSs PG PGs PI PO PSet OpR UnR CallR TruR IxR SlR PC PPs
local macro_rules | `(tactic| walk_at "rd1") => `(tactic| first
  | (refine And.intro rfl ?_)
  | (refine And.intro (by assumption) ?_)
  | (refine And.intro (fun _ e => e) ?_)
  | (refine And.intro (TyOf.str _) ?_) | (refine And.intro (TyOf.int _) ?_) | (refine And.intro (TyOf.bl _) ?_) | (refine And.intro TyOf.non ?_)
  | (refine iteT ?_) | (refine iteF ?_)
  | (apply Exists.intro))
local macro_rules | `(tactic| walk_at "rd") => `(tactic| repeat (walk_at "rd1"))

abbrev fP (n : Nat) (pw : Addr) : List (Str × V) := [("low", .int 0), ("high", .int ((n : Int) - 1)), ("words", .ref pw)]
def cls (A : Adr) : KU → Addr
  | .yn => A.c_YesNo
  | .wh _ _ => A.c_Whole
  | .mo _ _ => A.c_Money
  | .pk _ => A.c_Pick
  | .nm _ => A.c_Names
def fl (H : Hp) (fs : List (Str × V)) : KU → Prop
  | .pk ws => ∃ pw, fs = fP ws.length pw ∧ H pw = some (.lst (ws.map V.str))
  | .yn => fs = flds 0 1
  | .wh lo hi => fs = flds lo hi
  | .mo lo hi => fs = flds lo hi
  | .nm m => fs = flds 0 (m : Nat)
def st (A : Adr) (ku : KU) (H : Hp) (p : Addr) : Prop := ∃ dx fs, H p = some (.ins (cls A ku) dx fs) ∧ fl H fs ku
theorem fl.same {H H' : Hp} {fs : List (Str × V)} {ku : KU} (e : Same H H') (h : fl H fs ku) : fl H' fs ku := by
  cases ku with
  | pk ws => obtain ⟨pw, h1, h2⟩ := h; exact ⟨pw, h1, e _ _ h2⟩
  | yn => exact h
  | wh lo hi => exact h
  | mo lo hi => exact h
  | nm m => exact h
theorem st.same {A : Adr} {ku : KU} {H H' : Hp} {p : Addr} (e : Same H H') (h : st A ku H p) : st A ku H' p := by
  obtain ⟨dx, fs, h1, h2⟩ := h
  exact ⟨dx, fs, e _ _ h1, h2.same e⟩
def ms : List Str := ["fits", "answer_of", "read", "shown", "rank", "sample"]
theorem lk03 {f a b c : Str} {v w u : V} (h1 : (f == a) = false) (h2 : (f == b) = false) (h3 : (f == c) = false) : ([(a, v), (b, w), (c, u)] : List (Str × V)).lookup f = none := by
  rw [List.lookup_cons, h1, List.lookup_cons, h2, List.lookup_cons, h3]; rfl
theorem lkn {f : Str} {lo hi : Int} (h1 : (f == ("low" : Str)) = false) (h2 : (f == ("high" : Str)) = false) : (flds lo hi).lookup f = none := lk0 h1 h2
theorem lkp {f : Str} {n : Nat} {pw : Addr} (h1 : (f == ("low" : Str)) = false) (h2 : (f == ("high" : Str)) = false) (h3 : (f == ("words" : Str)) = false) : (fP n pw).lookup f = none := lk03 h1 h2 h3
theorem flds_no {lo hi : Int} {m : Str} (hm : m ∈ ms) : (flds lo hi).lookup m = none := by
  simp only [ms, List.mem_cons, List.not_mem_nil, or_false] at hm
  rcases hm with e | e | e | e | e | e
  · subst e; exact lkn (by decide +kernel) (by decide +kernel)
  · subst e; exact lkn (by decide +kernel) (by decide +kernel)
  · subst e; exact lkn (by decide +kernel) (by decide +kernel)
  · subst e; exact lkn (by decide +kernel) (by decide +kernel)
  · subst e; exact lkn (by decide +kernel) (by decide +kernel)
  · subst e; exact lkn (by decide +kernel) (by decide +kernel)
theorem fl.no {H : Hp} {fs : List (Str × V)} {ku : KU} {m : Str} (h : fl H fs ku) (hm : m ∈ ms) : fs.lookup m = none := by
  cases ku with
  | pk ws =>
    obtain ⟨pw, rfl, _⟩ := h
    simp only [ms, List.mem_cons, List.not_mem_nil, or_false] at hm
    rcases hm with e | e | e | e | e | e
    · subst e; exact lkp (by decide +kernel) (by decide +kernel) (by decide +kernel)
    · subst e; exact lkp (by decide +kernel) (by decide +kernel) (by decide +kernel)
    · subst e; exact lkp (by decide +kernel) (by decide +kernel) (by decide +kernel)
    · subst e; exact lkp (by decide +kernel) (by decide +kernel) (by decide +kernel)
    · subst e; exact lkp (by decide +kernel) (by decide +kernel) (by decide +kernel)
    · subst e; exact lkp (by decide +kernel) (by decide +kernel) (by decide +kernel)
  | yn => have h : fs = flds 0 1 := h; rw [h]; exact flds_no hm
  | wh lo hi => have h : fs = flds lo hi := h; rw [h]; exact flds_no hm
  | mo lo hi => have h : fs = flds lo hi := h; rw [h]; exact flds_no hm
  | nm m => have h : fs = flds 0 (m : Nat) := h; rw [h]; exact flds_no hm
theorem fl.low {H : Hp} {fs : List (Str × V)} {ku : KU} (h : fl H fs ku) : fs.lookup ("low" : Str) = some (.int ku.low) := by
  cases ku with
  | pk ws => obtain ⟨pw, rfl, _⟩ := h; exact lk1
  | yn => have h : fs = flds 0 1 := h; rw [h]; exact lk1
  | wh lo hi => have h : fs = flds lo hi := h; rw [h]; exact lk1
  | mo lo hi => have h : fs = flds lo hi := h; rw [h]; exact lk1
  | nm m => have h : fs = flds 0 (m : Nat) := h; rw [h]; exact lk1
theorem fl.high {H : Hp} {fs : List (Str × V)} {ku : KU} (h : fl H fs ku) : fs.lookup ("high" : Str) = some (.int ku.high) := by
  cases ku with
  | pk ws => obtain ⟨pw, rfl, _⟩ := h; exact lk2 nlo
  | yn => have h : fs = flds 0 1 := h; rw [h]; exact lk2 nlo
  | wh lo hi => have h : fs = flds lo hi := h; rw [h]; exact lk2 nlo
  | mo lo hi => have h : fs = flds lo hi := h; rw [h]; exact lk2 nlo
  | nm m => have h : fs = flds 0 (m : Nat) := h; rw [h]; exact lk2 nlo
/-- how an answer stands -/
def AR (K : PySem.W.Frag) (H : Hp) : AV → V → Prop
  | .b x, v => v = .bl x
  | .i n, v => v = .int n
  | .s z, v => v = .str z
  | .t ws, v => ∃ p, v = .ref p ∧ SqT K H p (ws.map V.str)
theorem AR.same {K : PySem.W.Frag} {H H' : Hp} {a : AV} {v : V} (e : Same H H') (h : AR K H a v) : AR K H' a v := by
  cases a with
  | b x => exact h
  | i x => exact h
  | s x => exact h
  | t ws => obtain ⟨p, h1, h2⟩ := h; exact ⟨p, h1, e.seqT h2⟩
def OR (K : PySem.W.Frag) (H : Hp) : Option AV → V → Prop
  | none, v => v = .non
  | some a, v => AR K H a v
def Sm : AV → Prop
  | .t ws => ws.length ≤ 1000 ∧ ∀ z ∈ ws, Fine 900 z
  | _ => True
def tyok : KU → AV → Prop
  | .yn, .b _ => True
  | .wh _ _, .i _ => True
  | .mo _ _, .i _ => True
  | .pk _, .s _ => True
  | .nm _, .t _ => True
  | _, _ => False
theorem fit_ty {ku : KU} {a : AV} (h : fit ku a = true) : tyok ku a := by
  cases ku <;> cases a <;> first | trivial | (cases h; done)
theorem ans_ty {ku : KU} {a : AV} {l : List Nat} (h : ans ku l = some a) : tyok ku a := by
  cases ku with
  | yn =>
    have h' : (YN.lookup (S l)).map AV.b = some a := h
    cases e : YN.lookup (S l) with
    | none => rw [e] at h'; cases h'
    | some n => rw [e] at h'; cases h'; trivial
  | wh lo hi =>
    have h' : (numB l 60).map AV.i = some a := h
    cases e : numB l 60 with
    | none => rw [e] at h'; cases h'
    | some n => rw [e] at h'; cases h'; trivial
  | mo lo hi =>
    have h' : (ansM l).map AV.i = some a := h
    cases e : ansM l with
    | none => rw [e] at h'; cases h'
    | some n => rw [e] at h'; cases h'; trivial
  | pk ws => cases h; trivial
  | nm m => cases h; trivial
theorem ans_sm {ku : KU} {a : AV} {l : List Nat} (hl : Fine 800 (S l)) (h : ans ku l = some a) : Sm a := by
  have ty := ans_ty h
  cases ku <;> cases a <;> first | trivial | (cases ty; done) | skip
  cases h
  refine ⟨?_, fun z hz => ?_⟩
  · rw [List.length_map]
    have := N.parts_len l
    have := hl.len
    rw [len_S] at this
    omega
  · obtain ⟨q, hq, rfl⟩ := List.mem_map.mp hz
    exact (N.parts_fine hl hq).mono (by decide)
theorem fit_sm {ku : KU} {a : AV} (g : ku.Good) (h : fit ku a = true) : Sm a := by
  have ty := fit_ty h
  cases ku <;> cases a <;> first | trivial | (cases ty; done) | skip
  case nm.t m ws =>
    obtain ⟨h1, h2, h3⟩ := fit_t h
    have g' : m ≤ 6 := g
    refine ⟨by omega, fun z hz => ?_⟩
    have := name_let (h3 z hz)
    exact ⟨by omega, fun c hc => by have := this.2.2 c hc; omega⟩
def fitO (ku : KU) : Option AV → Bool
  | none => false
  | some a => fit ku a
theorem ord_b {a : AV} (h : fit .yn a = true) : ∃ x, a = .b x := by
  cases a with
  | b x => exact ⟨x, rfl⟩
  | i x => cases h
  | s x => cases h
  | t x => cases h
theorem ord_s {a : AV} {ws : List Str} (h : fit (.pk ws) a = true) : ∃ x, a = .s x := by
  cases a with
  | s x => exact ⟨x, rfl⟩
  | i x => cases h
  | b x => cases h
  | t x => cases h
def uFits (K : PySem.W.Frag) (A : Adr) (ku : KU) : Sp := fun vs H Q _ => ∃ p x o, vs = [.ref p, x] ∧ st A ku H p ∧ OR K H o x ∧ (∀ a, o = some a → tyok ku a ∧ Sm a) ∧ ∀ H', Same H H' → Q (.bl (fitO ku o)) H'
def uAns (K : PySem.W.Frag) (A : Adr) (ku : KU) : Sp := fun vs H Q _ => ∃ p z, vs = [.ref p, .str z] ∧ st A ku H p ∧ Fine 800 z ∧ ∀ x H', Same H H' → OR K H' (ans ku (cd z)) x → Q x H'
def uShown (K : PySem.W.Frag) (A : Adr) (ku : KU) : Sp := fun vs H Q _ => ∃ p x a, vs = [.ref p, x] ∧ st A ku H p ∧ AR K H a x ∧ fit ku a = true ∧ ∀ H', Same H H' → Q (.str (S (shw ku a))) H'
def uRank (K : PySem.W.Frag) (A : Adr) (ku : KU) : Sp := fun vs H Q _ => ∃ p x a, vs = [.ref p, x] ∧ st A ku H p ∧ AR K H a x ∧ fit ku a = true ∧ ∀ H', Same H H' → Q (.int (rnk ku a)) H'
def uSample (K : PySem.W.Frag) (A : Adr) (ku : KU) : Sp := fun vs H Q _ => ∃ p r, vs = [.ref p, .int r] ∧ st A ku H p ∧ ku.low ≤ r ∧ r ≤ ku.high ∧ ∀ x H', Same H H' → AR K H' (smp ku r) x → Q x H'
def uRead (K : PySem.W.Frag) (A : Adr) (ku : KU) : Sp := fun vs H Q E => ∃ p z, vs = [.ref p, .str z] ∧ st A ku H p ∧ Fine 800 z ∧
  (∀ a, ans ku (stripL (cd z)) = some a → fit ku a = true → ∀ x H', Same H H' → AR K H' a x → Q x H') ∧ (fitO ku (ans ku (stripL (cd z))) = false → ∀ H', Same H H' → E (.ref A.c_NoAnswer) none H')
theorem FnOk.imp {P : Program} {w : World} {K : PySem.W.Frag} {mg : Str → Option Value} {base : Heap} {CX : CXT} {k : Nat} {f : Addr} {fd : FuncData} {ps : List Str} {sp sp' : Sp} (F : FnOk P w K mg base CX k f fd ps sp) (h : ∀ vs H Q E, sp' vs H Q E → sp vs H Q E) : FnOk P w K mg base CX k f fd ps sp' :=
  ⟨fun vs H Q E q => F.len vs H Q E (h _ _ _ _ q), fun A outer s H args us vs Q E hr he hb hv hs => F.run A outer s H args us vs Q E hr he hb hv (h _ _ _ _ hs)⟩
theorem FnOkP.imp {P : Program} {w : World} {K : PySem.W.Frag} {mg : Str → Option Value} {base : Heap} {CX : CXT} {k : Nat} {f : Addr} {fd : FuncData} {ps : List Str} {sp sp' : Sp} (F : FnOkP P w K mg base CX k f fd ps sp) (h : ∀ vs H Q E, sp' vs H Q E → sp vs H Q E) : FnOkP P w K mg base CX k f fd ps sp' :=
  ⟨fun vs H Q E q => F.len vs H Q E (h _ _ _ _ q), fun A outer s H args us vs Q E hr he hn hb hv hs => F.run A outer s H args us vs Q E hr he hn hb hv (h _ _ _ _ hs)⟩
theorem FnOk.toP {P : Program} {w : World} {K : PySem.W.Frag} {mg : Str → Option Value} {base : Heap} {CX : CXT} {k : Nat} {f : Addr} {fd : FuncData} {ps : List Str} {sp : Sp} (F : FnOk P w K mg base CX k f fd ps sp) : FnOkP P w K mg base CX k f fd ps sp :=
  ⟨F.len, fun A outer s H args us vs Q E hr he _ hb hv hs => F.run A outer s H args us vs Q E hr he hb hv hs⟩
theorem flat_strs (ws : List Str) : (ws.map V.str).all flatV = true := by rw [List.all_map, List.all_eq_true]; intro _ _; rfl
theorem inV_strs (z : Str) (ws : List Str) : inV (.str z) (ws.map V.str) = decide (z ∈ ws) := by
  unfold inV
  rw [List.any_map, Bool.eq_iff_iff, List.any_eq_true, decide_eq_true_iff]
  constructor
  · rintro ⟨y, hy, e⟩
    have : y = z := eq_of_beq e
    rw [← this]; exact hy
  · intro h; exact ⟨z, h, by show (z == z) = true; exact beq_self_eq_true z⟩
theorem lkW {n : Nat} {pw : Addr} : (fP n pw).lookup ("words" : Str) = some (V.ref pw) := by
  rw [List.lookup_cons, show (("words" : Str) == "low") = false by decide +kernel, List.lookup_cons, show (("words" : Str) == "high") = false by decide +kernel]; exact lk1
theorem idx_nodup {ws : List Str} (hd : ws.Nodup) {j : Nat} {x : V} (h : (ws.map V.str)[j]? = some x) : IdxOf x (ws.map V.str) j := by
  refine ⟨x, h, ?_, fun m z hm hz => ?_⟩
  · obtain ⟨y, _, rfl⟩ := map_get h
    exact eqV_self rfl
  · obtain ⟨y, hy, rfl⟩ := map_get h
    obtain ⟨y', hy', rfl⟩ := map_get hz
    show (y' == y) = false
    rw [beq_eq_false_iff_ne]
    intro e
    subst e
    obtain ⟨l1, e1⟩ := List.getElem?_eq_some_iff.mp hy
    obtain ⟨l2, e2⟩ := List.getElem?_eq_some_iff.mp hy'
    exact (List.pairwise_iff_getElem.mp hd) m j l2 l1 hm (e2.trans e1.symm)
theorem put_words (v w u : V) : putF "words" u [(("low" : Str), v), (("high" : Str), w)] = [(("low" : Str), v), (("high" : Str), w), (("words" : Str), u)] := by
  unfold putF
  rw [if_neg (by decide +kernel)]
  unfold putF
  rw [if_neg (by decide +kernel)]
  rfl
section
variable {P : Program} {w : World} {K : PySem.W.Frag} {mg : Str → Option Value} {base : Heap} {A : Adr}
theorem ok_yfits (T : Txt K mg A) : FnOk P w K mg base CX0 1 A.f_c_YesNo_fits A.d_c_YesNo_fits ["self", "thing"] (uFits K A .yn) := by
  refine T.F_c_YesNo_fits.ok sc_c_YesNo_fits (fun vs H Q E h => ?_) (fun cdv A0 outer s H vs Q E hr h => ?_)
  · obtain ⟨p, x, _, rfl, _⟩ := h
    rfl
  obtain ⟨p, x, o, rfl, hp, ho, ht, q⟩ := h
  refine ⟨_, (pss_one (ps_ret (pe_callB call_isi (by rfl) T.n_isinstance Bt.isinstance (pa_cons (pv 1) (pa_cons (pe_bltn (v := .ty "bool") rfl T.n_bool Bt.bool rfl) pa_nil))))), ?_⟩
  have q := q H (Same.refl _)
  match o, ho, ht, q with
  | none, ho, _, q => cases ho; exact ⟨_, rfl, _, _, _, _, rfl, rfl, .old .non, T.i_NoneType_bool, q⟩
  | some (.b y), ho, _, q => cases ho; exact ⟨_, rfl, _, _, _, _, rfl, rfl, .old (.bl y), T.i_bool_bool, q⟩
  | some (.i _), _, ht, _ => exact False.elim (ht _ rfl).1
  | some (.s _), _, ht, _ => exact False.elim (ht _ rfl).1
  | some (.t _), _, ht, _ => exact False.elim (ht _ rfl).1
theorem ok_yans (T : Txt K mg A) : FnOk P w K mg base CX0 1 A.f_c_YesNo_answer_of A.d_c_YesNo_answer_of ["self", "text"] (uAns K A .yn) := by
  refine T.F_c_YesNo_answer_of.ok sc_c_YesNo_answer_of (fun vs H Q E h => ?_) (fun cdv A0 outer s H vs Q E hr h => ?_)
  · obtain ⟨p, z, rfl, _⟩ := h
    rfl
  obtain ⟨p, z, rfl, hp, hz, q⟩ := h
  refine ⟨_, (pss_one (ps_ret (pe_gget rfl T.m_WRITTEN_TRUTHS T.t_WRITTEN_TRUTHS (pv 1) ⟨rfl, rfl, rfl, rfl⟩))), ?_⟩
  refine ⟨_, rfl, z, rfl, ?_⟩
  refine q _ H (Same.refl _) ?_
  show OR K H ((YN.lookup (S (cd z))).map AV.b) (lookB YN z)
  rw [S_cd]
  unfold lookB
  cases YN.lookup z with
  | none => rfl
  | some b => rfl
theorem ok_yshown (T : Txt K mg A) : FnOk P w K mg base CX0 1 A.f_c_YesNo_shown A.d_c_YesNo_shown ["self", "answer"] (uShown K A .yn) := by
  refine T.F_c_YesNo_shown.ok sc_c_YesNo_shown (fun vs H Q E h => ?_) (fun cdv A0 outer s H vs Q E hr h => ?_)
  · obtain ⟨p, x, a, rfl, _⟩ := h
    rfl
  obtain ⟨p, x, a, rfl, hp, ha, hf, q⟩ := h
  refine ⟨_, (pss_one (ps_ret (pe_ifExp (pt_val (pv 1)) pe_str pe_str))), ?_⟩
  have q := q H (Same.refl _)
  obtain ⟨b, rfl⟩ := ord_b hf
  cases ha
  cases b with
  | true =>
    have q : Q (.str (S (cd "yes"))) H := q
    rw [S_cd] at q
    exact ⟨_, rfl, _, rfl, iteT q⟩
  | false =>
    have q : Q (.str (S (cd "no"))) H := q
    rw [S_cd] at q
    exact ⟨_, rfl, _, rfl, iteF q⟩
theorem ok_yrank (T : Txt K mg A) : FnOk P w K mg base CX0 1 A.f_c_YesNo_rank A.d_c_YesNo_rank ["self", "answer"] (uRank K A .yn) := by
  refine T.F_c_YesNo_rank.ok sc_c_YesNo_rank (fun vs H Q E h => ?_) (fun cdv A0 outer s H vs Q E hr h => ?_)
  · obtain ⟨p, x, a, rfl, _⟩ := h
    rfl
  obtain ⟨p, x, a, rfl, hp, ha, hf, q⟩ := h
  refine ⟨_, (pss_one (ps_ret (pe_ifExp (pt_val (pv 1)) pe_int pe_int))), ?_⟩
  have q := q H (Same.refl _)
  obtain ⟨b, rfl⟩ := ord_b hf
  cases ha
  cases b with
  | true => exact ⟨_, rfl, _, rfl, iteT q⟩
  | false => exact ⟨_, rfl, _, rfl, iteF q⟩
theorem ok_ysample (T : Txt K mg A) : FnOk P w K mg base CX0 1 A.f_c_YesNo_sample A.d_c_YesNo_sample ["self", "rank"] (uSample K A .yn) := by
  refine T.F_c_YesNo_sample.ok sc_c_YesNo_sample (fun vs H Q E h => ?_) (fun cdv A0 outer s H vs Q E hr h => ?_)
  · obtain ⟨p, r, rfl, _⟩ := h
    rfl
  obtain ⟨p, r, rfl, hp, h1, h2, q⟩ := h
  refine ⟨_, (pss_one (ps_ret (pe_cmpR op_eq (pv 1) pe_int (nomark _)))), ?_⟩
  refine ⟨_, rfl, rfl, q _ H (Same.refl _) ?_⟩
  show V.bl (decide (V.int r = V.int 1)) = V.bl (decide (r = 1))
  congr 1
  rw [decide_eq_decide]
  exact ⟨fun e => V.int.inj e, fun e => congrArg V.int e⟩
theorem ok_pfits (T : Txt K mg A) (ws : List Str) : FnOk P w K mg base CX0 1 A.f_c_Pick_fits A.d_c_Pick_fits ["self", "thing"] (uFits K A (.pk ws)) := by
  refine T.F_c_Pick_fits.ok sc_c_Pick_fits (fun vs H Q E h => ?_) (fun cdv A0 outer s H vs Q E hr h => ?_)
  · obtain ⟨p, x, _, rfl, _⟩ := h
    rfl
  obtain ⟨p, x, o, rfl, ⟨dx, fs, hp, pw, rfl, hw⟩, ho, ht, q⟩ := h
  refine ⟨_, (pss_one (ps_ret (pe_and (pe_callB call_isi (by rfl) T.n_isinstance Bt.isinstance (pa_cons (pv 1) (pa_cons (pe_bltn (v := .ty "str") rfl T.n_str Bt.str rfl) pa_nil))) (pe_one (pe_cmpR op_in_seq (pv 1) (pe_fld (pv 0) rfl) (by rfl)))))), ?_⟩
  have q := q H (Same.refl _)
  match o, ho, ht, q with
  | none, ho, _, q => cases ho; exact ⟨_, rfl, _, _, _, _, rfl, rfl, .old .non, T.i_NoneType_str, _, rfl, iteF q⟩
  | some (.s z), ho, _, q =>
    cases ho
    refine ⟨_, rfl, _, _, _, _, rfl, rfl, .old (.str z), T.i_str_str, _, rfl, iteT ⟨_, rfl, _, rfl, p, A.c_Pick, dx, _, _, rfl, hp, T.cl_Pick, T.no_Pick_words, lkW, pw, _, rfl, .inl (SqL.of hw), rfl, flat_strs ws, ?_⟩⟩
    show Q (.bl (inV (.str z) (ws.map V.str))) H
    rw [inV_strs]
    exact q
  | some (.b _), _, ht, _ => exact False.elim (ht _ rfl).1
  | some (.i _), _, ht, _ => exact False.elim (ht _ rfl).1
  | some (.t _), _, ht, _ => exact False.elim (ht _ rfl).1
theorem ok_pans (T : Txt K mg A) (ws : List Str) : FnOk P w K mg base CX0 1 A.f_c_Pick_answer_of A.d_c_Pick_answer_of ["self", "text"] (uAns K A (.pk ws)) := by
  refine T.F_c_Pick_answer_of.ok sc_c_Pick_answer_of (fun vs H Q E h => ?_) (fun cdv A0 outer s H vs Q E hr h => ?_)
  · obtain ⟨p, z, rfl, _⟩ := h
    rfl
  obtain ⟨p, z, rfl, hp, hz, q⟩ := h
  refine ⟨_, (pss_one (ps_ret (pv 1))), ?_⟩
  exact ⟨_, rfl, q _ H (Same.refl _) (congrArg V.str (S_cd z).symm)⟩
theorem ok_pshown (T : Txt K mg A) (ws : List Str) : FnOk P w K mg base CX0 1 A.f_c_Pick_shown A.d_c_Pick_shown ["self", "answer"] (uShown K A (.pk ws)) := by
  refine T.F_c_Pick_shown.ok sc_c_Pick_shown (fun vs H Q E h => ?_) (fun cdv A0 outer s H vs Q E hr h => ?_)
  · obtain ⟨p, x, a, rfl, _⟩ := h
    rfl
  obtain ⟨p, x, a, rfl, hp, ha, hf, q⟩ := h
  refine ⟨_, (pss_one (ps_ret (pv 1))), ?_⟩
  have q := q H (Same.refl _)
  obtain ⟨z, rfl⟩ := ord_s hf
  cases ha
  · have q : Q (.str (S (cd z))) H := q
    rw [S_cd] at q
    exact ⟨_, rfl, q⟩
theorem idx_get {ws : List Str} {z : Str} (hz : z ∈ ws) : (ws.map V.str)[ws.idxOf z]? = some (.str z) := by
  have hl := List.idxOf_lt_length_of_mem hz
  rw [List.getElem?_map, List.getElem?_eq_getElem hl, List.getElem_idxOf]
  rfl
theorem ok_prank (T : Txt K mg A) (ws : List Str) (hd : ws.Nodup) : FnOk P w K mg base CX0 1 A.f_c_Pick_rank A.d_c_Pick_rank ["self", "answer"] (uRank K A (.pk ws)) := by
  refine T.F_c_Pick_rank.ok sc_c_Pick_rank (fun vs H Q E h => ?_) (fun cdv A0 outer s H vs Q E hr h => ?_)
  · obtain ⟨p, x, a, rfl, _⟩ := h
    rfl
  obtain ⟨p, x, a, rfl, ⟨dx, fs, hp, pw, rfl, hw⟩, ha, hf, q⟩ := h
  refine ⟨_, (pss_one (ps_ret (pe_bm PySem.F.plainAttrs_list PySem.F.slot_list_index PySem.F.type_list_index mt_lindex (pe_fld (pv 0) rfl) (pa_cons (pv 1) pa_nil)))), ?_⟩
  have q := q H (Same.refl _)
  obtain ⟨z, rfl⟩ := ord_s hf
  cases ha
  · have hx := idx_get (of_decide_eq_true (show decide (z ∈ ws) = true from hf))
    exact ⟨_, rfl, p, A.c_Pick, dx, _, _, rfl, hp, T.cl_Pick, T.no_Pick_words, lkW, Or.inl ⟨rfl, _, SqL.of hw⟩, _, rfl, pw, _, _, _, rfl, rfl, SqL.of hw, flat_strs ws, rfl, idx_nodup hd hx, q⟩
theorem ok_psample (T : Txt K mg A) (ws : List Str) : FnOk P w K mg base CX0 1 A.f_c_Pick_sample A.d_c_Pick_sample ["self", "rank"] (uSample K A (.pk ws)) := by
  refine T.F_c_Pick_sample.ok sc_c_Pick_sample (fun vs H Q E h => ?_) (fun cdv A0 outer s H vs Q E hr h => ?_)
  · obtain ⟨p, r, rfl, _⟩ := h
    rfl
  obtain ⟨p, r, rfl, ⟨dx, fs, hp, pw, rfl, hw⟩, h1, h2, q⟩ := h
  refine ⟨_, (pss_one (ps_ret (pe_ix ix_list (pe_fld (pv 0) rfl) (pv 1) (fun _ _ => rfl)))), ?_⟩
  have h1' : 0 ≤ r := h1
  have h2' : r ≤ (ws.length : Int) - 1 := h2
  have hr : r.toNat < ws.length := by omega
  obtain ⟨v, hv, hv2⟩ := at_some (l := ws.map V.str) h1' (by rw [List.length_map]; omega)
  obtain ⟨z, hz, rfl⟩ := map_get hv2
  refine ⟨_, rfl, p, A.c_Pick, dx, _, _, rfl, hp, T.cl_Pick, T.no_Pick_words, lkW, _, rfl, pw, _, _, _, rfl, rfl, SqL.of hw, hv, q _ H (Same.refl _) ?_⟩
  show V.str z = V.str ((ws[r.toNat]?).getD "")
  rw [hz]; rfl
end
end K08
set_option maxHeartbeats 1000000
namespace K08
open PySem L2
seal PE PT PW PA PS PSs PG PGs PI PO PSet OpR UnR CallR TruR IxR SlR PC PPs
local macro_rules | `(tactic| walk_at "rd1") => `(tactic| first
  | (refine And.intro rfl ?_)
  | (refine And.intro (by assumption) ?_)
  | (refine And.intro (fun _ e => e) ?_)
  | (refine And.intro (TyOf.str _) ?_) | (refine And.intro (TyOf.int _) ?_) | (refine And.intro (TyOf.bl _) ?_) | (refine And.intro TyOf.non ?_)
  | (refine iteT ?_) | (refine iteF ?_)
  | (apply Exists.intro))
local macro_rules | `(tactic| walk_at "rd") => `(tactic| repeat (walk_at "rd1"))

theorem ord_m {lo hi : Int} {o : Option AV} (h : ∀ a, o = some a → tyok (.wh lo hi) a ∧ Sm a) : o = none ∨ ∃ n, o = some (.i n) := by
  match o, h with
  | none, _ => exact .inl rfl
  | some (.i n), _ => exact .inr ⟨n, rfl⟩
  | some (.b _), h => exact False.elim (h _ rfl).1
  | some (.s _), h => exact False.elim (h _ rfl).1
  | some (.t _), h => exact False.elim (h _ rfl).1
theorem ord_i {a : AV} {lo hi : Int} (h : fit (.wh lo hi) a = true) : ∃ n, a = .i n := by
  cases a <;> first | exact ⟨_, rfl⟩ | (cases h; done)
theorem ord_t {a : AV} {m : Nat} (h : fit (.nm m) a = true) : ∃ ws, a = .t ws := by
  cases a <;> first | exact ⟨_, rfl⟩ | (cases h; done)
theorem nm_shown (ws : List Str) (m : Nat) : (if ws.length > 0 then joinS " " ws else "-") = S (shw (.nm m) (.t ws)) := by
  show _ = S (if ws = [] then [45] else joinL [32] (ws.map cd))
  cases ws with
  | nil => rw [if_neg (by decide), if_pos rfl]; decide +kernel
  | cons a r => rw [if_pos (by simp), if_neg (by simp), joinS_is, show cd (" " : Str) = [32] by decide +kernel]
theorem cut_lets {r : Int} (h1 : 0 ≤ r) (h2 : r ≤ 6) : cutV N.smp none (some r) = (lets.take r.toNat).map V.str := by
  unfold cutV
  have e1 : HT.sIx N.smp.length 0 none = 0 := rfl
  have e2 : HT.sIx N.smp.length N.smp.length (some r) = r.toNat := by
    show (if r < 0 then (r + N.smp.length).toNat else min r.toNat N.smp.length) = _
    rw [if_neg (by omega)]
    show min r.toNat 6 = _
    omega
  rw [e1, e2, List.drop_zero, Nat.sub_zero, List.map_take]
  rfl
section
variable {P : Program} {w : World} {K : PySem.W.Frag} {mg : Str → Option Value} {base : Heap} {A : Adr}
/-- what a kind's methods tell -/
structure KM (P : Program) (w : World) (K : PySem.W.Frag) (mg : Str → Option Value) (base : Heap) (A : Adr) (ku : KU) where
  cl : Cls K (cls A ku)
  n1 : NoAttr K (cls A ku) "low"
  n2 : NoAttr K (cls A ku) "high"
  Jf : MethJ P w K mg base CX0 4 (cls A ku) "fits"
  ef : Jf.sp = uFits K A ku
  df : Jf.dvs = []
  Ja : MethJP P w K mg base CX0 4 (cls A ku) "answer_of"
  ea : Ja.sp = uAns K A ku
  da : Ja.dvs = []
  Js : MethJ P w K mg base CX0 4 (cls A ku) "shown"
  es : Js.sp = uShown K A ku
  ds : Js.dvs = []
  Jk : MethJ P w K mg base CX0 4 (cls A ku) "rank"
  ek : Jk.sp = uRank K A ku
  dk : Jk.dvs = []
  Jp : MethJ P w K mg base CX0 4 (cls A ku) "sample"
  ep : Jp.sp = uSample K A ku
  dp : Jp.dvs = []
theorem wfits_ok (T : Txt K mg A) (lo hi : Int) : FnOk P w K mg base CX0 2 A.f_c_Whole_fits A.d_c_Whole_fits ["self", "thing"] (uFits K A (.wh lo hi)) := by
  refine (ok_fits T T.cl_Whole T.no_Whole_low T.no_Whole_high).imp fun vs H Q E h => ?_
  obtain ⟨p, x, o, rfl, ⟨dx, fs, hp, hf⟩, ho, ht, q⟩ := h
  have hf : fs = flds lo hi := hf
  subst hf
  have q := q H (Same.refl _)
  rcases ord_m ht with e | ⟨n, e⟩ <;> subst e <;> cases ho
  · exact ⟨p, dx, lo, hi, _, thNon T H, rfl, hp, q⟩
  · exact ⟨p, dx, lo, hi, _, thInt T H n, rfl, hp, q⟩
theorem mfits_ok (T : Txt K mg A) (lo hi : Int) : FnOk P w K mg base CX0 2 A.f_c_Whole_fits A.d_c_Whole_fits ["self", "thing"] (uFits K A (.mo lo hi)) := by
  refine (ok_fits T T.cl_Money T.no_Money_low T.no_Money_high).imp fun vs H Q E h => ?_
  obtain ⟨p, x, o, rfl, ⟨dx, fs, hp, hf⟩, ho, ht, q⟩ := h
  have hf : fs = flds lo hi := hf
  subst hf
  have q := q H (Same.refl _)
  rcases ord_m (lo := lo) (hi := hi) (fun a e => ⟨by have := (ht a e).1; cases a <;> exact this, (ht a e).2⟩) with e | ⟨n, e⟩ <;> subst e <;> cases ho
  · exact ⟨p, dx, lo, hi, _, thNon T H, rfl, hp, q⟩
  · exact ⟨p, dx, lo, hi, _, thInt T H n, rfl, hp, q⟩
theorem or_num {H : Hp} (o : Option Int) : OR K H (o.map AV.i) (numV o) := by cases o <;> rfl
theorem wans_ok (T : Txt K mg A) (lo hi : Int) : FnOk P w K mg base CX0 4 A.f_c_Whole_answer_of A.d_c_Whole_answer_of ["self", "text"] (uAns K A (.wh lo hi)) := by
  refine (ok_wans T).imp fun vs H Q E h => ?_
  obtain ⟨p, z, rfl, hp, hz, q⟩ := h
  exact ⟨p, z, rfl, hz.mono (by decide), fun H' s' => q _ _ s' (or_num _)⟩
theorem mans_ok (T : Txt K mg A) (lo hi : Int) : FnOkP P w K mg base CX0 4 A.f_c_Money_answer_of A.d_c_Money_answer_of ["self", "text"] (uAns K A (.mo lo hi)) := by
  refine FnOkP.imp (ok_mans T) fun vs H Q E h => ?_
  obtain ⟨p, z, rfl, hp, hz, q⟩ := h
  exact ⟨p, z, rfl, hz.mono (by decide), fun H' s' => q _ _ s' (or_num _)⟩
theorem wshown_ok (T : Txt K mg A) (lo hi : Int) (g : (KU.wh lo hi).Good) : FnOk P w K mg base CX0 1 A.f_c_Whole_shown A.d_c_Whole_shown ["self", "answer"] (uShown K A (.wh lo hi)) := by
  refine (ok_wshown T).imp fun vs H Q E h => ?_
  obtain ⟨p, x, a, rfl, hp, ha, hf, q⟩ := h
  obtain ⟨n, rfl⟩ := ord_i hf
  cases ha
  exact ⟨p, n, rfl, bnd g hf, q⟩
theorem mshown_ok (T : Txt K mg A) (lo hi : Int) (g : (KU.mo lo hi).Good) : FnOk P w K mg base CX0 2 A.f_c_Money_shown A.d_c_Money_shown ["self", "answer"] (uShown K A (.mo lo hi)) := by
  refine (ok_mshown T).imp fun vs H Q E h => ?_
  obtain ⟨p, x, a, rfl, hp, ha, hf, q⟩ := h
  obtain ⟨n, rfl⟩ := ord_i (lo := lo) (hi := hi) (show fit (.wh lo hi) a = true by cases a <;> exact hf)
  cases ha
  exact ⟨p, n, rfl, bnd g hf, q⟩
theorem wrank_ok (T : Txt K mg A) (lo hi : Int) : FnOk P w K mg base CX0 1 A.f_c_Whole_rank A.d_c_Whole_rank ["self", "answer"] (uRank K A (.wh lo hi)) := by
  refine (ok_wrank T).imp fun vs H Q E h => ?_
  obtain ⟨p, x, a, rfl, hp, ha, hf, q⟩ := h
  obtain ⟨n, rfl⟩ := ord_i hf
  cases ha
  exact ⟨_, _, rfl, q _ (Same.refl _)⟩
theorem mrank_ok (T : Txt K mg A) (lo hi : Int) : FnOk P w K mg base CX0 1 A.f_c_Whole_rank A.d_c_Whole_rank ["self", "answer"] (uRank K A (.mo lo hi)) := by
  refine (ok_wrank T).imp fun vs H Q E h => ?_
  obtain ⟨p, x, a, rfl, hp, ha, hf, q⟩ := h
  obtain ⟨n, rfl⟩ := ord_i (lo := lo) (hi := hi) (show fit (.wh lo hi) a = true by cases a <;> exact hf)
  cases ha
  exact ⟨_, _, rfl, q _ (Same.refl _)⟩
theorem wsample_ok (T : Txt K mg A) (lo hi : Int) : FnOk P w K mg base CX0 1 A.f_c_Whole_sample A.d_c_Whole_sample ["self", "rank"] (uSample K A (.wh lo hi)) := by
  refine (ok_wsample T).imp fun vs H Q E h => ?_
  obtain ⟨p, r, rfl, hp, h1, h2, q⟩ := h
  exact ⟨_, _, rfl, q _ _ (Same.refl _) rfl⟩
theorem msample_ok (T : Txt K mg A) (lo hi : Int) : FnOk P w K mg base CX0 1 A.f_c_Whole_sample A.d_c_Whole_sample ["self", "rank"] (uSample K A (.mo lo hi)) := by
  refine (ok_wsample T).imp fun vs H Q E h => ?_
  obtain ⟨p, r, rfl, hp, h1, h2, q⟩ := h
  exact ⟨_, _, rfl, q _ _ (Same.refl _) rfl⟩
theorem nfits_ok (T : Txt K mg A) (m : Nat) : FnOk P w K mg base CX0 3 A.f_c_Names_fits A.d_c_Names_fits ["self", "thing"] (uFits K A (.nm m)) := by
  refine (N.ok_fits T).imp fun vs H Q E h => ?_
  obtain ⟨p, x, o, rfl, ⟨dx, fs, hp, hf⟩, ho, ht, q⟩ := h
  have hf : fs = flds 0 (m : Nat) := hf
  subst hf
  match o, ho, ht, q with
  | none, ho, _, q => cases ho; exact ⟨p, dx, m, _, false, rfl, hp, .inr ⟨_, .old .non, T.i_NoneType_tuple, rfl⟩, q⟩
  | some (.t ws), ho, ht, q =>
    obtain ⟨t, rfl, hq⟩ := ho
    obtain ⟨hl, hw⟩ := (ht _ rfl).2
    refine ⟨p, dx, m, _, fit (.nm m) (.t ws), rfl, hp, .inl ⟨t, _, rfl, hq, by rw [List.length_map]; exact hl, fun y hy => ?_, by rw [List.length_map]; rfl⟩, q⟩
    obtain ⟨z, hz, rfl⟩ := List.mem_map.mp hy
    exact ⟨⟨thStr T _ _, trivial⟩, fun z' e => by cases e; exact hw z hz⟩
  | some (.b _), _, ht, _ => exact False.elim (ht _ rfl).1
  | some (.i _), _, ht, _ => exact False.elim (ht _ rfl).1
  | some (.s _), _, ht, _ => exact False.elim (ht _ rfl).1
theorem nans_ok (T : Txt K mg A) (m : Nat) : FnOk P w K mg base CX0 1 A.f_c_Names_answer_of A.d_c_Names_answer_of ["self", "text"] (uAns K A (.nm m)) := by
  refine (N.ok_answer T).imp fun vs H Q E h => ?_
  obtain ⟨p, z, rfl, hp, hz, q⟩ := h
  refine ⟨p, z, rfl, hz.mono (by decide), fun t H' s' e => q _ _ s' ⟨t, rfl, SqT.of ?_⟩⟩
  rw [e, N.vs_map]
theorem nshown_ok (T : Txt K mg A) (m : Nat) (g : m ≤ 6) : FnOk P w K mg base CX0 1 A.f_c_Names_shown A.d_c_Names_shown ["self", "answer"] (uShown K A (.nm m)) := by
  refine (N.ok_shown T).imp fun vs H Q E h => ?_
  obtain ⟨p, x, a, rfl, hp, ha, hf, q⟩ := h
  obtain ⟨ws, rfl⟩ := ord_t hf
  obtain ⟨t, rfl, hq⟩ := ha
  have := q H (Same.refl _)
  rw [← nm_shown] at this
  exact ⟨p, t, ws, rfl, hq, (nm_facts g hf).2.2.2.2, this⟩
theorem nrank_ok (T : Txt K mg A) (m : Nat) : FnOk P w K mg base CX0 1 A.f_c_Names_rank A.d_c_Names_rank ["self", "answer"] (uRank K A (.nm m)) := by
  refine (N.ok_rank T).imp fun vs H Q E h => ?_
  obtain ⟨p, x, a, rfl, hp, ha, hf, q⟩ := h
  obtain ⟨ws, rfl⟩ := ord_t hf
  obtain ⟨t, rfl, hq⟩ := ha
  refine ⟨p, t, _, rfl, hq, ?_⟩
  rw [List.length_map]
  exact q H (Same.refl _)
theorem nsample_ok (T : Txt K mg A) (m : Nat) (g : m ≤ 6) : FnOk P w K mg base CX0 1 A.f_c_Names_sample A.d_c_Names_sample ["self", "rank"] (uSample K A (.nm m)) := by
  refine (N.ok_sample T).imp fun vs H Q E h => ?_
  obtain ⟨p, r, rfl, hp, h1, h2, q⟩ := h
  have h1' : 0 ≤ r := h1
  have h2' : r ≤ (m : Nat) := h2
  refine ⟨p, r, rfl, fun t H' s' e => q _ _ s' ⟨t, rfl, ?_⟩⟩
  rw [← cut_lets h1' (by omega)]
  exact e
def km (T : Txt K mg A) : (ku : KU) → ku.Good → KM P w K mg base A ku
  | .yn, _ => ⟨T.cl_YesNo, T.no_YesNo_low, T.no_YesNo_high,
      ⟨_, _, _, _, [], [], T.cl_YesNo, T.me_YesNo_fits, (ok_yfits T).mono (by decide), T.b_c_YesNo_fits, .nil⟩, rfl, rfl,
      ⟨_, _, _, _, [], [], T.cl_YesNo, T.me_YesNo_answer_of, (FnOk.toP (k := 4) ((ok_yans T).mono (by decide))), T.b_c_YesNo_answer_of, .nil⟩, rfl, rfl,
      ⟨_, _, _, _, [], [], T.cl_YesNo, T.me_YesNo_shown, (ok_yshown T).mono (by decide), T.b_c_YesNo_shown, .nil⟩, rfl, rfl,
      ⟨_, _, _, _, [], [], T.cl_YesNo, T.me_YesNo_rank, (ok_yrank T).mono (by decide), T.b_c_YesNo_rank, .nil⟩, rfl, rfl,
      ⟨_, _, _, _, [], [], T.cl_YesNo, T.me_YesNo_sample, (ok_ysample T).mono (by decide), T.b_c_YesNo_sample, .nil⟩, rfl, rfl⟩
  | .wh lo hi, g => ⟨T.cl_Whole, T.no_Whole_low, T.no_Whole_high,
      ⟨_, _, _, _, [], [], T.cl_Whole, T.me_Whole_fits, (wfits_ok T lo hi).mono (by decide), T.b_c_Whole_fits, .nil⟩, rfl, rfl,
      ⟨_, _, _, _, [], [], T.cl_Whole, T.me_Whole_answer_of, (FnOk.toP (k := 4) ((wans_ok T lo hi).mono (by decide))), T.b_c_Whole_answer_of, .nil⟩, rfl, rfl,
      ⟨_, _, _, _, [], [], T.cl_Whole, T.me_Whole_shown, (wshown_ok T lo hi g).mono (by decide), T.b_c_Whole_shown, .nil⟩, rfl, rfl,
      ⟨_, _, _, _, [], [], T.cl_Whole, T.me_Whole_rank, (wrank_ok T lo hi).mono (by decide), T.b_c_Whole_rank, .nil⟩, rfl, rfl,
      ⟨_, _, _, _, [], [], T.cl_Whole, T.me_Whole_sample, (wsample_ok T lo hi).mono (by decide), T.b_c_Whole_sample, .nil⟩, rfl, rfl⟩
  | .mo lo hi, g => ⟨T.cl_Money, T.no_Money_low, T.no_Money_high,
      ⟨_, _, _, _, [], [], T.cl_Money, T.me_Money_fits, (mfits_ok T lo hi).mono (by decide), T.b_c_Whole_fits, .nil⟩, rfl, rfl,
      ⟨_, _, _, _, [], [], T.cl_Money, T.me_Money_answer_of, (mans_ok T lo hi).mono (by decide), T.b_c_Money_answer_of, .nil⟩, rfl, rfl,
      ⟨_, _, _, _, [], [], T.cl_Money, T.me_Money_shown, (mshown_ok T lo hi g).mono (by decide), T.b_c_Money_shown, .nil⟩, rfl, rfl,
      ⟨_, _, _, _, [], [], T.cl_Money, T.me_Money_rank, (mrank_ok T lo hi).mono (by decide), T.b_c_Whole_rank, .nil⟩, rfl, rfl,
      ⟨_, _, _, _, [], [], T.cl_Money, T.me_Money_sample, (msample_ok T lo hi).mono (by decide), T.b_c_Whole_sample, .nil⟩, rfl, rfl⟩
  | .pk ws, g => ⟨T.cl_Pick, T.no_Pick_low, T.no_Pick_high,
      ⟨_, _, _, _, [], [], T.cl_Pick, T.me_Pick_fits, (ok_pfits T ws).mono (by decide), T.b_c_Pick_fits, .nil⟩, rfl, rfl,
      ⟨_, _, _, _, [], [], T.cl_Pick, T.me_Pick_answer_of, (FnOk.toP (k := 4) ((ok_pans T ws).mono (by decide))), T.b_c_Pick_answer_of, .nil⟩, rfl, rfl,
      ⟨_, _, _, _, [], [], T.cl_Pick, T.me_Pick_shown, (ok_pshown T ws).mono (by decide), T.b_c_Pick_shown, .nil⟩, rfl, rfl,
      ⟨_, _, _, _, [], [], T.cl_Pick, T.me_Pick_rank, (ok_prank T ws g.1.nd).mono (by decide), T.b_c_Pick_rank, .nil⟩, rfl, rfl,
      ⟨_, _, _, _, [], [], T.cl_Pick, T.me_Pick_sample, (ok_psample T ws).mono (by decide), T.b_c_Pick_sample, .nil⟩, rfl, rfl⟩
  | .nm m, g => ⟨T.cl_Names, T.no_Names_low, T.no_Names_high,
      ⟨_, _, _, _, [], [], T.cl_Names, T.me_Names_fits, (nfits_ok T m).mono (by decide), T.b_c_Names_fits, .nil⟩, rfl, rfl,
      ⟨_, _, _, _, [], [], T.cl_Names, T.me_Names_answer_of, (FnOk.toP (k := 4) ((nans_ok T m).mono (by decide))), T.b_c_Names_answer_of, .nil⟩, rfl, rfl,
      ⟨_, _, _, _, [], [], T.cl_Names, T.me_Names_shown, (nshown_ok T m g).mono (by decide), T.b_c_Names_shown, .nil⟩, rfl, rfl,
      ⟨_, _, _, _, [], [], T.cl_Names, T.me_Names_rank, (nrank_ok T m).mono (by decide), T.b_c_Names_rank, .nil⟩, rfl, rfl,
      ⟨_, _, _, _, [], [], T.cl_Names, T.me_Names_sample, (nsample_ok T m g).mono (by decide), T.b_c_Names_sample, .nil⟩, rfl, rfl⟩
theorem ok_uread (T : Txt K mg A) {ku : KU} (M : KM P w K mg base A ku) : FnOk P w K mg base (CXW P w) 5 A.f_c_Kind_read A.d_c_Kind_read ["self", "text"] (uRead K A ku) := by
  refine T.F_c_Kind_read.okX sc_c_Kind_read (fun vs H Q E h => ?_) (fun cdv A0 outer s H vs Q E hr h => ?_)
  · obtain ⟨p, z, rfl, _⟩ := h
    rfl
  obtain ⟨p, z, rfl, hp, hz, qs, qn⟩ := h
  refine ⟨_, (pss_cons (ps_if (pt_not (pt_val (pe_callB call_isi (by rfl) T.n_isinstance Bt.isinstance (pa_cons (pv 1) (pa_cons (pe_bltn (v := .ty "str") rfl T.n_str Bt.str rfl) pa_nil))))) (pss_one (ps_raise T.m_NoAnswer T.x_NoAnswer (pa_cons pe_str pa_nil) rfl)) pss_nil)
      (pss_cons (ps_set (i := 2) sc_c_Kind_read.nd rfl (by first | exact Or.inl rfl | exact Or.inr rfl) (pe_methP (CX := CX0) (k := 4) (hr.mono (by decide)) pass0 (pv 0) (pem_strip (pv 1))))
      (pss_cons (ps_if (pt_not (pt_val (pe_methG (CX := CX0) (k := 4) (hr.mono (by decide)) pass0 (pv 0) (pa_cons (pv 2) pa_nil)))) (pss_one (ps_raise T.m_NoAnswer T.x_NoAnswer (pa_cons (pe_fstrR (pv 1)) pa_nil) rfl)) pss_nil)
      (pss_one (ps_ret (pv 2)))))), ?_⟩
  obtain ⟨dx, fs, hi, hf⟩ := id hp
  refine ⟨_, rfl, _, _, _, _, rfl, rfl, .old (.str z), T.i_str_str, _, rfl, iteF ?_⟩
  refine ⟨_, rfl, p, cls A ku, dx, fs, M.Ja, rfl, hi, hf.no (by decide +kernel), ?_⟩
  refine ⟨_, rfl, z, rfl, hz.size, ?_⟩
  rw [M.ea, M.da]
  refine ⟨p, _, rfl, hp, hz.strip, fun x H1 s1 hx => ?_⟩
  rw [show Str.ofString " " = ("\u0020" : Str) from rfl, strip_is] at hx
  have fz : Fine 800 (S (stripL (cd z))) := by
    rw [← strip_is, S_cd]; exact hz.strip
  generalize hl : stripL (cd z) = l at hx fz qs qn
  refine ⟨_, rfl, p, cls A ku, dx, fs, M.Jf, rfl, s1 _ _ hi, hf.no (by decide +kernel), ?_⟩
  refine ⟨_, rfl, ?_⟩
  rw [M.ef, M.df]
  refine ⟨p, x, ans ku l, rfl, hp.same s1, hx, fun a ha => ⟨ans_ty ha, ans_sm fz ha⟩, fun H2 s2 => ⟨_, rfl, ?_⟩⟩
  cases hb : fitO ku (ans ku l) with
  | true =>
    cases ha : ans ku l with
    | none => rw [ha] at hb; cases hb
    | some a =>
      rw [ha] at hx hb
      exact iteF ⟨_, rfl, qs a ha hb x _ (s1.trans s2) (AR.same s2 hx)⟩
  | false => exact iteT ⟨_, rfl, z, rfl, Nat.le_trans hz.len (by decide), hz.cod, fun y => ⟨(by show 1 ≤ sizeLine; decide), qn hb _ (s1.trans s2)⟩⟩
end
end K08
set_option maxHeartbeats 1000000
namespace K08
open PySem L2
seal PE PT PW PA PS PSs PG PGs PI PO PSet OpR UnR CallR TruR IxR SlR PC PPs
local macro_rules | `(tactic| walk_at "rd1") => `(tactic| first
  | (refine And.intro rfl ?_)
  | (refine And.intro (by assumption) ?_)
  | (refine And.intro (fun _ e => e) ?_)
  | (refine And.intro (TyOf.str _) ?_) | (refine And.intro (TyOf.int _) ?_) | (refine And.intro (TyOf.bl _) ?_) | (refine And.intro TyOf.non ?_)
  | (refine iteT ?_) | (refine iteF ?_)
  | (apply Exists.intro))
local macro_rules | `(tactic| walk_at "rd") => `(tactic| repeat (walk_at "rd1"))

def spCell (K : PySem.W.Frag) : Sp := fun vs H Q _ => ∃ (a : Addr) (ns : List Int) (k : Int), vs = [.ref a, .int k] ∧ SqL K H a (ns.map V.int) ∧ 0 ≤ k ∧ (∀ n ∈ ns, ib n ≤ 1048576) ∧ ∀ n : Int, ib n ≤ 1048576 → Q (.int n) H
def spWide : Sp := fun vs H Q _ => ∃ n : Int, vs = [.int n] ∧ ib n ≤ 2000000 ∧ ∀ m : Int, 0 ≤ m → m < 10 ^ 59 → Q (.int m) H
def spLow : Sp := fun vs H Q _ => ∃ n : Int, vs = [.int n] ∧ ib n ≤ 1048576 ∧ ∀ (m : Int) H', -(10 ^ 59) < m → m < 10 ^ 59 → Same H H' → Q (.int m) H'
def spSize : Sp := fun vs H Q _ => ∃ n : Int, vs = [.int n] ∧ ib n ≤ 1048576 ∧ ∀ (m : Int) H', 0 ≤ m → m < 10 ^ 59 → Same H H' → Q (.int m) H'
theorem big59 : (41 : Int) < 10 ^ 59 ∧ (300 : Int) < 10 ^ 59 := by decide +kernel
section
variable {P : Program} {w : World} {K : PySem.W.Frag} {mg : Str → Option Value} {base : Heap} {A : Adr}
theorem ok_law_cell_at (T : Txt K mg A) : FnOk P w K mg base CX0 1 A.f_law_cell_at A.d_law_cell_at ["_law_script", "_law_k"] (spCell K) := by
  refine T.F_law_cell_at.ok sc_law_cell_at (fun vs H Q E h => ?_) (fun cdv A0 outer s H vs Q E hr h => ?_)
  · obtain ⟨a, ns, k, rfl, _⟩ := h
    rfl
  obtain ⟨a, ns, k, rfl, hS, hk, hb, q⟩ := h
  refine ⟨_, (pss_cons (ps_if (pt_cmpR op_lt (pv 1) (pe_callB call_len_seq (by rfl) T.n_len PySem.boot_len (pa_cons (pv 0) pa_nil)) (nomark _)) (pss_one (ps_ret (pe_ix ix_list (pv 0) (pv 1) (fun _ _ => rfl)))) pss_nil)
      (pss_one (ps_ret pe_int))), ?_⟩
  refine ⟨_, rfl, _, rfl, a, _, rfl, .inl hS, _, _, rfl, rfl, _, rfl, ?_⟩
  refine ite2 (fun c => ?_) (fun c => ?_)
  · have c' : k < ((ns.map V.int).length : Nat) := of_decide_eq_true c
    obtain ⟨v, hv, hv2⟩ := at_some (l := ns.map V.int) hk c'
    obtain ⟨n, hn, rfl⟩ := map_get hv2
    exact ⟨_, rfl, _, rfl, a, _, _, _, rfl, rfl, hS, hv, q _ (hb n (List.mem_of_getElem? hn))⟩
  · exact q _ (by decide)
theorem ok_law_whole (T : Txt K mg A) : FnOk P w K mg base CX0 1 A.f_law_whole A.d_law_whole ["_law_found"] (spIsWhole K) := by
  refine T.F_law_whole.ok sc_law_whole (fun vs H Q E h => ?_) (fun cdv A0 outer s H vs Q E hr h => ?_)
  · obtain ⟨x, _, _, _, rfl, _⟩ := h
    rfl
  obtain ⟨x, t, bi, bb, rfl, ty, k1, k2, q⟩ := h
  refine ⟨_, (pss_one (ps_ret (pe_and (pe_callB call_isi (by rfl) T.n_isinstance Bt.isinstance (pa_cons (pv 0) (pa_cons (pe_bltn (v := .ty "int") rfl T.n_int Bt.int rfl) pa_nil))) (pe_one (pe_not (pe_callB call_isi (by rfl) T.n_isinstance Bt.isinstance (pa_cons (pv 0) (pa_cons (pe_bltn (v := .ty "bool") rfl T.n_bool Bt.bool rfl) pa_nil)))))))), ?_⟩
  refine ⟨_, rfl, _, _, _, _, rfl, rfl, ty, k1, _, rfl, ?_⟩
  cases bi with
  | false => exact iteF q
  | true => exact iteT ⟨_, rfl, _, _, _, _, rfl, rfl, ty, k2, _, rfl, q⟩
theorem ok_law_wide (T : Txt K mg A) : FnOk P w K mg base CX0 1 A.f_law_wide A.d_law_wide ["_law_cell"] spWide := by
  refine T.F_law_wide.ok sc_law_wide (fun vs H Q E h => ?_) (fun cdv A0 outer s H vs Q E hr h => ?_)
  · obtain ⟨x, rfl, _⟩ := h
    rfl
  obtain ⟨n, rfl, hb, q⟩ := h
  refine ⟨_, (pss_one (ps_ret (pe_op op_mod (pe_op op_mulB (pv 0) pe_int) (pe_op op_pow pe_int pe_int)))), ?_⟩
  refine ⟨_, rfl, _, _, rfl, rfl, ⟨Nat.le_trans hb (by decide), Nat.le_trans (ib_big (m := 256) (by decide +kernel)) (by decide)⟩, ?_⟩
  refine ⟨_, _, rfl, rfl, ⟨by decide, by decide, by decide⟩, _, _, rfl, rfl, (by show (0 : Int) < 10 ^ (59 : Int).toNat; decide +kernel), ?_⟩
  exact q _ (Int.emod_nonneg _ (by decide +kernel)) (Int.emod_lt_of_pos _ (by decide +kernel))
theorem ok_law_low (T : Txt K mg A) : FnOk P w K mg base CX0 2 A.f_law_low A.d_law_low ["_law_cell"] spLow := by
  have G_law_wide := ok_law_wide (P := P) (w := w) (base := base) T
  refine T.F_law_low.ok sc_law_low (fun vs H Q E h => ?_) (fun cdv A0 outer s H vs Q E hr h => ?_)
  · obtain ⟨x, rfl, _⟩ := h
    rfl
  obtain ⟨n, rfl, hb, q⟩ := h
  refine ⟨_, (pss_one (ps_ret (pe_ix ix_list (pe_lst (pa_cons (pe_op op_sub (pe_op op_mod (pe_op op_fdiv (pv 0) pe_int) pe_int) pe_int) (pa_cons (pe_call G_law_wide (hr.mono (by decide)) rfl T.m_law_wide T.k_law_wide T.b_law_wide .nil pass0 (pa_cons (pv 0) pa_nil)) (pa_cons (pe_op op_sub pe_int (pe_call G_law_wide (hr.mono (by decide)) rfl T.m_law_wide T.k_law_wide T.b_law_wide .nil pass0 (pa_cons (pv 0) pa_nil))) pa_nil)))) (pe_op op_mod (pv 0) pe_int) (fun _ _ => rfl)))), ?_⟩
  refine ⟨_, rfl, _, _, rfl, rfl, ⟨by decide, by decide⟩, _, _, rfl, rfl, (by show (0 : Int) < 41; decide), _, _, rfl, rfl, ?_⟩
  refine ⟨_, rfl, n, rfl, Nat.le_trans hb (by decide), fun m1 a1 b1 => ?_⟩
  refine ⟨_, rfl, n, rfl, Nat.le_trans hb (by decide), fun m2 a2 b2 => ?_⟩
  refine ⟨_, _, rfl, rfl, (by show 3 ≤ sizeLine; decide), fun p hp => ?_⟩
  have h0 : 0 ≤ n % 3 := Int.emod_nonneg _ (by decide)
  have h1 : n % 3 < 3 := Int.emod_lt_of_pos _ (by decide)
  have c0 : 0 ≤ n / 3 % 41 := Int.emod_nonneg _ (by decide)
  have c1 : n / 3 % 41 < 41 := Int.emod_lt_of_pos _ (by decide)
  obtain ⟨v, hv, hv2⟩ := at_some (l := [V.int (n / 3 % 41 - 20), V.int m1, V.int (0 - m2)]) (i := n % 3) h0 (by show n % 3 < 3; exact h1)
  obtain ⟨k, rfl, k0, k1⟩ : ∃ k, v = .int k ∧ -(10 ^ 59) < k ∧ k < 10 ^ 59 := by
    have hm := List.mem_of_getElem? hv2
    have := big59
    simp only [List.mem_cons, List.not_mem_nil, or_false] at hm
    rcases hm with e | e | e
    · exact ⟨_, e, by omega, by omega⟩
    · exact ⟨_, e, by omega, by omega⟩
    · exact ⟨_, e, by omega, by omega⟩
  exact ⟨_, rfl, _, _, rfl, rfl, (by show (0 : Int) < 3; decide), p, _, _, _, rfl, rfl, SqL.of upd_same, hv, q k _ k0 k1 (same_new hp _)⟩
theorem ok_law_size (T : Txt K mg A) : FnOk P w K mg base CX0 2 A.f_law_size A.d_law_size ["_law_cell"] spSize := by
  have G_law_wide := ok_law_wide (P := P) (w := w) (base := base) T
  refine T.F_law_size.ok sc_law_size (fun vs H Q E h => ?_) (fun cdv A0 outer s H vs Q E hr h => ?_)
  · obtain ⟨x, rfl, _⟩ := h
    rfl
  obtain ⟨n, rfl, hb, q⟩ := h
  refine ⟨_, (pss_one (ps_ret (pe_ix ix_list (pe_lst (pa_cons (pe_op op_mod (pe_op op_fdiv (pv 0) pe_int) pe_int) (pa_cons (pe_op op_mod (pe_op op_fdiv (pv 0) pe_int) pe_int) (pa_cons (pe_op op_mod (pe_call G_law_wide (hr.mono (by decide)) rfl T.m_law_wide T.k_law_wide T.b_law_wide .nil pass0 (pa_cons (pv 0) pa_nil)) (pe_op op_pow pe_int pe_int)) (pa_cons (pe_call G_law_wide (hr.mono (by decide)) rfl T.m_law_wide T.k_law_wide T.b_law_wide .nil pass0 (pa_cons (pv 0) pa_nil)) pa_nil))))) (pe_op op_mod (pv 0) pe_int) (fun _ _ => rfl)))), ?_⟩
  refine ⟨_, rfl, _, _, rfl, rfl, ⟨by decide, by decide⟩, _, _, rfl, rfl, (by show (0 : Int) < 5; decide), ?_⟩
  refine ⟨_, rfl, _, _, rfl, rfl, ⟨by decide, by decide⟩, _, _, rfl, rfl, (by show (0 : Int) < 300; decide), ?_⟩
  refine ⟨_, rfl, n, rfl, Nat.le_trans hb (by decide), fun m1 a1 b1 => ?_⟩
  refine ⟨_, _, rfl, rfl, ⟨by decide, by decide, by decide⟩, _, _, rfl, rfl, (by show (0 : Int) < 10 ^ (18 : Int).toNat; decide +kernel), ?_⟩
  refine ⟨_, rfl, n, rfl, Nat.le_trans hb (by decide), fun m2 a2 b2 => ?_⟩
  refine ⟨(by show 4 ≤ sizeLine; decide), fun p hp => ?_⟩
  have h0 : 0 ≤ n % 4 := Int.emod_nonneg _ (by decide)
  have h1 : n % 4 < 4 := Int.emod_lt_of_pos _ (by decide)
  have c0 : 0 ≤ n / 4 % 5 := Int.emod_nonneg _ (by decide)
  have c1 : n / 4 % 5 < 5 := Int.emod_lt_of_pos _ (by decide)
  have d0 : 0 ≤ n / 4 % 300 := Int.emod_nonneg _ (by decide)
  have d1 : n / 4 % 300 < 300 := Int.emod_lt_of_pos _ (by decide)
  have e18 : (10 : Int) ^ (18 : Int).toNat = 1000000000000000000 := by decide +kernel
  have f0 : 0 ≤ m1 % 10 ^ (18 : Int).toNat := Int.emod_nonneg _ (by decide +kernel)
  have f1 : m1 % 10 ^ (18 : Int).toNat < 10 ^ (18 : Int).toNat := Int.emod_lt_of_pos _ (by decide +kernel)
  have b18 : (1000000000000000000 : Int) < 10 ^ 59 := by decide +kernel
  obtain ⟨v, hv, hv2⟩ := at_some (l := [V.int (n / 4 % 5), V.int (n / 4 % 300), V.int (m1 % 10 ^ (18 : Int).toNat), V.int m2]) (i := n % 4) h0 (by show n % 4 < 4; exact h1)
  obtain ⟨k, rfl, k0, k1⟩ : ∃ k, v = .int k ∧ 0 ≤ k ∧ k < 10 ^ 59 := by
    have hm := List.mem_of_getElem? hv2
    have := big59
    simp only [List.mem_cons, List.not_mem_nil, or_false] at hm
    rcases hm with e | e | e | e
    · exact ⟨_, e, by omega, by omega⟩
    · exact ⟨_, e, by omega, by omega⟩
    · refine ⟨_, e, f0, ?_⟩
      rw [e18] at f1 ⊢
      exact Int.lt_trans f1 b18
    · exact ⟨_, e, a2, b2⟩
  exact ⟨_, rfl, _, _, rfl, rfl, (by show (0 : Int) < 4; decide), p, _, _, _, rfl, rfl, SqL.of upd_same, hv, q k _ k0 k1 (same_new hp _)⟩
end
end K08

namespace K08
open PySem L2
seal PE PT PW PA PS PSs PG PGs PI PO PSet OpR UnR CallR TruR IxR SlR PC PPs
local macro_rules | `(tactic| walk_at "rd1") => `(tactic| first
  | (refine And.intro rfl ?_)
  | (refine And.intro (by assumption) ?_)
  | (refine And.intro (fun _ e => e) ?_)
  | (refine And.intro (TyOf.str _) ?_) | (refine And.intro (TyOf.int _) ?_) | (refine And.intro (TyOf.bl _) ?_) | (refine And.intro TyOf.non ?_)
  | (refine iteT ?_) | (refine iteF ?_)
  | (apply Exists.intro))
local macro_rules | `(tactic| walk_at "rd") => `(tactic| repeat (walk_at "rd1"))

def ltr (n : Int) : Nat := 97 + (n % 26).toNat
theorem ltr_rng (n : Int) : 97 ≤ ltr n ∧ ltr n ≤ 122 := by
  have h0 : 0 ≤ n % 26 := Int.emod_nonneg _ (by decide)
  have h1 : n % 26 < 26 := Int.emod_lt_of_pos _ (by decide)
  unfold ltr; omega
def one (b : List Nat) : List Str := b.map fun c => S [c]
theorem one_sum (b : List Nat) : ((one b).map (·.length)).sum = b.length := by
  induction b with
  | nil => rfl
  | cons c r ih =>
    show (S [c]).length + ((one r).map (·.length)).sum = _
    rw [ih, len_S, List.length_cons, List.length_cons, List.length_nil]; omega
theorem one_join (b : List Nat) : joinS "" (one b) = S b := by
  rw [joinS_is, show cd ("" : Str) = [] by decide +kernel]
  congr 1
  induction b with
  | nil => rfl
  | cons c r ih =>
    cases r with
    | nil => rfl
    | cons d r =>
      show [c] ++ [] ++ joinL [] ((one (d :: r)).map cd) = _
      rw [ih]; rfl
theorem one_map (b : List Nat) : (one b).map V.str = b.map fun c => V.str (S [c]) := by unfold one; rw [List.map_map]; rfl
theorem ltr_at (n : Int) : atI ("abcdefghijklmnopqrstuvwxyz" : Str).cps.toList (n % 26) = some (ltr n) := by
  have h0 : 0 ≤ n % 26 := Int.emod_nonneg _ (by decide)
  have h1 : n % 26 < 26 := Int.emod_lt_of_pos _ (by decide)
  have key : ∀ k : Nat, k < 26 → ("abcdefghijklmnopqrstuvwxyz" : Str).cps.toList[k]? = some (97 + k) := by decide +kernel
  have e : n % 26 = (((n % 26).toNat : Nat) : Int) := by omega
  rw [e]
  have : ((((n % 26).toNat : Nat) : Int)).toNat = (n % 26).toNat := by omega
  rw [atI_nat (key _ (by omega))]
  unfold ltr; rfl
/-- unlike names, so many -/
def GW (ws : List Str) (n : Nat) : Prop := ws.length = n ∧ ws.Nodup ∧ ∀ z ∈ ws, (z.length ≤ 12 ∧ 1 ≤ z.length ∧ ∀ c ∈ cd z, 97 ≤ c ∧ c ≤ 122) ∧ N.nameB z = true
theorem inL_of {c : Nat} (h : 97 ≤ c ∧ c ≤ 122) : N.inL c = true := by
  have e0 : N.inL c = decide (c ∈ ("abcdefghijklmnopqrstuvwxyz" : Str).cps.toList) := StrLaws.found_one "abcdefghijklmnopqrstuvwxyz" c
  have e : ("abcdefghijklmnopqrstuvwxyz" : Str).cps.toList = (List.range 26).map (97 + ·) := by decide +kernel
  rw [e0, e]
  refine decide_eq_true (List.mem_map.mpr ⟨c - 97, List.mem_range.mpr (by omega), by omega⟩)
abbrev KW : List Str := ["and", "each", "end", "is", "not", "or", "unless", "when"]
theorem kw_no : ∀ z ∈ KW, z.length ≠ 7 ∧ (cd z).head? ≠ some 122 := by decide +kernel
theorem name_of {l : List Nat} (h : l.length ≤ 12 ∧ 1 ≤ l.length ∧ ∀ c ∈ l, 97 ≤ c ∧ c ≤ 122) (k : l.length = 7 ∨ l.head? = some 122) : ((S l).length ≤ 12 ∧ 1 ≤ (S l).length ∧ ∀ c ∈ cd (S l), 97 ≤ c ∧ c ≤ 122) ∧ N.nameB (S l) = true := by
  rw [len_S, cd_S]
  refine ⟨h, ?_⟩
  unfold N.nameB
  have e1 : inV (.str (S l)) N.kws = false := by
    show inV (.str (S l)) (KW.map V.str) = false
    rw [inV_strs]
    refine decide_eq_false fun hm => ?_
    have := kw_no _ hm
    rw [len_S, cd_S] at this
    rcases k with k | k
    · exact this.1 k
    · exact this.2 k
  have e2 : l.all N.inL = true := List.all_eq_true.mpr fun c hc => inL_of (h.2.2 c hc)
  rw [e1, len_S, cd_S, e2, decide_eq_true (by omega), decide_eq_true (by omega)]
  rfl
theorem gw_of {n : Nat} {f : Nat → List Nat} (hi : ∀ i j, i < j → j < n → f i ≠ f j) (hl : ∀ i, i < n → ((f i).length ≤ 12 ∧ 1 ≤ (f i).length ∧ ∀ c ∈ f i, 97 ≤ c ∧ c ≤ 122) ∧ ((f i).length = 7 ∨ (f i).head? = some 122)) : GW ((List.range n).map fun i => S (f i)) n := by
  refine ⟨by rw [List.length_map, List.length_range], ?_, ?_⟩
  · refine List.pairwise_iff_getElem.mpr fun i j hi' hj' hij => ?_
    rw [List.length_map, List.length_range] at hi' hj'
    rw [List.getElem_map, List.getElem_map, List.getElem_range, List.getElem_range]
    exact fun e => hi i j hij hj' (S_inj e)
  · intro z hz
    obtain ⟨i, hi', rfl⟩ := List.mem_map.mp hz
    obtain ⟨a, b⟩ := hl i (List.mem_range.mp hi')
    exact name_of a b
theorem gw_set {n : Nat} {B : List Nat} {at' : Nat} {f : Int} (h6 : n ≤ 6) (hB : B.length = 7) (ha : at' < B.length) (hc : ∀ c ∈ B, 97 ≤ c ∧ c ≤ 122) : GW ((List.range n).map fun i : Nat => S (B.set at' (ltr (f + 3 * (0 + ((i : Nat) : Int)))))) n := by
  refine gw_of (f := fun i : Nat => B.set at' (ltr (f + 3 * (0 + ((i : Nat) : Int))))) (fun i j hij hj e => ?_) (fun i hi => ⟨⟨by rw [List.length_set]; omega, by rw [List.length_set]; omega, fun c h => ?_⟩, .inl (by rw [List.length_set]; exact hB)⟩)
  · have e2 := congrArg (fun l : List Nat => l[at']?) e
    simp only [List.getElem?_set_self ha, Option.some.injEq] at e2
    unfold ltr at e2
    omega
  · rcases List.mem_or_eq_of_mem_set h with h | h
    · exact hc c h
    · rw [h]; exact ltr_rng _
theorem gw_take {n : Nat} {b : List Nat} (h6 : n ≤ 6) (hb : b.length = 7) (hc : ∀ c ∈ b, 97 ≤ c ∧ c ≤ 122) : GW ((List.range n).map fun i : Nat => S (122 :: b.take (n - i))) n := by
  refine gw_of (f := fun i : Nat => 122 :: b.take (n - i)) (fun i j hij hj e => ?_) (fun i hi => ⟨⟨?_, ?_, fun c h => ?_⟩, .inr rfl⟩)
  · have e2 := congrArg List.length e
    simp only [List.length_cons, List.length_take] at e2
    omega
  · simp only [List.length_cons, List.length_take]; omega
  · simp only [List.length_cons, List.length_take]; omega
  · rcases List.mem_cons.mp h with h | h
    · omega
    · exact hc c (List.mem_of_mem_take h)
def SIGNS : Str := (" !\"#$&'()*+,-./0123456789:;<=>?@ABCDEFGHIJKLMNOPQRSTUVWXYZ[\\]^_`" : Str) ++ ("abcdefghijklmnopqrstuvwxyz{|}~\n\t" : Str)
theorem signs_ok : SIGNS.length = 96 ∧ ∀ c ∈ cd SIGNS, c < 1000 := by decide +kernel
def spLetter : Sp := fun vs H Q _ => ∃ n : Int, vs = [.int n] ∧ Q (.str (S [ltr n])) H
def spSign : Sp := fun vs H Q _ => ∃ n : Int, vs = [.int n] ∧ ∀ c, c < 1000 → Q (.str (S [c])) H
def spWords : Sp := fun vs H Q _ => ∃ (c : Int) (n : Nat), vs = [.int c, .int n] ∧ n ≤ 6 ∧ ib c ≤ 1048576 ∧ ∀ pw ws H', GW ws n → Same H H' → H' pw = some (.lst (ws.map V.str)) → Q (.ref pw) H'
def spBare : Sp := fun vs H Q _ => ∃ z, vs = [.str z] ∧ Fine 800 z ∧ Q (.str (S (stripL (cd z)))) H
def spSpoilt : Sp := fun vs H Q _ => ∃ (z : Str) (c : Int), vs = [.str z, .int c] ∧ Fine 200 z ∧ 1 ≤ z.length ∧ ∀ y, Fine 800 y → Q (.str y) H
theorem cut_take (b : List Nat) (j : Int) (h0 : 0 ≤ j) (h : j ≤ b.length) : cutV (b.map fun c => V.str (S [c])) none (some j) = (b.take j.toNat).map fun c => V.str (S [c]) := by
  unfold cutV
  have e1 : HT.sIx (b.map fun c => V.str (S [c])).length 0 none = 0 := rfl
  have e2 : HT.sIx (b.map fun c => V.str (S [c])).length (b.map fun c => V.str (S [c])).length (some j) = j.toNat := by
    show (if j < 0 then _ else min j.toNat _) = _
    rw [if_neg (by omega), List.length_map]; omega
  rw [e1, e2, List.drop_zero, Nat.sub_zero, List.map_take]
theorem ib_k {k : Int} (h0 : 0 ≤ k) (h : k < 100) : ib k ≤ 60000000 := Nat.le_trans (ib_small (by omega) (by omega)) (by decide)
section
variable {P : Program} {w : World} {K : PySem.W.Frag} {mg : Str → Option Value} {base : Heap} {A : Adr}
theorem ok_law_letter (T : Txt K mg A) : FnOk P w K mg base CX0 1 A.f_law_letter A.d_law_letter ["_law_number"] spLetter := by
  refine T.F_law_letter.ok sc_law_letter (fun vs H Q E h => ?_) (fun cdv A0 outer s H vs Q E hr h => ?_)
  · obtain ⟨n, rfl, _⟩ := h
    rfl
  obtain ⟨n, rfl, q⟩ := h
  refine ⟨_, (pss_one (ps_ret (pe_ix ix_str pe_str (pe_op op_mod (pv 0) pe_int) (fun _ _ => rfl)))), ?_⟩
  exact ⟨_, rfl, _, _, rfl, rfl, (by show (0 : Int) < 26; decide), _, _, _, rfl, rfl, (by decide +kernel), ltr_at n, q⟩
theorem ok_law_sign_by (T : Txt K mg A) : FnOk P w K mg base CX0 1 A.f_law_sign_by A.d_law_sign_by ["_law_cell"] spSign := by
  refine T.F_law_sign_by.ok sc_law_sign_by (fun vs H Q E h => ?_) (fun cdv A0 outer s H vs Q E hr h => ?_)
  · obtain ⟨x, rfl, _⟩ := h
    rfl
  obtain ⟨n, rfl, q⟩ := h
  refine ⟨_, (pss_cons (ps_set (i := 1) sc_law_sign_by.nd rfl (by first | exact Or.inl rfl | exact Or.inr rfl) pe_str)
      (pss_cons (ps_set (i := 1) sc_law_sign_by.nd rfl (by first | exact Or.inl rfl | exact Or.inr rfl) (pe_op op_add_str (pv 1) pe_str))
      (pss_one (ps_ret (pe_ix ix_str (pv 1) (pe_op op_mod (pv 0) (pe_callB call_len_str (by rfl) T.n_len PySem.boot_len (pa_cons (pv 1) pa_nil))) (fun _ _ => rfl)))))), ?_⟩
  have hs : SIGNS.length ≤ sizeLine := by rw [signs_ok.1]; exact small_of (m := 96) (Nat.le_refl _)
  refine ⟨_, rfl, _, _, rfl, rfl, (by show _ ≤ sizeLine; exact small_of (m := 200) (by decide +kernel)), _, rfl, _, rfl, _, rfl, _, rfl, hs, _, _, rfl, rfl, (by show (0 : Int) < (SIGNS.length : Nat); rw [signs_ok.1]; decide), ?_⟩
  have h0 : 0 ≤ n % ((SIGNS.length : Nat) : Int) := Int.emod_nonneg _ (by rw [signs_ok.1]; decide)
  have h1 : n % ((SIGNS.length : Nat) : Int) < ((cd SIGNS).length : Nat) := by rw [← len_cd]; exact Int.emod_lt_of_pos _ (by rw [signs_ok.1]; decide)
  obtain ⟨c, hc, hc2⟩ := at_some (l := cd SIGNS) h0 h1
  exact ⟨SIGNS, _, c, rfl, rfl, hs, hc, q c (signs_ok.2 c (List.mem_of_getElem? hc2))⟩
theorem ok_law_words (T : Txt K mg A) : FnOk P w K mg base CX0 2 A.f_law_words A.d_law_words ["_law_cell", "_law_many"] spWords := by
  have G_law_letter := ok_law_letter (P := P) (w := w) (base := base) T
  refine T.F_law_words.ok sc_law_words (fun vs H Q E h => ?_) (fun cdv A0 outer s H vs Q E hr h => ?_)
  · obtain ⟨a, ns, rfl, _⟩ := h
    rfl
  obtain ⟨c0, n, rfl, h6, hc0, q⟩ := h
  refine ⟨_, (pss_cons (ps_set (i := 2) sc_law_words.nd rfl (by first | exact Or.inl rfl | exact Or.inr rfl) (pe_compR (compOk_of (x := "_law_k") (M := ["_law_cell", "_law_many", "_law_base", "_law_at", "_law_words_here", ""]) rfl (by rfl)) rfl (pi_range1 rfl T.n_range (pa_cons pe_int pa_nil)) (fun _ _ _ _ => (pe_call G_law_letter (hr.mono (by decide)) rfl T.m_law_letter T.k_law_letter T.b_law_letter .nil pass0 (pa_cons (pe_op op_add (pe_op op_mulB (pv 1) (pe_op op_add (pv 0) pe_int)) (pe_op op_mulB pe_int (pv 0))) pa_nil)))))
      (pss_cons (ps_if (pt_cmpR op_eq (pe_op op_mod (pe_op op_fdiv (pv 0) pe_int) pe_int) pe_int (nomark _)) (pss_one (ps_ret (pe_compR (compOk_of (x := "_law_k") (M := ["_law_cell", "_law_many", "_law_base", "_law_at", "_law_words_here", ""]) rfl (by rfl)) rfl (pi_range1 rfl T.n_range (pa_cons (pv 1) pa_nil)) (fun _ _ _ _ => pe_eqv (by exact (pe_op op_add_str pe_str (pe_bm PySem.F.plainAttrs_str PySem.F.slot_str_join PySem.F.type_str_join mt_join pe_str (pa_cons (pe_slice sl_list (pv 3) po_none (po_some (pe_op op_sub (pv 2) (pv 0)))) pa_nil)))) (by dsimp only [compCx] <;> rfl))))) pss_nil)
      (pss_cons (ps_set (i := 3) sc_law_words.nd rfl (by first | exact Or.inl rfl | exact Or.inr rfl) (pe_op op_mod (pe_op op_fdiv (pv 0) pe_int) pe_int))
      (pss_cons (ps_set (i := 4) sc_law_words.nd rfl (by first | exact Or.inl rfl | exact Or.inr rfl) (pe_lst pa_nil))
      (pss_cons (ps_forR PassesOwn.never rfl (pi_range1 rfl T.n_range (pa_cons (pv 1) pa_nil)) (pg_name (i := 5) sc_law_words.nd rfl (by first | exact Or.inl rfl | exact Or.inr rfl)) (pss_cons (ps_asg (pe_call G_law_letter (hr.mono (by decide)) rfl T.m_law_letter T.k_law_letter T.b_law_letter .nil pass0 (pa_cons (pe_op op_add (pe_op op_fdiv (pv 0) pe_int) (pe_op op_mulB pe_int (pv 5))) pa_nil)) (pg_sub (pv 2) (pv 3) set_list))
      (pss_one (ps_expr (pe_bm PySem.F.plainAttrs_list PySem.F.slot_list_append PySem.F.type_list_append mt_append (pv 4) (pa_cons (pe_bm PySem.F.plainAttrs_str PySem.F.slot_str_join PySem.F.type_str_join mt_join pe_str (pa_cons (pv 2) pa_nil)) pa_nil))))))
      (pss_one (ps_ret (pv 4)))))))), ?_⟩
  refine ⟨_, rfl, (by decide), (by decide), ?_⟩
  refine comp_rangeR (n := 7) (by decide) (fun i ys H' => H = H' ∧ ∃ b : List Nat, ys = (b.map fun c => V.str (S [c])) ∧ ∀ c ∈ b, 97 ≤ c ∧ c ≤ 122) ⟨rfl, [], rfl, fun c h => by cases h⟩ (fun i ys H' hi hl hw => ?_) (fun ys H' hl hw pb hpb => ?_)
  · obtain ⟨rfl, b, rfl, hc⟩ := hw
    refine ⟨_, rfl, _, rfl, _, _, rfl, rfl, _, _, rfl, rfl, ⟨Nat.le_trans hc0 (by decide), ib_k (by omega) (by omega)⟩, ?_⟩
    refine ⟨_, rfl, _, _, rfl, rfl, ⟨by decide, ib_k (by omega) (by omega)⟩, _, _, rfl, rfl, _, rfl, rfl, b ++ [_], (by rw [List.map_append]; rfl), fun k hk => ?_⟩
    rcases List.mem_append.mp hk with z | z
    · exact hc k z
    · rw [List.mem_singleton.mp z]; exact ltr_rng _
  obtain ⟨rfl, b, rfl, hc⟩ := hw
  rw [List.length_map] at hl
  have sb := same_new hpb (.lst (b.map fun c => V.str (S [c])))
  refine ⟨_, rfl, _, _, rfl, rfl, ⟨by decide, by decide⟩, _, _, rfl, rfl, (by show (0 : Int) < 2; decide), rfl, _, rfl, ite2 (fun c => ?_) (fun c => ?_)⟩
  · refine ⟨_, rfl, _, rfl, (by omega), (by omega), ?_⟩
    rw [show ((n : Int)).toNat = n by omega]
    refine comp_rangeR (small_of (m := 6) h6) (fun i ys H' => Same (upd H pb (.lst (b.map fun c => V.str (S [c])))) H' ∧ ys = (List.range i).map fun k => V.str (S (122 :: b.take (n - k)))) ⟨Same.refl _, rfl⟩ (fun i ys H' hi hl' hw => ?_) (fun ys H' hl' hw pr hpr => ?_)
    · obtain ⟨sH, rfl⟩ := hw
      refine ⟨rfl, _, rfl, _, rfl, _, rfl, _, _, rfl, rfl, ?_⟩
      refine ⟨_, rfl, pb, _, rfl, SqL.of (sH _ _ upd_same), fun pc hpc => ?_⟩
      have ej : ((n : Int) - (0 + (i : Int))) = ((n - i : Nat) : Int) := by omega
      rw [ej, cut_take b _ (by omega) (by omega), Int.toNat_natCast]
      refine ⟨_, pc, one (b.take (n - i)), rfl, rfl, .inl (SqL.of (by rw [upd_same, one_map])), (by rw [one_sum, List.length_take]; show min _ _ + _ * 0 ≤ _; omega), ?_⟩
      rw [show joinS (Str.ofString "") (one (b.take (n - i))) = S (b.take (n - i)) from one_join _]
      refine ⟨_, _, rfl, rfl, small_of (m := 100) (by rw [len_S, List.length_take, show (Str.ofString "z").length = 1 by decide +kernel]; omega), sH.trans (same_new hpc _), ?_⟩
      rw [List.range_succ, List.map_append, show Str.ofString "z" = S [122] by decide +kernel, S_app]; rfl
    · obtain ⟨sH, rfl⟩ := hw
      refine q pr _ _ (gw_take (b := b) h6 hl hc) (sb.trans (sH.trans (same_new hpr _))) ?_
      rw [upd_same, List.map_map]; rfl
  · refine ⟨_, rfl, _, _, rfl, rfl, ⟨by decide, by decide⟩, _, _, rfl, rfl, (by show (0 : Int) < 7; decide), ?_⟩
    have k0 : 0 ≤ c0 / 16 % 7 := Int.emod_nonneg _ (by decide)
    have k1 : c0 / 16 % 7 < 7 := Int.emod_lt_of_pos _ (by decide)
    obtain ⟨t, ht⟩ : ∃ t : Nat, c0 / 16 % 7 = (t : Int) := ⟨(c0 / 16 % 7).toNat, by omega⟩
    have htl : t < b.length := by omega
    dsimp only
    rw [ht]
    refine ⟨(by show 0 ≤ sizeLine; decide), fun pw hpw => ?_⟩
    have hne : pw ≠ pb := fun e => by subst e; rw [upd_same] at hpw; cases hpw
    have hpw0 : H pw = none := by rw [upd_ne hne] at hpw; exact hpw
    refine ⟨_, rfl, _, rfl, (by omega), (by omega), ?_⟩
    rw [show ((n : Int)).toNat = n by omega]
    refine for_rangeR (fun i σ H' => (∃ u, σ = [some (.int c0), some (.int n), some (.ref pb), some (.int t), some (.ref pw), u]) ∧ Same H H' ∧ (∃ b' : List Nat, H' pb = some (.lst (b'.map fun c => V.str (S [c]))) ∧ (∀ c, b'.set t c = b.set t c) ∧ b'.length = b.length) ∧ H' pw = some (.lst ((List.range i).map fun k : Nat => V.str (S (b.set t (ltr (c0 / 5 + 3 * (0 + ((k : Nat) : Int))))))))) ?_ (fun i σ H' hi hp => ?_) (fun σ H' hp => ?_)
    · refine ⟨⟨_, rfl⟩, ?_, ⟨b, ?_, fun _ => rfl, rfl⟩, ?_⟩
      · exact sb.trans (same_new hpw _)
      · rw [upd_ne (Ne.symm hne)]; exact upd_same
      · exact upd_same
    · obtain ⟨⟨u, rfl⟩, sH, ⟨b', hb1, hb2, hb3⟩, hw⟩ := hp
      refine ⟨_, rfl, _, _, rfl, rfl, ⟨by decide, by decide⟩, _, rfl, _, _, rfl, rfl, ⟨by decide, ib_k (by omega) (by omega)⟩, _, _, rfl, rfl, _, rfl, ?_⟩
      refine ⟨_, rfl, _, rfl, pb, _, _, t, rfl, rfl, hb1, ?_, ?_⟩
      · rw [List.length_map, hb3, ixN_some (by omega) (by omega)]; rfl
      rw [show (b'.map fun c => V.str (S [c])).set t (.str (S [ltr (c0 / 5 + 3 * (0 + (i : Int)))])) = ((b'.set t (ltr (c0 / 5 + 3 * (0 + (i : Int))))).map fun c => V.str (S [c])) by rw [List.map_set], hb2]
      generalize hL : b.set t (ltr (c0 / 5 + 3 * (0 + (i : Int)))) = L
      have hLl : L.length ≤ 12 := by rw [← hL, List.length_set]; omega
      have hw' : upd H' pb (.lst (L.map fun c => V.str (S [c]))) pw = some (.lst ((List.range i).map fun k : Nat => V.str (S (b.set t (ltr (c0 / 5 + 3 * (0 + ((k : Nat) : Int)))))))) := by rw [upd_ne hne]; exact hw
      refine ⟨_, rfl, Or.inl ⟨rfl, _, SqL.of hw'⟩, rfl, _, rfl, _, pb, one L, rfl, rfl, .inl (SqL.of (by rw [upd_same, one_map])), (by rw [one_sum]; show _ + _ * 0 ≤ _; omega), ?_⟩
      rw [show joinS (Str.ofString "") (one L) = S L from one_join _]
      refine ⟨pw, _, _, rfl, rfl, hw', (by rw [List.length_map, List.length_range]; exact Nat.lt_of_lt_of_le hi (small_of (m := 6) h6)), ?_⟩
      refine ⟨⟨_, rfl⟩, ?_, ⟨L, ?_, fun c => ?_, ?_⟩, ?_⟩
      · intro x o ho
        have x1 : x ≠ pb := fun e => by subst e; rw [hpb] at ho; cases ho
        have x2 : x ≠ pw := fun e => by subst e; rw [hpw0] at ho; cases ho
        rw [upd_ne x2, upd_ne x1]; exact sH _ _ ho
      · rw [upd_ne (Ne.symm hne)]; exact upd_same
      · rw [← hL, List.set_set]
      · rw [← hL, List.length_set]
      · rw [upd_same, List.range_succ, List.map_append, ← hL]; rfl
    · obtain ⟨⟨u, rfl⟩, sH, _, hw⟩ := hp
      refine ⟨_, rfl, q pw _ _ (gw_set (B := b) (f := c0 / 5) h6 hl htl hc) sH ?_⟩
      rw [hw, List.map_map]; rfl
end
end K08
set_option maxHeartbeats 1000000
namespace K08
open PySem L2
seal PE PT PW PA PS PSs PG PGs PI PO PSet OpR UnR CallR TruR IxR SlR PC PPs
local macro_rules | `(tactic| walk_at "rd1") => `(tactic| first
  | (refine And.intro rfl ?_)
  | (refine And.intro (by assumption) ?_)
  | (refine And.intro (fun _ e => e) ?_)
  | (refine And.intro (TyOf.str _) ?_) | (refine And.intro (TyOf.int _) ?_) | (refine And.intro (TyOf.bl _) ?_) | (refine And.intro TyOf.non ?_)
  | (refine iteT ?_) | (refine iteF ?_)
  | (apply Exists.intro))
local macro_rules | `(tactic| walk_at "rd") => `(tactic| repeat (walk_at "rd1"))

theorem take_head {b : List Nat} {n : Nat} (h : 1 ≤ n) : (b.take n).head? = b.head? := by
  cases b with
  | nil => simp
  | cons x r => cases n with
    | zero => omega
    | succ n => rfl
theorem cut_at {l : List Nat} {i e : Nat} (hi : i ≤ e) (he : e ≤ l.length) : cutN l (some (i : Int)) (some (e : Int)) = (l.drop i).take (e - i) := by
  unfold cutN
  have e1 : HT.sIx l.length 0 (some (i : Int)) = i := by
    show (if (i : Int) < 0 then ((i : Int) + l.length).toNat else min (i : Int).toNat l.length) = _
    rw [if_neg (by omega)]; omega
  have e2 : HT.sIx l.length l.length (some (e : Int)) = e := by
    show (if (e : Int) < 0 then ((e : Int) + l.length).toNat else min (e : Int).toNat l.length) = _
    rw [if_neg (by omega)]; omega
  rw [e1, e2]
theorem strip_cut {l : List Nat} {i e : Nat} (hi : i ≤ e) (he : e ≤ l.length) (h1 : ∀ j, j < i → l[j]? = some 32) (h2 : ∀ j, e ≤ j → j < l.length → l[j]? = some 32) (h3 : i < e → l[i]? ≠ some 32) (h4 : i < e → l[e - 1]? ≠ some 32) : stripL l = (l.drop i).take (e - i) := by
  have a1 : l.take i = List.replicate i 32 := by
    refine List.eq_replicate_iff.mpr ⟨by rw [List.length_take]; omega, fun c hc => ?_⟩
    obtain ⟨j, hj, e⟩ := List.getElem_of_mem hc
    rw [List.length_take] at hj
    have := h1 j (by omega)
    rw [List.getElem_take] at e
    rw [List.getElem?_eq_getElem (by omega), e] at this
    exact Option.some.inj this
  have a2 : l.drop e = List.replicate (l.length - e) 32 := by
    refine List.eq_replicate_iff.mpr ⟨by rw [List.length_drop], fun c hc => ?_⟩
    obtain ⟨j, hj, e'⟩ := List.getElem_of_mem hc
    rw [List.length_drop] at hj
    have := h2 (e + j) (by omega) (by omega)
    rw [List.getElem_drop] at e'
    rw [List.getElem?_eq_getElem (by omega), e'] at this
    exact Option.some.inj this
  have a3 : l = List.replicate i 32 ++ (l.drop i).take (e - i) ++ List.replicate (l.length - e) 32 := by
    rw [← a1, ← a2, List.append_assoc]
    have : (l.drop i).take (e - i) ++ l.drop e = l.drop i := by
      rw [show l.drop e = (l.drop i).drop (e - i) by rw [List.drop_drop]; congr 1; omega]
      exact List.take_append_drop _ _
    rw [this, List.take_append_drop]
  by_cases hlt : i < e
  · have q := stripL_core (a := i) (b := l.length - e) (w := (l.drop i).take (e - i)) (fun c hc hz => ?_) (fun c hc hz => ?_)
    · rw [← a3] at q; exact q
    · rw [take_head (by omega), List.head?_drop, hz] at hc
      exact h3 hlt hc
    · rw [List.getLast?_eq_getElem?, List.length_take, List.length_drop, List.getElem?_take, List.getElem?_drop, hz] at hc
      rw [if_pos (by omega), show i + (min (e - i) (l.length - i) - 1) = e - 1 by omega] at hc
      exact h4 hlt hc
  · have e0 : e - i = 0 := by omega
    have q := stripL_core (a := i) (b := l.length - e) (w := (l.drop i).take (e - i)) (fun c hc hz => ?_) (fun c hc hz => ?_)
    · rw [← a3] at q; exact q
    · rw [e0, List.take_zero] at hc; cases hc
    · rw [e0, List.take_zero] at hc; cases hc
theorem chr_eq {c : Nat} : decide (V.str ⟨#[c]⟩ = V.str (Str.ofString " ")) = decide (c = 32) := by
  rw [show Str.ofString " " = S [32] by decide +kernel]
  by_cases h : c = 32
  · subst h; rfl
  · rw [decide_eq_false h, decide_eq_false]
    intro e
    have : cd ⟨#[c]⟩ = cd (S [32]) := congrArg (fun v => match v with | V.str z => cd z | _ => []) e
    exact h (List.cons.inj this).1
theorem share {F : St → Hp → Prop} {P : (St → Hp → Prop) → Prop} {G : Prop} (h2 : P F) (h1 : P F → G) : G := h1 h2
theorem at_get {l : List Nat} {i : Nat} (h : i < l.length) : ∃ c, l[i]? = some c ∧ atI l (i : Int) = some c := ⟨l[i], List.getElem?_eq_getElem h, atI_nat (List.getElem?_eq_getElem h)⟩
theorem Fine.one {c : Nat} (h : c < 1000) : Fine 1 (S [c]) := ⟨Nat.le_refl _, fun k hk => by rw [cd_S] at hk; rw [List.mem_singleton.mp hk]; exact h⟩
theorem digs_ok : (Str.ofString "0123456789.- ").length = 13 ∧ ∀ c ∈ cd (Str.ofString "0123456789.- "), c < 1000 := by decide +kernel
theorem fsz {n m : Nat} {x y : Str} (h : Fine n x) (k : Fine m y) (l : n + m ≤ 1000 := by decide) : x.length + y.length ≤ sizeLine := small_of (m := 1000) (by have := h.len; have := k.len; omega)
section
variable {P : Program} {w : World} {K : PySem.W.Frag} {mg : Str → Option Value} {base : Heap} {A : Adr}
theorem ok_law_bare (T : Txt K mg A) : FnOk P w K mg base CX0 1 A.f_law_bare A.d_law_bare ["_law_word"] spBare := by
  refine T.F_law_bare.ok sc_law_bare (fun vs H Q E h => ?_) (fun cdv A0 outer s H vs Q E hr h => ?_)
  · obtain ⟨x, rfl, _⟩ := h
    rfl
  obtain ⟨z, rfl, hz, q⟩ := h
  refine ⟨_, (pss_cons (ps_set (i := 1) sc_law_bare.nd rfl (by first | exact Or.inl rfl | exact Or.inr rfl) pe_int)
      (pss_cons (ps_set (i := 2) sc_law_bare.nd rfl (by first | exact Or.inl rfl | exact Or.inr rfl) (pe_callB call_len_str (by rfl) T.n_len PySem.boot_len (pa_cons (pv 0) pa_nil)))
      (pss_cons (ps_whileR PassesOwn.never (PW.pt (pw_and (pt_cmpR op_lt (pv 1) (pv 2) (nomark _)) (pw_and1 (pt_cmpR op_eq (pe_ix ix_str (pv 0) (pv 1) (fun _ _ => rfl)) pe_str (nomark _))))) (pss_one (ps_set (i := 1) sc_law_bare.nd rfl (by first | exact Or.inl rfl | exact Or.inr rfl) (pe_op op_add (pv 1) pe_int))))
      (pss_cons (ps_whileR PassesOwn.never (PW.pt (pw_and (pt_cmpR op_gt (pv 2) (pv 1) (nomark _)) (pw_and1 (pt_cmpR op_eq (pe_ix ix_str (pv 0) (pe_op op_sub (pv 2) pe_int) (fun _ _ => rfl)) pe_str (nomark _))))) (pss_one (ps_set (i := 2) sc_law_bare.nd rfl (by first | exact Or.inl rfl | exact Or.inr rfl) (pe_op op_sub (pv 2) pe_int))))
      (pss_one (ps_ret (pe_slice sl_str (pv 0) (po_some (pv 1)) (po_some (pv 2))))))))), ?_⟩
  have hzl := len_cd z
  generalize hl : cd z = l at q hzl
  refine ⟨_, rfl, z, rfl, hz.size, ?_⟩
  rw [hzl]
  have hl' : z.cps.toList = l := hl
  refine share (F := ?F) (P := fun F => ∀ i : Nat, i ≤ l.length → (∀ j, j < i → l[j]? = some 32) → (i < l.length → l[i]? ≠ some 32) → F [some (.str z), some (.int i), some (.int l.length)] H) ?k ?m
  case m =>
    intro key
    refine ⟨⟨fun m σ H' => ∃ i : Nat, m + i = l.length ∧ H = H' ∧ σ = [some (.str z), some (.int i), some (.int l.length)] ∧ ∀ j, j < i → l[j]? = some 32, ⟨l.length, 0, rfl, rfl, rfl, fun j h => by omega⟩, fun m σ H' hp => ?_⟩⟩
    obtain ⟨i, hm, rfl, rfl, h1⟩ := hp
    refine ⟨_, rfl, _, rfl, _, _, rfl, rfl, _, rfl, ite2 (fun c => ?_) (fun c => ?_)⟩
    · have c' : i < l.length := by have := of_decide_eq_true c; omega
      obtain ⟨k, g1, g2⟩ := at_get c'
      refine ⟨_, rfl, _, rfl, z, _, k, rfl, rfl, hz.size, (by rw [hl']; exact g2), rfl, _, rfl, ?_⟩
      rw [chr_eq]
      refine ite2 (fun d => ?_) (fun d => ?_)
      · have d' : k = 32 := of_decide_eq_true d
        subst d'
        refine ⟨fun σ' H' => ∃ i : Nat, (m - 1) + i = l.length ∧ H = H' ∧ σ' = [some (.str z), some (.int i), some (.int l.length)] ∧ ∀ j, j < i → l[j]? = some 32, fun σ' H' hp => ⟨m - 1, by omega, hp⟩, ?_⟩
        refine ⟨_, rfl, _, _, rfl, rfl, i + 1, by omega, rfl, rfl, fun j hj => ?_⟩
        by_cases e : j = i
        · subst e; exact g1
        · exact h1 j (by omega)
      · exact key i (by omega) h1 (fun _ e => by rw [g1] at e; exact d (decide_eq_true (Option.some.inj e)))
    · exact key i (by omega) h1 (fun h => absurd (decide_eq_true (show (i : Int) < l.length by omega)) c)
  case k =>
    intro i hi h1 h3
    refine share (F := ?F2) (P := fun F => ∀ e : Nat, i ≤ e → e ≤ l.length → (∀ j, e ≤ j → j < l.length → l[j]? = some 32) → (i < e → l[e - 1]? ≠ some 32) → F [some (.str z), some (.int i), some (.int e)] H) ?k ?m
    case m =>
      intro key
      refine ⟨⟨fun m σ H' => ∃ e : Nat, m + i = e ∧ e ≤ l.length ∧ H = H' ∧ σ = [some (.str z), some (.int i), some (.int e)] ∧ ∀ j, e ≤ j → j < l.length → l[j]? = some 32, ⟨l.length - i, l.length, by omega, by omega, rfl, rfl, fun j h1 h2 => by omega⟩, fun m σ H' hp => ?_⟩⟩
      obtain ⟨e, hm, he, rfl, rfl, h2⟩ := hp
      refine ⟨_, rfl, _, rfl, _, _, rfl, rfl, _, rfl, ite2 (fun c => ?_) (fun c => ?_)⟩
      · have c' : i < e := by have := of_decide_eq_true c; omega
        obtain ⟨k, g1, g2⟩ := at_get (l := l) (i := e - 1) (by omega)
        refine ⟨_, rfl, _, rfl, _, _, rfl, rfl, z, _, k, rfl, rfl, hz.size, (by rw [hl', show (e : Int) - 1 = ((e - 1 : Nat) : Int) by omega]; exact g2), rfl, _, rfl, ?_⟩
        rw [chr_eq]
        refine ite2 (fun d => ?_) (fun d => ?_)
        · have d' : k = 32 := of_decide_eq_true d
          subst d'
          refine ⟨fun σ' H' => ∃ e : Nat, (m - 1) + i = e ∧ e ≤ l.length ∧ H = H' ∧ σ' = [some (.str z), some (.int i), some (.int e)] ∧ ∀ j, e ≤ j → j < l.length → l[j]? = some 32, fun σ' H' hp => ⟨m - 1, by omega, hp⟩, ?_⟩
          refine ⟨_, rfl, _, _, rfl, rfl, e - 1, by omega, by omega, rfl, ?_, fun j j1 j2 => ?_⟩
          · show [some (V.str z), some (.int i), some (.int ((e : Int) - 1))] = _
            rw [show (e : Int) - 1 = ((e - 1 : Nat) : Int) by omega]
          · by_cases e' : j = e - 1
            · subst e'; exact g1
            · exact h2 j (by omega) j2
        · exact key e (by omega) he h2 (fun _ e' => by rw [g1] at e'; exact d (decide_eq_true (Option.some.inj e')))
      · exact key e (by omega) he h2 (fun h => absurd (decide_eq_true (show (i : Int) < e by omega)) c)
    case k =>
      intro e hie hel h2 h4
      refine ⟨_, rfl, _, rfl, _, rfl, _, rfl, _, rfl, z, rfl, hz.size, ?_⟩
      rw [hl, cut_at hie hel, ← strip_cut hie hel h1 h2 (fun h => h3 (by omega)) h4]
      exact q
theorem ok_law_spoilt (T : Txt K mg A) : FnOk P w K mg base CX0 2 A.f_law_spoilt A.d_law_spoilt ["_law_word", "_law_cell"] spSpoilt := by
  have G_law_sign_by := ok_law_sign_by (P := P) (w := w) (base := base) T
  refine T.F_law_spoilt.ok sc_law_spoilt (fun vs H Q E h => ?_) (fun cdv A0 outer s H vs Q E hr h => ?_)
  · obtain ⟨z, c, rfl, _⟩ := h
    rfl
  obtain ⟨z, c, rfl, hz, hl, q⟩ := h
  refine ⟨_, (pss_cons (ps_set (i := 2) sc_law_spoilt.nd rfl (by first | exact Or.inl rfl | exact Or.inr rfl) (pe_call G_law_sign_by (hr.mono (by decide)) rfl T.m_law_sign_by T.k_law_sign_by T.b_law_sign_by .nil pass0 (pa_cons (pe_op op_add (pe_op op_fdiv (pv 1) pe_int) pe_int) pa_nil)))
      (pss_cons (ps_if (pt_cmpR op_eq (pe_op op_mod (pv 1) pe_int) pe_int (nomark _)) (pss_one (ps_set (i := 2) sc_law_spoilt.nd rfl (by first | exact Or.inl rfl | exact Or.inr rfl) (pe_ix ix_str pe_str (pe_op op_mod (pe_op op_fdiv (pv 1) pe_int) pe_int) (fun _ _ => rfl)))) pss_nil)
      (pss_cons (ps_set (i := 3) sc_law_spoilt.nd rfl (by first | exact Or.inl rfl | exact Or.inr rfl) (pe_op op_mod (pe_op op_fdiv (pv 1) pe_int) (pe_callB call_len_str (by rfl) T.n_len PySem.boot_len (pa_cons (pv 0) pa_nil))))
      (pss_cons (ps_set (i := 4) sc_law_spoilt.nd rfl (by first | exact Or.inl rfl | exact Or.inr rfl) (pe_op op_mod (pv 1) pe_int))
      (pss_cons (ps_if (pt_cmpR op_eq (pv 4) pe_int (nomark _)) (pss_one (ps_ret (pe_op op_add_str (pe_op op_add_str (pe_slice sl_str (pv 0) po_none (po_some (pv 3))) (pv 2)) (pe_slice sl_str (pv 0) (po_some (pv 3)) po_none)))) pss_nil)
      (pss_cons (ps_if (pt_cmpR op_eq (pv 4) pe_int (nomark _)) (pss_one (ps_ret (pe_op op_add_str (pe_op op_add_str (pe_slice sl_str (pv 0) po_none (po_some (pv 3))) (pv 2)) (pe_slice sl_str (pv 0) (po_some (pe_op op_add (pv 3) pe_int)) po_none)))) pss_nil)
      (pss_cons (ps_if (pt_cmpR op_eq (pv 4) pe_int (nomark _)) (pss_one (ps_ret (pe_op op_add_str (pe_slice sl_str (pv 0) po_none (po_some (pv 3))) (pe_slice sl_str (pv 0) (po_some (pe_op op_add (pv 3) pe_int)) po_none)))) pss_nil)
      (pss_cons (ps_if (pt_cmpR op_eq (pv 4) pe_int (nomark _)) (pss_cons (ps_set (i := 5) sc_law_spoilt.nd rfl (by first | exact Or.inl rfl | exact Or.inr rfl) (pe_op op_add_str (pe_slice sl_str (pv 0) (po_some (pe_op op_add (pv 3) pe_int)) (po_some (pe_op op_add (pv 3) pe_int))) (pe_slice sl_str (pv 0) (po_some (pv 3)) (po_some (pe_op op_add (pv 3) pe_int)))))
      (pss_one (ps_ret (pe_op op_add_str (pe_op op_add_str (pe_slice sl_str (pv 0) po_none (po_some (pv 3))) (pv 5)) (pe_slice sl_str (pv 0) (po_some (pe_op op_add (pv 3) pe_int)) po_none))))) pss_nil)
      (pss_one (ps_ret (pe_op op_add_str (pv 0) (pv 2)))))))))))), ?_⟩
  refine ⟨_, rfl, _, _, rfl, rfl, ⟨by decide, by decide⟩, _, _, rfl, rfl, _, rfl, fun k0 hk0 => ?_⟩
  refine share (F := ?F) (P := fun F => ∀ k : Nat, k < 1000 → F [some (.str z), some (.int c), some (.str (S [k])), none, none, none] H) ?k ?m
  case m =>
    intro key
    refine ⟨_, rfl, _, _, rfl, rfl, (by show (0 : Int) < 2; decide), rfl, _, rfl, ite2 (fun _ => ?_) (fun _ => ?_)⟩
    · have h0 : 0 ≤ c / 10 % 13 := Int.emod_nonneg _ (by decide)
      have h1 : c / 10 % 13 < 13 := Int.emod_lt_of_pos _ (by decide)
      obtain ⟨k, hk, hk2⟩ := at_some (l := cd (Str.ofString "0123456789.- ")) (i := c / 10 % 13) h0 (by rw [← len_cd, digs_ok.1]; exact h1)
      refine ⟨_, rfl, _, _, rfl, rfl, ⟨by decide, by decide⟩, _, _, rfl, rfl, (by show (0 : Int) < 13; decide), _, _, k, rfl, rfl, small_of (m := 13) (by rw [digs_ok.1]; exact Nat.le_refl _), hk, ?_⟩
      exact key k (digs_ok.2 k (List.mem_of_getElem? hk2))
    · exact key k0 hk0
  case k =>
    intro k hk
    have fk : Fine 1 (S [k]) := Fine.one hk
    refine ⟨_, rfl, _, _, rfl, rfl, ⟨by decide, by decide⟩, _, rfl, z, rfl, hz.size, _, _, rfl, rfl, (by show (0 : Int) < (z.length : Nat); omega), ?_⟩
    generalize ht : c / 7 % ((z.length : Nat) : Int) = t
    have e0 : (c / 7).emod ((z.length : Nat) : Int) = t := ht
    refine ⟨_, rfl, _, _, rfl, rfl, (by show (0 : Int) < 5; decide), ?_⟩
    generalize hw : c % 5 = wy
    refine ⟨_, rfl, rfl, _, rfl, ite2 (fun _ => ?_) (fun _ => ?_)⟩
    · refine ⟨_, rfl, _, rfl, _, rfl, z, rfl, hz.size, _, rfl, _, _, rfl, rfl, fsz (hz.cut _ _) fk, ?_⟩
      refine ⟨_, rfl, _, rfl, _, rfl, z, rfl, hz.size, _, _, rfl, rfl, fsz ((hz.cut _ _).app fk) (hz.cut _ _), ?_⟩
      exact q _ ((((hz.cut _ _).app fk).app (hz.cut _ _)).mono (by decide))
    refine ⟨_, rfl, rfl, _, rfl, ite2 (fun _ => ?_) (fun _ => ?_)⟩
    · refine ⟨_, rfl, _, rfl, _, rfl, z, rfl, hz.size, _, rfl, _, _, rfl, rfl, fsz (hz.cut _ _) fk, ?_⟩
      refine ⟨_, rfl, _, rfl, _, _, rfl, rfl, _, rfl, z, rfl, hz.size, _, _, rfl, rfl, fsz ((hz.cut _ _).app fk) (hz.cut _ _), ?_⟩
      exact q _ ((((hz.cut _ _).app fk).app (hz.cut _ _)).mono (by decide))
    refine ⟨_, rfl, rfl, _, rfl, ite2 (fun _ => ?_) (fun _ => ?_)⟩
    · refine ⟨_, rfl, _, rfl, _, rfl, z, rfl, hz.size, ?_⟩
      refine ⟨_, rfl, _, rfl, _, _, rfl, rfl, _, rfl, z, rfl, hz.size, _, _, rfl, rfl, fsz (hz.cut _ _) (hz.cut _ _), ?_⟩
      exact q _ (((hz.cut _ _).app (hz.cut _ _)).mono (by decide))
    refine ⟨_, rfl, rfl, _, rfl, ite2 (fun _ => ?_) (fun _ => ?_)⟩
    · refine ⟨_, rfl, _, rfl, _, _, rfl, rfl, _, rfl, _, rfl, _, _, rfl, rfl, _, rfl, z, rfl, hz.size, ?_⟩
      refine ⟨_, rfl, _, rfl, _, rfl, _, rfl, _, _, rfl, rfl, _, rfl, z, rfl, hz.size, _, _, rfl, rfl, fsz (hz.cut _ _) (hz.cut _ _), ?_⟩
      refine ⟨_, rfl, _, rfl, _, rfl, z, rfl, hz.size, _, rfl, _, _, rfl, rfl, fsz (hz.cut _ _) ((hz.cut _ _).app (hz.cut _ _)), ?_⟩
      refine ⟨_, rfl, _, rfl, _, _, rfl, rfl, _, rfl, z, rfl, hz.size, _, _, rfl, rfl, fsz ((hz.cut _ _).app ((hz.cut _ _).app (hz.cut _ _))) (hz.cut _ _), ?_⟩
      exact q _ (((hz.cut _ _).app ((hz.cut _ _).app (hz.cut _ _))).app (hz.cut _ _))
    · exact ⟨_, rfl, _, rfl, _, _, rfl, rfl, fsz hz fk, q _ ((hz.app fk).mono (by decide))⟩
end
end K08
set_option maxHeartbeats 1000000
namespace K08
open PySem L2
seal PE PT PW PA PS PSs PG PGs PI PO PSet OpR UnR CallR TruR IxR SlR PC PPs
local macro_rules | `(tactic| walk_at "rd1") => `(tactic| first
  | (refine And.intro rfl ?_)
  | (refine And.intro (by assumption) ?_)
  | (refine And.intro (fun _ e => e) ?_)
  | (refine And.intro (TyOf.str _) ?_) | (refine And.intro (TyOf.int _) ?_) | (refine And.intro (TyOf.bl _) ?_) | (refine And.intro TyOf.non ?_)
  | (refine iteT ?_) | (refine iteF ?_)
  | (apply Exists.intro))
local macro_rules | `(tactic| walk_at "rd") => `(tactic| repeat (walk_at "rd1"))

theorem eqi_tup {X : Cx} {H : Hp} {n : Nat} {p q : Addr} {ws vs : List Str} (h : SqT X.K H p (ws.map V.str)) (k : SqT X.K H q (vs.map V.str)) : EqJi X H (n + 1) (.ref p) (.ref q) (decide (ws = vs)) := by
  by_cases hpq : p = q
  · subst hpq
    intro pins s σ u v A I ru rv hu
    have e2 := I.tuple_inj h k
    have e3 : ws = vs := by
      have := congrArg (List.map fun v => match v with | V.str z => z | _ => "") e2
      rw [List.map_map, List.map_map] at this
      have i1 : ∀ l : List Str, l.map ((fun v => match v with | V.str z => z | _ => "") ∘ V.str) = l := fun l => by
        conv => rhs; rw [← List.map_id l]
        exact List.map_congr_left fun z _ => rfl
      rw [i1, i1] at this
      exact this
    rw [decide_eq_true e3]
    exact eqi_same (n := n + 1) pins s σ u v A I ru rv hu
  · have := eqj_ftups (n := n) h k (flat_strs ws) (flat_strs vs)
    rw [eqL_strs] at this
    exact eqi_refs hpq this
theorem eqb (p q : Bool) : eqV (.bl p) (.bl q) = decide (AV.b p = AV.b q) := by cases p <;> cases q <;> rfl
theorem eqn (m n : Int) : eqV (.int m) (.int n) = decide (AV.i m = AV.i n) := by
  show (m == n) = _
  rw [Bool.eq_iff_iff, beq_iff_eq, decide_eq_true_iff]
  exact ⟨fun e => congrArg _ e, fun e => AV.i.inj e⟩
theorem eqs (m n : Str) : eqV (.str m) (.str n) = decide (AV.s m = AV.s n) := by
  show (m == n) = _
  rw [Bool.eq_iff_iff, beq_iff_eq, decide_eq_true_iff]
  exact ⟨fun e => congrArg _ e, fun e => AV.s.inj e⟩
theorem eqt (m n : List Str) : decide (m = n) = decide (AV.t m = AV.t n) := by
  rw [decide_eq_decide]
  exact ⟨fun e => congrArg _ e, fun e => AV.t.inj e⟩
theorem same_ty {ku : KU} {a a' : AV} (t : tyok ku a) (t' : tyok ku a') : (∃ x y, a = .b x ∧ a' = .b y) ∨ (∃ x y, a = .i x ∧ a' = .i y) ∨ (∃ x y, a = .s x ∧ a' = .s y) ∨ (∃ x y, a = .t x ∧ a' = .t y) := by
  cases ku <;> cases a <;> first | (cases t; done) | (cases a' <;> first | (cases t'; done) | exact .inl ⟨_, _, rfl, rfl⟩ | exact .inr (.inl ⟨_, _, rfl, rfl⟩) | exact .inr (.inr (.inl ⟨_, _, rfl, rfl⟩)) | exact .inr (.inr (.inr ⟨_, _, rfl, rfl⟩)))
theorem eqi_av {X : Cx} {H : Hp} {n : Nat} {ku : KU} {a a' : AV} {x y : V} (t : tyok ku a) (t' : tyok ku a') (h : AR X.K H a x) (h' : AR X.K H a' y) : EqJi X H (n + 1) x y (decide (a = a')) := by
  rcases same_ty t t' with ⟨p, q, rfl, rfl⟩ | ⟨p, q, rfl, rfl⟩ | ⟨p, q, rfl, rfl⟩ | ⟨p, q, rfl, rfl⟩
  · cases h; cases h'; rw [← eqb]; exact eqi_flat rfl rfl
  · cases h; cases h'; rw [← eqn]; exact eqi_flat rfl rfl
  · cases h; cases h'; rw [← eqs]; exact eqi_flat rfl rfl
  · obtain ⟨r, rfl, h⟩ := h
    obtain ⟨r', rfl, h'⟩ := h'
    rw [← eqt]; exact eqi_tup h h'
theorem eqj_av {X : Cx} {H : Hp} {n : Nat} {ku : KU} {a a' : AV} {x y : V} (t : tyok ku a) (t' : tyok ku a') (h : AR X.K H a x) (h' : AR X.K H a' y) : EqJ X H (n + 1) x y (decide (a = a')) := by
  rcases same_ty t t' with ⟨p, q, rfl, rfl⟩ | ⟨p, q, rfl, rfl⟩ | ⟨p, q, rfl, rfl⟩ | ⟨p, q, rfl, rfl⟩
  · cases h; cases h'; rw [← eqb]; exact eqj_flat rfl rfl
  · cases h; cases h'; rw [← eqn]; exact eqj_flat rfl rfl
  · cases h; cases h'; rw [← eqs]; exact eqj_flat rfl rfl
  · obtain ⟨r, rfl, h⟩ := h
    obtain ⟨r', rfl, h'⟩ := h'
    rw [← eqt, ← eqL_strs]; exact eqj_ftups h h' (flat_strs _) (flat_strs _)
/-- what reading tells -/
def rd (ku : KU) (l : List Nat) : Option AV := match ans ku (stripL l) with
  | some a => if fit ku a = true then some a else none
  | none => none
theorem rd_some {ku : KU} {l : List Nat} {a : AV} (h : rd ku l = some a) : ans ku (stripL l) = some a ∧ fit ku a = true := by
  unfold rd at h
  cases e : ans ku (stripL l) with
  | none => rw [e] at h; cases h
  | some a' =>
    rw [e] at h
    by_cases hf : fit ku a' = true
    · have h : (if fit ku a' = true then some a' else none) = some a := h
      rw [if_pos hf] at h; cases h; exact ⟨rfl, hf⟩
    · have h : (if fit ku a' = true then some a' else none) = some a := h
      rw [if_neg hf] at h; cases h
theorem rd_of {ku : KU} {l : List Nat} {a : AV} (h : ans ku (stripL l) = some a) (hf : fit ku a = true) : rd ku l = some a := by
  unfold rd; rw [h]; exact if_pos hf
theorem rd_none {ku : KU} {l : List Nat} (h : fitO ku (ans ku (stripL l)) = false) : rd ku l = none := by
  unfold rd
  cases e : ans ku (stripL l) with
  | none => rfl
  | some a => rw [e] at h; exact if_neg (by rw [show fit ku a = false from h]; decide)
theorem rd_shw {ku : KU} {a : AV} (g : ku.Good) (h : fit ku a = true) : rd ku (shw ku a) = some a := rd_of (by rw [(shw_facts g h).1]; exact ans_shw g h) h
/-- the tuple that is told of a reading, against another one -/
theorem eqj_rd {X : Cx} {H : Hp} {ku : KU} {t t' : Addr} {o : Option AV} {x y : V} (ho : ∀ a, o = some a → tyok ku a) (h : H t = some (.tup [.bl o.isNone, x])) (h' : H t' = some (.tup [.bl o.isNone, y])) (r : OR X.K H o x) (r' : OR X.K H o y) : EqJ X H 20 (.ref t) (.ref t') true := by
  have := eqj_tups (X := X) (n := 19) (e := fun _ => true) (SqT.of h) (SqT.of h') fun j u v hu hv => ?_
  · exact this
  · match j, hu, hv with
    | 0, hu, hv =>
      cases hu; cases hv
      have := eqi_flat (X := X) (H := H) (n := 19) (x := .bl o.isNone) (y := .bl o.isNone) rfl rfl
      rw [eqV_self rfl] at this
      exact this
    | 1, hu, hv =>
      cases hu; cases hv
      match o, ho, r, r' with
      | none, _, r, r' =>
        cases r; cases r'
        have := eqi_flat (X := X) (H := H) (n := 19) (x := .non) (y := .non) rfl rfl
        rw [eqV_self rfl] at this
        exact this
      | some a, ho, r, r' =>
        have := eqi_av (X := X) (n := 18) (ho a rfl) (ho a rfl) r r'
        rw [decide_eq_true rfl] at this
        exact this
    | k + 2, hu, hv => cases hu
def uLRead (K : PySem.W.Frag) (A : Adr) (ku : KU) : Sp := fun vs H Q _ => ∃ p z, vs = [.ref p, .str z] ∧ st A ku H p ∧ Fine 800 z ∧ ∀ t x H', Same H H' → H' t = some (.tup [.bl (rd ku (cd z)).isNone, x]) → OR K H' (rd ku (cd z)) x → Q (.ref t) H'
def uHolds (K : PySem.W.Frag) (A : Adr) (ku : KU) : Sp := fun vs H Q _ => ∃ p x a, vs = [.ref p, x] ∧ st A ku H p ∧ AR K H a x ∧ fit ku a = true ∧ ∀ H', Same H H' → Q (.bl true) H'
def uAll (K : PySem.W.Frag) (A : Adr) (ku : KU) : Sp := fun vs H Q _ => ∃ p x a c, vs = [.ref p, x, .int c] ∧ st A ku H p ∧ AR K H a x ∧ fit ku a = true ∧ ∀ H', Same H H' → Q (.bl true) H'
theorem OR.same {K : PySem.W.Frag} {H H' : Hp} {o : Option AV} {v : V} (e : Same H H') (h : OR K H o v) : OR K H' o v := by
  cases o with
  | none => exact h
  | some a => exact AR.same e h
section
variable {P : Program} {w : World} {K : PySem.W.Frag} {mg : Str → Option Value} {base : Heap} {A : Adr} {ku : KU}
def JR (T : Txt K mg A) (g : ku.Good) : MethJ P w K mg base (CXW P w) 6 (cls A ku) "read" := 
  match ku, g with
  | .yn, g => ⟨_, _, _, _, [], [], T.cl_YesNo, T.me_YesNo_read, (ok_uread T (km T .yn g)).mono (by decide), T.b_c_Kind_read, .nil⟩
  | .wh lo hi, g => ⟨_, _, _, _, [], [], T.cl_Whole, T.me_Whole_read, (ok_uread T (km T (.wh lo hi) g)).mono (by decide), T.b_c_Kind_read, .nil⟩
  | .mo lo hi, g => ⟨_, _, _, _, [], [], T.cl_Money, T.me_Money_read, (ok_uread T (km T (.mo lo hi) g)).mono (by decide), T.b_c_Kind_read, .nil⟩
  | .pk ws, g => ⟨_, _, _, _, [], [], T.cl_Pick, T.me_Pick_read, (ok_uread T (km T (.pk ws) g)).mono (by decide), T.b_c_Kind_read, .nil⟩
  | .nm m, g => ⟨_, _, _, _, [], [], T.cl_Names, T.me_Names_read, (ok_uread T (km T (.nm m) g)).mono (by decide), T.b_c_Kind_read, .nil⟩
theorem jr_sp (T : Txt K mg A) (g : ku.Good) : (JR (P := P) (w := w) (base := base) T g).sp = uRead K A ku ∧ (JR (P := P) (w := w) (base := base) T g).dvs = [] := by
  cases ku <;> exact ⟨rfl, rfl⟩
theorem ok_law_read (T : Txt K mg A) (g : ku.Good) : FnOk P w K mg base CX0 7 A.f_law_read A.d_law_read ["_law_kind", "_law_word"] (uLRead K A ku) := by
  refine T.F_law_read.ok sc_law_read (fun vs H Q E h => ?_) (fun cdv A0 outer s H vs Q E hr h => ?_)
  · obtain ⟨p, z, rfl, _⟩ := h
    rfl
  obtain ⟨p, z, rfl, hp, hz, q⟩ := h
  refine ⟨_, (pss_cons (ps_set (i := 2) sc_law_read.nd rfl (by first | exact Or.inl rfl | exact Or.inr rfl) pe_bl)
      (pss_cons (ps_set (i := 3) sc_law_read.nd rfl (by first | exact Or.inl rfl | exact Or.inr rfl) pe_non)
      (pss_cons (ps_try rfl rfl (psx_one (psx_set (i := 3) sc_law_read.nd rfl (by first | exact Or.inl rfl | exact Or.inr rfl) (pex_methG (k := 6) (hr.mono (by decide)) (pv 0) (pa_cons (pv 1) pa_nil)))) rfl T.m_NoAnswer (fun _ => (pss_one (ps_set (i := 2) sc_law_read.nd rfl (by first | exact Or.inl rfl | exact Or.inr rfl) pe_bl))))
      (pss_one (ps_ret (pe_tup (pa_cons (pv 2) (pa_cons (pv 3) pa_nil)))))))), ?_⟩
  obtain ⟨dx, fs, hi, hfl⟩ := id hp
  obtain ⟨J, ej, dj⟩ : ∃ J : MethJ P w K mg base (CXW P w) 6 (cls A ku) "read", J.sp = uRead K A ku ∧ J.dvs = [] := ⟨JR T g, jr_sp T g⟩
  refine ⟨_, rfl, p, cls A ku, dx, fs, J, rfl, hi, hfl.no (by decide +kernel), _, rfl, ?_⟩
  rw [ej, dj]
  refine ⟨p, z, rfl, hp, hz, fun a ha hf x H1 s1 hx => ?_, fun hn H1 s1 => ?_⟩
  · have e := rd_of ha hf
    refine ⟨_, rfl, _, rfl, (by show 2 ≤ sizeLine; decide), fun t ht => ?_⟩
    exact q t x _ (s1.trans (same_new ht _)) (by rw [upd_same, e]; rfl) (by rw [e]; exact AR.same (same_new ht _) hx)
  · have e := rd_none hn
    refine ⟨T.em_NoAnswer_NoAnswer, ?_⟩
    refine ⟨_, rfl, _, rfl, (by show 2 ≤ sizeLine; decide), fun t ht => ?_⟩
    exact q t .non _ (s1.trans (same_new ht _)) (by rw [upd_same, e]; rfl) (by rw [e]; rfl)
theorem ok_law_holds (T : Txt K mg A) (g : ku.Good) : FnOk P w K mg base CX0 7 A.f_law_holds A.d_law_holds ["_law_kind", "_law_one"] (uHolds K A ku) := by
  have G_law_whole := ok_law_whole (P := P) (w := w) (base := base) T
  have M := km (P := P) (w := w) (base := base) T ku g
  refine T.F_law_holds.ok sc_law_holds (fun vs H Q E h => ?_) (fun cdv A0 outer s H vs Q E hr h => ?_)
  · obtain ⟨p, x, a, rfl, _⟩ := h
    rfl
  obtain ⟨p, x, a, rfl, hp, ha, hf, q⟩ := h
  refine ⟨_, (pss_cons (ps_set (i := 2) sc_law_holds.nd rfl (by first | exact Or.inl rfl | exact Or.inr rfl) (pe_methG (CX := CX0) (k := 4) (hr.mono (by decide)) pass0 (pv 0) (pa_cons (pv 1) pa_nil)))
      (pss_cons (ps_if (PW.pt (pw_or (pt_cmpR op_isnotB (pe_methG (CX := CX0) (k := 4) (hr.mono (by decide)) pass0 (pv 0) (pa_cons (pv 1) pa_nil)) pe_bl (nomark _)) (pw_or (pt_not (pt_val (pe_call G_law_whole (hr.mono (by decide)) rfl T.m_law_whole T.k_law_whole T.b_law_whole .nil pass0 (pa_cons (pv 2) pa_nil)))) (pw_or (pt_cmpR op_lt (pv 2) (pe_fld (pv 0) rfl) (nomark _)) (pw_or1 (pt_cmpR op_gt (pv 2) (pe_fld (pv 0) rfl) (nomark _))))))) (pss_one (ps_ret pe_bl)) pss_nil)
      (pss_cons (ps_set (i := 3) sc_law_holds.nd rfl (by first | exact Or.inl rfl | exact Or.inr rfl) (pe_methG (CX := CX0) (k := 4) (hr.mono (by decide)) pass0 (pv 0) (pa_cons (pv 1) pa_nil)))
      (pss_one (ps_ret (pe_and (pe_callB call_isi (by rfl) T.n_isinstance Bt.isinstance (pa_cons (pv 3) (pa_cons (pe_bltn (v := .ty "str") rfl T.n_str Bt.str rfl) pa_nil))) (pe_and (pe_cmpR op_gt (pe_callB call_len_str (by rfl) T.n_len PySem.boot_len (pa_cons (pv 3) pa_nil)) pe_int (nomark _)) (pe_and (pe_cmpR (op_eqJ (hu20 hr)) (pe_methG (CX := CXW P w) (k := 6) (hr.mono (by decide)) passW0 (pv 0) (pa_cons (pv 3) pa_nil)) (pv 1) (nomark _)) (pe_one (pe_cmpR op_eq (pe_methG (CX := CX0) (k := 4) (hr.mono (by decide)) pass0 (pv 0) (pa_cons (pe_methG (CX := CX0) (k := 4) (hr.mono (by decide)) pass0 (pv 0) (pa_cons (pv 2) pa_nil)) pa_nil)) (pv 2) (nomark _))))))))))), ?_⟩
  obtain ⟨dx, fs, hi, hfl⟩ := id hp
  obtain ⟨r1, r2⟩ := rnk_rng g hf
  obtain ⟨w1, w2, w3⟩ := shw_facts g hf
  refine ⟨_, rfl, p, cls A ku, dx, fs, M.Jk, rfl, hi, hfl.no (by decide +kernel), _, rfl, ?_⟩
  rw [M.ek, M.dk]
  refine ⟨p, x, a, rfl, hp, ha, hf, fun H1 s1 => ?_⟩
  refine ⟨_, rfl, p, cls A ku, dx, fs, M.Jf, rfl, s1 _ _ hi, hfl.no (by decide +kernel), _, rfl, ?_⟩
  rw [M.ef, M.df]
  refine ⟨p, x, some a, rfl, hp.same s1, AR.same s1 ha, fun a' e => ⟨by cases e; exact fit_ty hf, by cases e; exact fit_sm g hf⟩, fun H2 s2 => ?_⟩
  rw [show fitO ku (some a) = true from hf]
  have s12 := s1.trans s2
  refine ⟨_, _, rfl, rfl, _, rfl, iteF ?_⟩
  refine ⟨_, rfl, _, _, _, _, rfl, .old (.int _), T.i_int_int, T.i_int_bool, _, rfl, iteF ?_⟩
  refine ⟨_, rfl, _, rfl, p, cls A ku, dx, fs, _, rfl, s12 _ _ hi, M.cl, M.n1, hfl.low, _, _, rfl, rfl, _, rfl, iteN (decide_eq_false (by omega)) ?_⟩
  refine ⟨_, rfl, _, rfl, p, cls A ku, dx, fs, _, rfl, s12 _ _ hi, M.cl, M.n2, hfl.high, _, _, rfl, rfl, _, rfl, iteN (decide_eq_false (by omega)) ?_⟩
  refine ⟨_, rfl, p, cls A ku, dx, fs, M.Js, rfl, s12 _ _ hi, hfl.no (by decide +kernel), _, rfl, ?_⟩
  rw [M.es, M.ds]
  refine ⟨p, x, a, rfl, hp.same s12, AR.same s12 ha, hf, fun H3 s3 => ?_⟩
  have s13 := s12.trans s3
  refine ⟨_, rfl, _, _, _, _, rfl, rfl, .old (.str _), T.i_str_str, _, rfl, iteT ?_⟩
  have hpos : (0 : Int) < ((S (shw ku a)).length : Nat) := by
    rw [len_S]
    cases e : shw ku a with
    | nil => exact absurd e w2
    | cons c r => rw [List.length_cons]; omega
  refine ⟨_, rfl, _, rfl, w3.size, _, _, rfl, rfl, _, rfl, iteY (decide_eq_true hpos) ?_⟩
  obtain ⟨J, ej, dj⟩ : ∃ J : MethJ P w K mg base (CXW P w) 6 (cls A ku) "read", J.sp = uRead K A ku ∧ J.dvs = [] := ⟨JR T g, jr_sp T g⟩
  refine ⟨_, rfl, p, cls A ku, dx, fs, J, rfl, s13 _ _ hi, hfl.no (by decide +kernel), _, rfl, ?_⟩
  rw [ej, dj]
  have hans : ans ku (stripL (cd (S (shw ku a)))) = some a := by rw [cd_S, w1]; exact ans_shw g hf
  refine ⟨p, S (shw ku a), rfl, hp.same s13, w3.mono (by decide), fun a' ha' hf' y H4 s4 hy => ?_, fun hn => absurd (show fitO ku (some a) = false by rw [← hans]; exact hn) (by rw [show fitO ku (some a) = true from hf]; decide)⟩
  have ea : a' = a := Option.some.inj (ha'.symm.trans hans)
  subst ea
  have s14 := s13.trans s4
  refine ⟨_, rfl, _, eqj_av (n := 19) (fit_ty hf) (fit_ty hf) hy (AR.same s14 ha), _, rfl, iteY (decide_eq_true rfl) ?_⟩
  obtain ⟨f1, f2⟩ := smp_fit (r := rnk ku a') g r1 r2
  refine ⟨_, rfl, p, cls A ku, dx, fs, M.Jk, rfl, s14 _ _ hi, hfl.no (by decide +kernel), ?_⟩
  refine ⟨_, rfl, p, cls A ku, dx, fs, M.Jp, rfl, s14 _ _ hi, hfl.no (by decide +kernel), _, rfl, ?_⟩
  rw [M.ep, M.dp]
  refine ⟨p, _, rfl, hp.same s14, r1, r2, fun v H5 s5 hv => ?_⟩
  have s15 := s14.trans s5
  rw [M.ek, M.dk]
  refine ⟨p, v, _, rfl, hp.same s15, hv, f1, fun H6 s6 => ⟨_, rfl, rfl, ?_⟩⟩
  rw [f2, decide_eq_true rfl]
  exact q _ (s15.trans s6)
end
end K08
set_option maxHeartbeats 1000000
namespace K08
open PySem L2
seal PE PT PW PA PS PSs PG PGs PI PO PSet OpR UnR CallR TruR IxR SlR PC PPs
local macro_rules | `(tactic| walk_at "rd1") => `(tactic| first
  | (refine And.intro rfl ?_)
  | (refine And.intro (by assumption) ?_)
  | (refine And.intro (fun _ e => e) ?_)
  | (refine And.intro (TyOf.str _) ?_) | (refine And.intro (TyOf.int _) ?_) | (refine And.intro (TyOf.bl _) ?_) | (refine And.intro TyOf.non ?_)
  | (refine iteT ?_) | (refine iteF ?_)
  | (apply Exists.intro))
local macro_rules | `(tactic| walk_at "rd") => `(tactic| repeat (walk_at "rd1"))

theorem seq_if {tc : TT} {t u : TS} {D : Ends} {σ : St} {H : Hp} (R : Hp → Prop) (hk : ∀ H', R H' → u D σ H') (hm : (∀ H', R H' → tNext { D with nx := u D } σ H') → tIfS tc t tNext { D with nx := u D } σ H) : tSeq (tIfS tc t tNext) u D σ H := hm hk
section
variable {P : Program} {w : World} {K : PySem.W.Frag} {mg : Str → Option Value} {base : Heap} {A : Adr} {ku : KU}
theorem ok_law_all (T : Txt K mg A) (g : ku.Good) : FnOk P w K mg base CX0 8 A.f_law_all A.d_law_all ["_law_kind", "_law_one", "_law_cell"] (uAll K A ku) := by
  have G_law_holds := ok_law_holds (P := P) (w := w) (base := base) T g
  have G_law_read := ok_law_read (P := P) (w := w) (base := base) T g
  have G_law_spoilt := ok_law_spoilt (P := P) (w := w) (base := base) T
  have G_law_bare := ok_law_bare (P := P) (w := w) (base := base) T
  have M := km (P := P) (w := w) (base := base) T ku g
  refine T.F_law_all.ok sc_law_all (fun vs H Q E h => ?_) (fun cdv A0 outer s H vs Q E hr h => ?_)
  · obtain ⟨p, x, a, c, rfl, _⟩ := h
    rfl
  obtain ⟨p, x, a, c, rfl, hp, ha, hf, q⟩ := h
  refine ⟨_, (pss_cons (ps_if (pt_not (pt_val (pe_call G_law_holds (hr.mono (by decide)) rfl T.m_law_holds T.k_law_holds T.b_law_holds .nil pass0 (pa_cons (pv 0) (pa_cons (pv 1) pa_nil))))) (pss_one (ps_ret pe_bl)) pss_nil)
      (pss_cons (ps_set (i := 3) sc_law_all.nd rfl (by first | exact Or.inl rfl | exact Or.inr rfl) (pe_methG (CX := CX0) (k := 4) (hr.mono (by decide)) pass0 (pv 0) (pa_cons (pv 1) pa_nil)))
      (pss_cons (ps_set (i := 4) sc_law_all.nd rfl (by first | exact Or.inl rfl | exact Or.inr rfl) (pe_call G_law_spoilt (hr.mono (by decide)) rfl T.m_law_spoilt T.k_law_spoilt T.b_law_spoilt .nil pass0 (pa_cons (pv 3) (pa_cons (pv 2) pa_nil))))
      (pss_cons (ps_asg (pe_call G_law_read (hr.mono (by decide)) rfl T.m_law_read T.k_law_read T.b_law_read .nil pass0 (pa_cons (pv 0) (pa_cons (pv 4) pa_nil))) (pg_tup rfl (pgs_cons (pg_name (i := 5) sc_law_all.nd rfl (by first | exact Or.inl rfl | exact Or.inr rfl)) (pgs_cons (pg_name (i := 6) sc_law_all.nd rfl (by first | exact Or.inl rfl | exact Or.inr rfl)) pgs_nil))))
      (pss_cons (ps_if (pt_not (pt_val (pv 5))) (pss_cons (ps_if (PW.pt (pw_or (pt_not (pt_val (pe_call G_law_holds (hr.mono (by decide)) rfl T.m_law_holds T.k_law_holds T.b_law_holds .nil pass0 (pa_cons (pv 0) (pa_cons (pv 6) pa_nil))))) (pw_or1 (pt_cmpR op_ne (pe_methG (CX := CX0) (k := 4) (hr.mono (by decide)) pass0 (pv 0) (pa_cons (pv 6) pa_nil)) (pe_call G_law_bare (hr.mono (by decide)) rfl T.m_law_bare T.k_law_bare T.b_law_bare .nil pass0 (pa_cons (pv 4) pa_nil)) (nomark _))))) (pss_one (ps_ret pe_bl)) pss_nil)
      (pss_one (ps_if (pt_cmpR op_ne (pe_cmpR (op_eqJ (hu20 hr)) (pv 6) (pv 1) (nomark _)) (pe_cmpR op_eq (pe_call G_law_bare (hr.mono (by decide)) rfl T.m_law_bare T.k_law_bare T.b_law_bare .nil pass0 (pa_cons (pv 4) pa_nil)) (pv 3) (nomark _)) (nomark _)) (pss_one (ps_ret pe_bl)) pss_nil))) pss_nil)
      (pss_cons (ps_if (PW.pt (pw_and (pt_val (pv 5)) (pw_and1 (pt_cmpR op_eq (pe_call G_law_bare (hr.mono (by decide)) rfl T.m_law_bare T.k_law_bare T.b_law_bare .nil pass0 (pa_cons (pv 4) pa_nil)) (pv 3) (nomark _))))) (pss_one (ps_ret pe_bl)) pss_nil)
      (pss_cons (ps_if (PW.pt (pw_or (pt_cmpR (op_neJ (hu20 hr)) (pe_call G_law_read (hr.mono (by decide)) rfl T.m_law_read T.k_law_read T.b_law_read .nil pass0 (pa_cons (pv 0) (pa_cons (pv 3) pa_nil))) (pe_tup (pa_cons pe_bl (pa_cons (pv 1) pa_nil))) (nomark _)) (pw_or1 (pt_cmpR (op_neJ (hu20 hr)) (pe_call G_law_read (hr.mono (by decide)) rfl T.m_law_read T.k_law_read T.b_law_read .nil pass0 (pa_cons (pv 0) (pa_cons (pv 4) pa_nil))) (pe_tup (pa_cons (pv 5) (pa_cons (pv 6) pa_nil))) (nomark _))))) (pss_one (ps_ret pe_bl)) pss_nil)
      (pss_one (ps_ret (pe_cmpR op_eq (pe_methG (CX := CX0) (k := 4) (hr.mono (by decide)) pass0 (pv 0) (pa_cons (pv 1) pa_nil)) (pv 3) (nomark _))))))))))), ?_⟩
  obtain ⟨dx, fs, hi, hfl⟩ := id hp
  obtain ⟨w1, w2, w3⟩ := shw_facts g hf
  refine ⟨_, rfl, _, rfl, p, x, a, rfl, hp, ha, hf, fun H1 s1 => ⟨_, rfl, iteF ?_⟩⟩
  refine ⟨_, rfl, p, cls A ku, dx, fs, M.Js, rfl, s1 _ _ hi, hfl.no (by decide +kernel), _, rfl, ?_⟩
  rw [M.es, M.ds]
  refine ⟨p, x, a, rfl, hp.same s1, AR.same s1 ha, hf, fun H2 s2 => ?_⟩
  have s12 := s1.trans s2
  have hpos : 1 ≤ (S (shw ku a)).length := by
    rw [len_S]
    cases e : shw ku a with
    | nil => exact absurd e w2
    | cons c r => rw [List.length_cons]; omega
  refine ⟨_, rfl, _, rfl, S (shw ku a), c, rfl, w3, hpos, fun y hy => ?_⟩
  refine ⟨_, rfl, _, rfl, p, y, rfl, hp.same s12, hy, fun t u H3 s3 ht hu => ?_⟩
  have s13 := s12.trans s3
  refine ⟨t, _, rfl, SqT.of ht, rfl, _, _, rfl, _, _, rfl, rfl, ?_⟩
  dsimp only
  generalize ho : rd ku (cd y) = o at hu ⊢
  have oty : ∀ a', o = some a' → tyok ku a' := fun a' e => fit_ty (rd_some (ho.trans e)).2
  have eword : cd (S (shw ku a)) = shw ku a := cd_S _
  refine seq_if (fun H' => Same H3 H') ?k ?m
  case m =>
    intro key
    cases o with
    | none => exact ⟨_, rfl, _, rfl, iteF (key _ (Same.refl _))⟩
    | some a' =>
      obtain ⟨ha', hf'⟩ := rd_some ho
      have e1 := shw_ans ha'
      refine ⟨_, rfl, _, rfl, iteT ?_⟩
      refine ⟨_, rfl, _, rfl, p, u, a', rfl, hp.same s13, hu, hf', fun H4 s4 => ⟨_, rfl, iteF ?_⟩⟩
      refine ⟨_, rfl, p, cls A ku, dx, fs, M.Js, rfl, s4 _ _ (s13 _ _ hi), hfl.no (by decide +kernel), _, rfl, ?_⟩
      rw [M.es, M.ds]
      refine ⟨p, u, a', rfl, (hp.same s13).same s4, AR.same s4 hu, hf', fun H5 s5 => ?_⟩
      refine ⟨_, rfl, y, rfl, hy, rfl, _, rfl, iteN (by rw [e1, decide_eq_true rfl]; rfl) ?_⟩
      have s35 := s4.trans s5
      refine ⟨_, rfl, _, rfl, _, eqj_av (n := 19) (fit_ty hf') (fit_ty hf) (AR.same s35 hu) (AR.same (s13.trans s35) ha), ?_⟩
      refine ⟨_, rfl, y, rfl, hy, _, rfl, rfl, rfl, _, rfl, iteN ?_ (key _ s35)⟩
      have : decide (a' = a) = decide (V.str (S (stripL (cd y))) = V.str (S (shw ku a))) := by
        rw [decide_eq_decide, ← e1]
        refine ⟨fun e => by rw [e], fun e => ?_⟩
        have e2 : shw ku a' = shw ku a := S_inj (V.str.inj e)
        have := ans_shw g hf'
        rw [e2, ans_shw g hf] at this
        exact (Option.some.inj this).symm
      rw [this, decide_eq_true rfl]; rfl
  case k =>
    intro H4 s4
    have s14 := s13.trans s4
    refine seq_if (fun H' => H' = H4) ?k2 ?m2
    case m2 =>
      intro key
      cases o with
      | some a' => exact ⟨_, rfl, _, rfl, iteF (iteF (key _ rfl))⟩
      | none =>
        refine ⟨_, rfl, _, rfl, iteT ⟨_, rfl, y, rfl, hy, _, rfl, rfl, _, rfl, iteN ?_ (key _ rfl)⟩⟩
        refine decide_eq_false fun e => ?_
        have e2 : stripL (cd y) = shw ku a := S_inj (V.str.inj e)
        have := rd_of (l := cd y) (by rw [e2]; exact ans_shw g hf) hf
        rw [ho] at this
        cases this
    case k2 =>
      intro H4' e4
      subst e4
      refine ⟨_, rfl, _, rfl, p, S (shw ku a), rfl, hp.same s14, w3.mono (by decide), fun t1 u1 H5 s5 ht1 hu1 => ?_⟩
      rw [eword, rd_shw g hf] at ht1 hu1
      refine ⟨_, rfl, (by show 2 ≤ sizeLine; decide), fun t2 ht2 => ?_⟩
      have s6 := same_new ht2 (.tup [.bl false, x])
      have s46 := s5.trans s6
      have s16 := s14.trans s46
      refine ⟨_, eqj_rd (o := some a) (fun a' e => by cases e; exact fit_ty hf) (s6 _ _ ht1) upd_same (OR.same s6 hu1) (AR.same s16 ha), _, rfl, iteF ?_⟩
      refine ⟨_, rfl, _, rfl, p, y, rfl, hp.same s16, hy, fun t3 u3 H7 s7 ht3 hu3 => ?_⟩
      rw [ho] at ht3 hu3
      refine ⟨_, rfl, _, rfl, (by show 2 ≤ sizeLine; decide), fun t4 ht4 => ?_⟩
      have s8 := same_new ht4 (.tup [.bl o.isNone, u])
      have s48 := s46.trans (s7.trans s8)
      have s18 := s14.trans s48
      refine ⟨_, eqj_rd oty (s8 _ _ ht3) upd_same (OR.same s8 hu3) (OR.same (s4.trans s48) hu), _, rfl, iteF ?_⟩
      refine ⟨_, rfl, p, cls A ku, dx, fs, M.Js, rfl, s18 _ _ hi, hfl.no (by decide +kernel), _, rfl, ?_⟩
      rw [M.es, M.ds]
      refine ⟨p, x, a, rfl, hp.same s18, AR.same s18 ha, hf, fun H9 s9 => ⟨_, rfl, rfl, ?_⟩⟩
      rw [decide_eq_true rfl]
      exact q _ (s18.trans s9)
end
end K08
set_option maxHeartbeats 1000000
namespace K08
open PySem L2
seal PE PT PW PA PS PSs PG PGs PI PO PSet OpR UnR CallR TruR IxR SlR PC PPs
local macro_rules | `(tactic| walk_at "rd1") => `(tactic| first
  | (refine And.intro rfl ?_)
  | (refine And.intro (by assumption) ?_)
  | (refine And.intro (fun _ e => e) ?_)
  | (refine And.intro (TyOf.str _) ?_) | (refine And.intro (TyOf.int _) ?_) | (refine And.intro (TyOf.bl _) ?_) | (refine And.intro TyOf.non ?_)
  | (refine iteT ?_) | (refine iteF ?_)
  | (apply Exists.intro))
local macro_rules | `(tactic| walk_at "rd") => `(tactic| repeat (walk_at "rd1"))

def spYInit (A : Adr) : Sp := fun vs H Q _ => ∃ p dx, vs = [.ref p] ∧ H p = some (.ins A.c_YesNo dx []) ∧ Q .non (upd H p (.ins A.c_YesNo dx (flds 0 1)))
def spPInit (A : Adr) : Sp := fun vs H Q _ => ∃ (p dx pl : Addr) (ws : List Str), vs = [.ref p, .ref pl] ∧ H p = some (.ins A.c_Pick dx []) ∧ H pl = some (.lst (ws.map V.str)) ∧ ∀ pw H', (∀ b o, b ≠ p → H b = some o → H' b = some o) → H' p = some (.ins A.c_Pick dx (fP ws.length pw)) → H' pw = some (.lst (ws.map V.str)) → Q .non H'
def isNm : KU → Prop
  | .nm _ => True
  | _ => False
def uAnswer (K : PySem.W.Frag) (A : Adr) (ku : KU) : Sp := fun vs H Q _ => ∃ (p : Addr) (k c : Int), vs = [.ref p, .int k, .int c] ∧ st A ku H p ∧ (k = 4 → isNm ku) ∧ ib c ≤ 1048576 ∧ ∀ x a H', Same H H' → AR K H' a x → fit ku a = true → Q x H'
/-- the five kinds -/
def five (lo hi : Int) (ws : List Str) (m : Nat) : List KU := [.yn, .wh lo hi, .mo lo hi, .pk ws, .nm m]
def spKinds (K : PySem.W.Frag) (A : Adr) : Sp := fun vs H Q _ => ∃ (a : Addr) (ns : List Int), vs = [.ref a] ∧ SqL K H a (ns.map V.int) ∧ (∀ n ∈ ns, ib n ≤ 1048576) ∧
  ∀ (pl : Addr) (ps : List Addr) (ks : List KU) H', Same H H' → H' pl = some (.lst (ps.map V.ref)) → ps.length = 5 → (∀ j : Nat, j < 5 → ∃ p ku, ps[j]? = some p ∧ ks[j]? = some ku ∧ ku.Good ∧ st A ku H' p ∧ (j = 4 → isNm ku) ∧ (j = 0 → ku = .yn)) → Q (.ref pl) H'
def sp_law (K : PySem.W.Frag) : Sp := fun vs H Q _ => ∃ (a : Addr) (ns : List Int), vs = [.ref a] ∧ SqL K H a (ns.map V.int) ∧ ns.length ≤ 63 ∧ (∀ n ∈ ns, ib n ≤ 1048576) ∧ ∀ H', Q (.bl true) H'
theorem FnOk.ex {ι : Type} {P : Program} {w : World} {K : PySem.W.Frag} {mg : Str → Option Value} {base : Heap} {CX : CXT} {k : Nat} {f : Addr} {fd : FuncData} {ps : List Str} {sp : ι → Sp} (F : ∀ i, FnOk P w K mg base CX k f fd ps (sp i)) : FnOk P w K mg base CX k f fd ps (fun vs H Q E => ∃ i, sp i vs H Q E) :=
  ⟨fun vs H Q E ⟨i, q⟩ => (F i).len vs H Q E q, fun A outer s H args us vs Q E hr he hb hv ⟨i, hs⟩ => (F i).run A outer s H args us vs Q E hr he hb hv hs⟩
theorem newO {H : Hp} {p dx C : Addr} {fs : List (Str × V)} (hp : H p = none) (hdx : H dx = none) : ∃ H', upd (upd (upd H dx (.own p)) p (.ins C dx [])) p (.ins C dx fs) = H' ∧ Same H H' ∧ H' p = some (.ins C dx fs) := by
  refine ⟨_, rfl, fun b o h => ?_, upd_same⟩
  have b1 : b ≠ p := fun e => by subst e; rw [hp] at h; cases h
  have b2 : b ≠ dx := fun e => by subst e; rw [hdx] at h; cases h
  rw [upd_ne b1, upd_ne b1, upd_ne b2]; exact h
section
variable {P : Program} {w : World} {K : PySem.W.Frag} {mg : Str → Option Value} {base : Heap} {A : Adr}
theorem ok_yinit (T : Txt K mg A) : FnOk P w K mg base CX0 3 A.f_c_YesNo___init A.d_c_YesNo___init ["self"] (spYInit A) := by
  have G_c_Kind___init := ok_init (P := P) (w := w) (base := base) T
  refine T.F_c_YesNo___init.ok sc_c_YesNo___init (fun vs H Q E h => ?_) (fun cdv A0 outer s H vs Q E hr h => ?_)
  · obtain ⟨p, dx, rfl, _⟩ := h
    rfl
  obtain ⟨p, dx, rfl, hp, q⟩ := h
  refine ⟨_, (pss_one (ps_expr (pe_clsfn T.cf_Kind_init G_c_Kind___init (hr.mono (by decide)) rfl T.m_Kind T.b_c_Kind___init pass0 (pa_cons (pv 0) (pa_cons pe_int (pa_cons pe_int pa_nil)))))), ?_⟩
  exact ⟨_, rfl, p, A.c_YesNo, dx, 0, 1, rfl, hp, T.cl_YesNo, T.no_YesNo_low, T.no_YesNo_high, q⟩
theorem ok_pinit (T : Txt K mg A) : FnOk P w K mg base CX0 3 A.f_c_Pick___init A.d_c_Pick___init ["self", "words"] (spPInit A) := by
  have G_c_Kind___init := ok_init (P := P) (w := w) (base := base) T
  refine T.F_c_Pick___init.ok sc_c_Pick___init (fun vs H Q E h => ?_) (fun cdv A0 outer s H vs Q E hr h => ?_)
  · obtain ⟨p, dx, pl, ws, rfl, _⟩ := h
    rfl
  obtain ⟨p, dx, pl, ws, rfl, hp, hl, q⟩ := h
  refine ⟨_, (pss_cons (ps_expr (pe_clsfn T.cf_Kind_init G_c_Kind___init (hr.mono (by decide)) rfl T.m_Kind T.b_c_Kind___init pass0 (pa_cons (pv 0) (pa_cons pe_int (pa_cons (pe_op op_sub (pe_callB call_len_seq (by rfl) T.n_len PySem.boot_len (pa_cons (pv 1) pa_nil)) pe_int) pa_nil)))))
      (pss_one (ps_fld (pv 0) (pe_callTy call_list_of (by rfl) T.n_list Bt.list (pa_cons (pv 1) pa_nil)) rfl))), ?_⟩
  have hne : pl ≠ p := ne_of hl hp (by intro z; cases z)
  refine ⟨_, rfl, _, rfl, pl, _, rfl, .inl (SqL.of hl), _, _, rfl, rfl, ?_⟩
  rw [List.length_map]
  refine ⟨p, A.c_Pick, dx, 0, (ws.length : Int) - 1, rfl, hp, T.cl_Pick, T.no_Pick_low, T.no_Pick_high, ?_⟩
  refine ⟨_, rfl, pl, _, rfl, .inl (SqL.of (by rw [upd_ne hne]; exact hl)), fun pw hw => ?_⟩
  have hwp : pw ≠ p := fun z => by subst z; rw [upd_same] at hw; cases hw
  refine ⟨_, rfl, p, A.c_Pick, dx, _, rfl, (by rw [upd_ne (Ne.symm hwp)]; exact upd_same), T.cl_Pick, T.no_Pick_words, (by show 2 < 1000; decide), ?_⟩
  rw [put_words]
  rw [upd_ne hwp] at hw
  refine q pw _ (fun b o hb e => ?_) upd_same ?_
  · rw [upd_ne hb]
    by_cases z : b = pw
    · subst z; rw [hw] at e; cases e
    · rw [upd_ne z, upd_ne hb]; exact e
  · rw [upd_ne hwp]; exact upd_same
theorem ok_law_answer (T : Txt K mg A) {ku : KU} (g : ku.Good) : FnOk P w K mg base CX0 5 A.f_law_answer A.d_law_answer ["_law_kind", "_law_k", "_law_cell"] (uAnswer K A ku) := by
  have G_law_words := ok_law_words (P := P) (w := w) (base := base) T
  have G_law_wide := ok_law_wide (P := P) (w := w) (base := base) T
  have M := km (P := P) (w := w) (base := base) T ku g
  refine T.F_law_answer.ok sc_law_answer (fun vs H Q E h => ?_) (fun cdv A0 outer s H vs Q E hr h => ?_)
  · obtain ⟨p, k, c, rfl, _⟩ := h
    rfl
  obtain ⟨p, k, c, rfl, hp, hk, hc, q⟩ := h
  refine ⟨_, (pss_cons (ps_if (PW.pt (pw_and (pt_cmpR op_eq (pv 1) pe_int (nomark _)) (pw_and1 (pt_cmpR op_gt (pe_op op_mod (pv 2) pe_int) pe_int (nomark _))))) (pss_one (ps_ret (pe_callTy call_tuple_of (by rfl) T.n_tuple Bt.tuple (pa_cons (pe_call G_law_words (hr.mono (by decide)) rfl T.m_law_words T.k_law_words T.b_law_words .nil pass0 (pa_cons (pv 2) (pa_cons (pe_op op_mod (pv 2) (pe_op op_add (pe_fld (pv 0) rfl) pe_int)) pa_nil))) pa_nil)))) pss_nil)
      (pss_one (ps_ret (pe_methG (CX := CX0) (k := 4) (hr.mono (by decide)) pass0 (pv 0) (pa_cons (pe_op op_add (pe_fld (pv 0) rfl) (pe_op op_mod (pe_call G_law_wide (hr.mono (by decide)) rfl T.m_law_wide T.k_law_wide T.b_law_wide .nil pass0 (pa_cons (pv 2) pa_nil)) (pe_op op_add (pe_op op_sub (pe_fld (pv 0) rfl) (pe_fld (pv 0) rfl)) pe_int))) pa_nil))))), ?_⟩
  obtain ⟨dx, fs, hi, hfl⟩ := id hp
  refine seq_if (fun H' => H' = H) ?k ?m
  case m =>
    intro key
    refine ⟨_, rfl, rfl, _, rfl, ite2 (fun c4 => ?_) (fun _ => iteF (key _ rfl))⟩
    refine ⟨_, rfl, _, _, rfl, rfl, (by show (0 : Int) < 3; decide), _, _, rfl, rfl, _, rfl, ite2 (fun _ => ?_) (fun _ => key _ rfl)⟩
    have k4 : k = 4 := V.int.inj (of_decide_eq_true c4)
    have hn := hk k4
    cases ku with
    | nm m =>
      have g' : m ≤ 6 := g
      have m0 : 0 ≤ c % ((m : Int) + 1) := Int.emod_nonneg _ (by omega)
      have m1 : c % ((m : Int) + 1) < (m : Int) + 1 := Int.emod_lt_of_pos _ (by omega)
      obtain ⟨n, en⟩ : ∃ n : Nat, c % ((m : Int) + 1) = (n : Int) := ⟨(c % ((m : Int) + 1)).toNat, by omega⟩
      refine ⟨_, rfl, _, rfl, _, rfl, p, _, dx, fs, _, rfl, hi, M.cl, M.n2, hfl.high, _, _, rfl, rfl, _, _, rfl, rfl, (by show (0 : Int) < (m : Int) + 1; omega), ?_⟩
      refine ⟨c, n, (by rw [← en]; rfl), by omega, hc, fun pw ws H1 hw s1 hpw => ?_⟩
      refine ⟨pw, _, rfl, .inl ⟨SqL.of hpw, fun t ht => ?_⟩⟩
      refine q _ (.t ws) _ (s1.trans (same_new ht _)) ⟨t, rfl, SqT.of upd_same⟩ ?_
      show (decide ((ws.length : Int) ≤ (m : Nat)) && N.unlikeB (ws.map V.str)) = true
      rw [N.unlike_strs, List.all_eq_true.mpr (fun z hz => (hw.2.2 z hz).2), decide_eq_true hw.2.1, hw.1, decide_eq_true (by omega)]
      rfl
    | yn => cases hn
    | wh lo hi => cases hn
    | mo lo hi => cases hn
    | pk ws => cases hn
  case k =>
    intro H0 e0
    subst e0
    have hlh : ku.low ≤ ku.high := by
      cases ku with
      | yn => decide
      | wh lo hi => exact g.1
      | mo lo hi => exact g.1
      | pk ws => have := g.2.1; show (0 : Int) ≤ (ws.length : Int) - 1; omega
      | nm m => show (0 : Int) ≤ (m : Nat); omega
    refine ⟨_, rfl, p, cls A ku, dx, fs, M.Jp, rfl, hi, hfl.no (by decide +kernel), ?_⟩
    refine ⟨_, rfl, p, _, dx, fs, _, rfl, hi, M.cl, M.n1, hfl.low, ?_⟩
    refine ⟨_, rfl, c, rfl, Nat.le_trans hc (by decide), fun m h0 h1 => ?_⟩
    refine ⟨_, rfl, p, _, dx, fs, _, rfl, hi, M.cl, M.n2, hfl.high, _, rfl, p, _, dx, fs, _, rfl, hi, M.cl, M.n1, hfl.low, _, _, rfl, rfl, _, _, rfl, rfl, _, _, rfl, rfl, (by show (0 : Int) < ku.high - ku.low + 1; omega), _, _, rfl, rfl, ?_⟩
    have r0 : 0 ≤ m % (ku.high - ku.low + 1) := Int.emod_nonneg _ (by omega)
    have r1 : m % (ku.high - ku.low + 1) < ku.high - ku.low + 1 := Int.emod_lt_of_pos _ (by omega)
    rw [M.ep, M.dp]
    have f := smp_fit (ku := ku) (r := ku.low + m % (ku.high - ku.low + 1)) g (by omega) (by omega)
    exact ⟨p, _, rfl, hp, by omega, by omega, fun x H1 s1 hx => q x _ _ s1 hx f.1⟩
theorem ok_law_kinds (T : Txt K mg A) : FnOk P w K mg base CX0 5 A.f_law_kinds A.d_law_kinds ["_law_script"] (spKinds K A) := by
  have G_law_cell_at := ok_law_cell_at (P := P) (w := w) (base := base) T
  have G_law_low := ok_law_low (P := P) (w := w) (base := base) T
  have G_law_size := ok_law_size (P := P) (w := w) (base := base) T
  have G_law_words := ok_law_words (P := P) (w := w) (base := base) T
  have G_c_Kind___init := ok_init (P := P) (w := w) (base := base) T
  have G_c_YesNo___init := ok_yinit (P := P) (w := w) (base := base) T
  have G_c_Pick___init := ok_pinit (P := P) (w := w) (base := base) T
  have G_c_Names___init := N.ok_ninit (P := P) (w := w) (base := base) T
  refine T.F_law_kinds.ok sc_law_kinds (fun vs H Q E h => ?_) (fun cdv A0 outer s H vs Q E hr h => ?_)
  · obtain ⟨a, ns, rfl, _⟩ := h
    rfl
  obtain ⟨a, ns, rfl, hS, hb, q⟩ := h
  refine ⟨_, (pss_cons (ps_set (i := 1) sc_law_kinds.nd rfl (by first | exact Or.inl rfl | exact Or.inr rfl) (pe_call G_law_cell_at (hr.mono (by decide)) rfl T.m_law_cell_at T.k_law_cell_at T.b_law_cell_at .nil pass0 (pa_cons (pv 0) (pa_cons pe_int pa_nil))))
      (pss_cons (ps_set (i := 2) sc_law_kinds.nd rfl (by first | exact Or.inl rfl | exact Or.inr rfl) (pe_call G_law_low (hr.mono (by decide)) rfl T.m_law_low T.k_law_low T.b_law_low .nil pass0 (pa_cons (pe_call G_law_cell_at (hr.mono (by decide)) rfl T.m_law_cell_at T.k_law_cell_at T.b_law_cell_at .nil pass0 (pa_cons (pv 0) (pa_cons pe_int pa_nil))) pa_nil)))
      (pss_cons (ps_set (i := 3) sc_law_kinds.nd rfl (by first | exact Or.inl rfl | exact Or.inr rfl) (pe_call G_law_size (hr.mono (by decide)) rfl T.m_law_size T.k_law_size T.b_law_size .nil pass0 (pa_cons (pe_call G_law_cell_at (hr.mono (by decide)) rfl T.m_law_cell_at T.k_law_cell_at T.b_law_cell_at .nil pass0 (pa_cons (pv 0) (pa_cons pe_int pa_nil))) pa_nil)))
      (pss_cons (ps_set (i := 4) sc_law_kinds.nd rfl (by first | exact Or.inl rfl | exact Or.inr rfl) (pe_call G_law_words (hr.mono (by decide)) rfl T.m_law_words T.k_law_words T.b_law_words .nil pass0 (pa_cons (pe_call G_law_cell_at (hr.mono (by decide)) rfl T.m_law_cell_at T.k_law_cell_at T.b_law_cell_at .nil pass0 (pa_cons (pv 0) (pa_cons pe_int pa_nil))) (pa_cons (pe_op op_add pe_int (pe_op op_mod (pv 1) pe_int)) pa_nil))))
      (pss_one (ps_ret (pe_lst (pa_cons (pe_make0 T.mk_YesNo G_c_YesNo___init (hr.mono (by decide)) rfl T.m_YesNo T.b_c_YesNo___init .nil pass0) (pa_cons (pe_make T.mk_Whole G_c_Kind___init (hr.mono (by decide)) rfl T.m_Whole T.b_c_Kind___init .nil pass0 (pa_cons (pv 2) (pa_cons (pe_op op_add (pv 2) (pv 3)) pa_nil))) (pa_cons (pe_make T.mk_Money G_c_Kind___init (hr.mono (by decide)) rfl T.m_Money T.b_c_Kind___init .nil pass0 (pa_cons (pv 2) (pa_cons (pe_op op_add (pv 2) (pv 3)) pa_nil))) (pa_cons (pe_make T.mk_Pick G_c_Pick___init (hr.mono (by decide)) rfl T.m_Pick T.b_c_Pick___init .nil pass0 (pa_cons (pv 4) pa_nil)) (pa_cons (pe_make T.mk_Names G_c_Names___init (hr.mono (by decide)) rfl T.m_Names T.b_c_Names___init .nil pass0 (pa_cons (pe_op op_add pe_int (pe_op op_mod (pe_op op_fdiv (pv 1) pe_int) pe_int)) pa_nil)) pa_nil)))))))))))), ?_⟩
  refine ⟨_, rfl, a, ns, 0, rfl, hS, by decide, hb, fun c0 hc0 => ?_⟩
  refine ⟨_, rfl, a, ns, 1, rfl, hS, by decide, hb, fun c1 hc1 => ⟨c1, rfl, hc1, fun lo H1 l0 l1 s1 => ?_⟩⟩
  refine ⟨_, rfl, a, ns, 2, rfl, s1.seq hS, by decide, hb, fun c2 hc2 => ⟨c2, rfl, hc2, fun sz H2 z0 z1 s2 => ?_⟩⟩
  have s12 := s1.trans s2
  have m0 : 0 ≤ c0 % 5 := Int.emod_nonneg _ (by decide)
  have m1 : c0 % 5 < 5 := Int.emod_lt_of_pos _ (by decide)
  obtain ⟨n, en⟩ : ∃ n : Nat, 2 + c0 % 5 = (n : Int) := ⟨(2 + c0 % 5).toNat, by omega⟩
  refine ⟨_, rfl, a, ns, 3, rfl, s12.seq hS, by decide, hb, fun c3 hc3 => ?_⟩
  refine ⟨_, rfl, _, _, rfl, rfl, (by show (0 : Int) < 5; decide), _, _, rfl, rfl, ?_⟩
  refine ⟨c3, n, (by rw [← en]; rfl), by omega, hc3, fun pw ws H3 hw s3 hpw => ?_⟩
  have p60 : (10 : Nat) ^ 59 + 10 ^ 59 < 10 ^ 60 := by decide +kernel
  have e59 : ((10 ^ 59 : Nat) : Int) = (10 : Int) ^ 59 := by simp
  have gw : (KU.wh lo (lo + sz)).Good := ⟨by omega, by omega, by omega⟩
  have gm : (KU.mo lo (lo + sz)).Good := ⟨by omega, by omega, by omega⟩
  have gp : (KU.pk ws).Good := ⟨⟨hw.2.1, fun z hz => (hw.2.2 z hz).1⟩, by rw [hw.1]; omega, by rw [hw.1]; omega⟩
  -- yesno
  refine fun p0 d0 hp0 hd0 _ => ⟨p0, d0, rfl, upd_same, rfl, ?_⟩
  obtain ⟨G0, e0, t0, k0⟩ := newO (C := A.c_YesNo) (fs := flds 0 1) hp0 hd0
  rw [e0]
  -- whole
  refine ⟨_, rfl, _, rfl, _, rfl, _, _, rfl, rfl, fun p1 d1 hp1 hd1 _ => ⟨p1, A.c_Whole, d1, lo, lo + sz, rfl, upd_same, T.cl_Whole, T.no_Whole_low, T.no_Whole_high, rfl, ?_⟩⟩
  obtain ⟨G1, e1, t1, k1⟩ := newO (C := A.c_Whole) (fs := flds lo (lo + sz)) hp1 hd1
  rw [e1]
  -- money
  refine ⟨_, rfl, _, rfl, _, rfl, _, _, rfl, rfl, fun p2 d2 hp2 hd2 _ => ⟨p2, A.c_Money, d2, lo, lo + sz, rfl, upd_same, T.cl_Money, T.no_Money_low, T.no_Money_high, rfl, ?_⟩⟩
  obtain ⟨G2, e2, t2, k2⟩ := newO (C := A.c_Money) (fs := flds lo (lo + sz)) hp2 hd2
  rw [e2]
  -- pick
  have t02 := t0.trans (t1.trans t2)
  have hpw2 := t02 _ _ hpw
  refine ⟨_, rfl, fun p3 d3 hp3 hd3 _ => ?_⟩
  have n1 : pw ≠ p3 := ne_of_none hpw2 hp3
  have n2 : pw ≠ d3 := ne_of_none hpw2 hd3
  refine ⟨p3, d3, pw, ws, rfl, upd_same, (by rw [upd_ne n1, upd_ne n2]; exact hpw2), fun pq G3 h1 h2 h3 => ⟨rfl, ?_⟩⟩
  have t3 : Same G2 G3 := fun b o hb => by
    have b1 : b ≠ p3 := ne_of_none hb hp3
    have b2 : b ≠ d3 := ne_of_none hb hd3
    exact h1 b o b1 (by rw [upd_ne b1, upd_ne b2]; exact hb)
  -- names
  have m2 : 0 ≤ c0 / 5 % 6 := Int.emod_nonneg _ (by decide)
  have m3 : c0 / 5 % 6 < 6 := Int.emod_lt_of_pos _ (by decide)
  obtain ⟨m, em⟩ : ∃ m : Nat, 1 + c0 / 5 % 6 = (m : Int) := ⟨(1 + c0 / 5 % 6).toNat, by omega⟩
  refine ⟨_, rfl, _, _, rfl, rfl, ⟨by decide, by decide⟩, _, _, rfl, rfl, (by show (0 : Int) < 6; decide), _, _, rfl, rfl, fun p4 d4 hp4 hd4 _ => ⟨p4, d4, _, rfl, upd_same, rfl, ?_⟩⟩
  dsimp only
  rw [em]
  obtain ⟨G4, e4, t4, k4⟩ := newO (C := A.c_Names) (fs := N.flds (m : Nat)) hp4 hd4
  rw [e4]
  refine ⟨(by show 5 ≤ sizeLine; decide), fun pl hpl => ?_⟩
  have t5 := same_new hpl (.lst [.ref p0, .ref p1, .ref p2, .ref p3, .ref p4])
  have t45 := t4.trans t5
  have t35 := t3.trans t45
  have t25 := t2.trans t35
  have t15 := t1.trans t25
  refine q pl [p0, p1, p2, p3, p4] (five lo (lo + sz) ws m) _ (s12.trans (s3.trans (t0.trans t15))) upd_same rfl fun j hj => ?_
  match j, hj with
  | 0, _ => exact ⟨p0, .yn, rfl, rfl, trivial, ⟨d0, _, t15 _ _ k0, rfl⟩, fun e => (by cases e), fun _ => rfl⟩
  | 1, _ => exact ⟨p1, _, rfl, rfl, gw, ⟨d1, _, t25 _ _ k1, rfl⟩, fun e => (by cases e), fun e => (by cases e)⟩
  | 2, _ => exact ⟨p2, _, rfl, rfl, gm, ⟨d2, _, t35 _ _ k2, rfl⟩, fun e => (by cases e), fun e => (by cases e)⟩
  | 3, _ => exact ⟨p3, _, rfl, rfl, gp, ⟨d3, _, t45 _ _ h2, pq, rfl, t45 _ _ h3⟩, fun e => (by cases e), fun e => (by cases e)⟩
  | 4, _ => exact ⟨p4, _, rfl, rfl, (by show m ≤ 6; omega), ⟨d4, _, t5 _ _ k4, rfl⟩, fun _ => trivial, fun e => (by cases e)⟩
  | n + 5, h => exact absurd h (by omega)
abbrev GK := {ku : KU // ku.Good}
theorem ok_law (T : Txt K mg A) : FnOk P w K mg base CX0 9 A.f_law A.d_law ["_law_script"] (sp_law K) := by
  have G_law_cell_at := ok_law_cell_at (P := P) (w := w) (base := base) T
  have G_law_kinds := ok_law_kinds (P := P) (w := w) (base := base) T
  have G_law_answer := FnOk.ex (ι := GK) (fun i => ok_law_answer (P := P) (w := w) (base := base) T i.2)
  have G_law_all := FnOk.ex (ι := GK) (fun i => ok_law_all (P := P) (w := w) (base := base) T i.2)
  refine T.F_law.ok sc_law (fun vs H Q E h => ?_) (fun cdv A0 outer s H vs Q E hr h => ?_)
  · obtain ⟨a, ns, rfl, _⟩ := h
    rfl
  obtain ⟨a, ns, rfl, hS, hlen, hbits, q⟩ := h
  refine ⟨_, (pss_cons (ps_set (i := 1) sc_law.nd rfl (by first | exact Or.inl rfl | exact Or.inr rfl) (pe_call G_law_kinds (hr.mono (by decide)) rfl T.m_law_kinds T.k_law_kinds T.b_law_kinds .nil pass0 (pa_cons (pv 0) pa_nil)))
      (pss_cons (ps_forR PassesOwn.never rfl (pi_list (pe_slice sl_list (pv 0) (po_some pe_int) (po_some pe_int))) (pg_name (i := 2) sc_law.nd rfl (by first | exact Or.inl rfl | exact Or.inr rfl)) (pss_cons (ps_set (i := 3) sc_law.nd rfl (by first | exact Or.inl rfl | exact Or.inr rfl) (pe_op op_mod (pv 2) pe_int))
      (pss_one (ps_if (pt_not (pt_val (pe_call G_law_all (hr.mono (by decide)) rfl T.m_law_all T.k_law_all T.b_law_all .nil pass0 (pa_cons (pe_ix ix_list (pv 1) (pv 3) (fun _ _ => rfl)) (pa_cons (pe_call G_law_answer (hr.mono (by decide)) rfl T.m_law_answer T.k_law_answer T.b_law_answer .nil pass0 (pa_cons (pe_ix ix_list (pv 1) (pv 3) (fun _ _ => rfl)) (pa_cons (pv 3) (pa_cons (pe_op op_fdiv (pv 2) pe_int) pa_nil)))) (pa_cons (pe_op op_fdiv (pv 2) pe_int) pa_nil)))))) (pss_one (ps_ret pe_bl)) pss_nil))))
      (pss_one (ps_ret (pe_call G_law_all (hr.mono (by decide)) rfl T.m_law_all T.k_law_all T.b_law_all .nil pass0 (pa_cons (pe_ix ix_list (pv 1) pe_int (fun _ _ => rfl)) (pa_cons pe_bl (pa_cons (pe_call G_law_cell_at (hr.mono (by decide)) rfl T.m_law_cell_at T.k_law_cell_at T.b_law_cell_at .nil pass0 (pa_cons (pv 0) (pa_cons pe_int pa_nil))) pa_nil)))))))), ?_⟩
  refine ⟨_, rfl, a, ns, rfl, hS, hbits, fun pl ps ks H1 s1 hpl hps hk => ?_⟩
  refine ⟨_, rfl, _, rfl, _, rfl, a, _, rfl, s1.seq hS, fun pc hpc => ?_⟩
  obtain ⟨ms, em, hm, _⟩ := cutV_map V.int ns (some 4) (some 63)
  rw [em]
  refine ⟨pc, rfl, ⟨_, SqL.of upd_same⟩, ?_⟩
  have sB := same_new hpc (.lst (ms.map V.int))
  refine for_listR (xs := ms.map V.int) (fun i σ H' => Same (upd H1 pc (.lst (ms.map V.int))) H' ∧ ∃ u v, σ = [some (.ref a), some (.ref pl), u, v]) ⟨Same.refl _, _, _, rfl⟩ (fun i σ H' _ hp => SqL.of (hp.1 _ _ upd_same)) (fun i x σ H' hx hq => ?_) (fun σ H' hq => ?_)
  · obtain ⟨sH, u, v, rfl⟩ := hq
    obtain ⟨c, hc, rfl⟩ := map_get hx
    have hbc := hbits c (hm c (List.mem_of_getElem? hc))
    have c0 : 0 ≤ c % 5 := Int.emod_nonneg _ (by decide)
    have c1 : c % 5 < 5 := Int.emod_lt_of_pos _ (by decide)
    obtain ⟨j, ej⟩ : ∃ j : Nat, c % 5 = (j : Int) := ⟨(c % 5).toNat, by omega⟩
    obtain ⟨p, ku, e1, e2, gk, hst, h4, _⟩ := hk j (by omega)
    have sC := sB.trans sH
    have hat : atI (ps.map V.ref) (c % 5) = some (.ref p) := by rw [ej]; exact atI_nat (by rw [List.getElem?_map, e1]; rfl)
    refine ⟨_, rfl, _, _, rfl, rfl, (by show (0 : Int) < 5; decide), ?_⟩
    refine ⟨_, rfl, _, rfl, pl, _, _, _, rfl, rfl, SqL.of (sC _ _ hpl), hat, ?_⟩
    refine ⟨_, rfl, _, rfl, pl, _, _, _, rfl, rfl, SqL.of (sC _ _ hpl), hat, _, rfl, _, rfl, _, _, rfl, rfl, ⟨by decide, by decide⟩, ?_⟩
    refine ⟨⟨ku, gk⟩, p, _, _, rfl, hst.same sC, fun e => h4 (by omega), ib_div (by decide) hbc, fun x2 av H2 s2 hx2 hf => ?_⟩
    refine ⟨_, rfl, _, _, rfl, rfl, ⟨by decide, by decide⟩, ?_⟩
    refine ⟨⟨ku, gk⟩, p, x2, av, _, rfl, (hst.same sC).same s2, hx2, hf, fun H3 s3 => ⟨_, rfl, iteF ?_⟩⟩
    exact ⟨sH.trans (s2.trans s3), _, _, rfl⟩
  · obtain ⟨sH, u, v, rfl⟩ := hq
    have sC := sB.trans sH
    obtain ⟨p, ku, e1, e2, gk, hst, _, h0⟩ := hk 0 (by decide)
    have hky := h0 rfl
    subst hky
    have hat0 : atI (ps.map V.ref) ((0 : Nat) : Int) = some (V.ref p) := atI_nat (by rw [List.getElem?_map, e1]; rfl)
    refine ⟨_, rfl, pl, _, _, _, rfl, rfl, SqL.of (sC _ _ hpl), hat0, ?_⟩
    refine ⟨_, rfl, a, ns, 1, rfl, (s1.trans sC).seq hS, by decide, hbits, fun c1 hc1 => ?_⟩
    exact ⟨⟨.yn, trivial⟩, p, _, .b true, c1, rfl, hst.same sC, rfl, rfl, fun H3 s3 => q _⟩
end
end K08
set_option maxHeartbeats 4000000
namespace K08
open PySem L2
theorem txt_mk {K : PySem.W.Frag} {h : Heap} {mg : Str → Option Value} (X : K.In h) (G : h.Ns mainGlobals mg)
  {f0 : Addr} {od0 an0 : Option Addr} {sl0 : Array (Option Value)} {oc0 kV0 dc0 pm0 cd0 ct0 : Value}
  {f1 : Addr} {od1 an1 : Option Addr} {sl1 : Array (Option Value)} {oc1 kV1 dc1 pm1 cd1 ct1 : Value}
  {f2 : Addr} {od2 an2 : Option Addr} {sl2 : Array (Option Value)} {oc2 kV2 dc2 pm2 cd2 ct2 : Value}
  {f3 : Addr} {od3 an3 : Option Addr} {sl3 : Array (Option Value)} {oc3 kV3 dc3 pm3 cd3 ct3 : Value}
  {f4 : Addr} {od4 an4 : Option Addr} {sl4 : Array (Option Value)} {oc4 kV4 dc4 pm4 cd4 ct4 : Value}
  {f5 : Addr} {od5 an5 : Option Addr} {sl5 : Array (Option Value)} {oc5 kV5 dc5 pm5 cd5 ct5 : Value}
  {dT5 : Addr} {dD5 : Option Addr} {dN5 : Nat} {dS5 : Array (Option Value)} {dt5_0 : Tok}
  {f6 : Addr} {od6 an6 : Option Addr} {sl6 : Array (Option Value)} {oc6 kV6 dc6 pm6 cd6 ct6 : Value}
  {f7 : Addr} {od7 an7 : Option Addr} {sl7 : Array (Option Value)} {oc7 kV7 dc7 pm7 cd7 ct7 : Value}
  {f8 : Addr} {od8 an8 : Option Addr} {sl8 : Array (Option Value)} {oc8 kV8 dc8 pm8 cd8 ct8 : Value}
  {f9 : Addr} {od9 an9 : Option Addr} {sl9 : Array (Option Value)} {oc9 kV9 dc9 pm9 cd9 ct9 : Value}
  {f10 : Addr} {od10 an10 : Option Addr} {sl10 : Array (Option Value)} {oc10 kV10 dc10 pm10 cd10 ct10 : Value}
  {f11 : Addr} {od11 an11 : Option Addr} {sl11 : Array (Option Value)} {oc11 kV11 dc11 pm11 cd11 ct11 : Value}
  {f12 : Addr} {od12 an12 : Option Addr} {sl12 : Array (Option Value)} {oc12 kV12 dc12 pm12 cd12 ct12 : Value}
  {f13 : Addr} {od13 an13 : Option Addr} {sl13 : Array (Option Value)} {oc13 kV13 dc13 pm13 cd13 ct13 : Value}
  {f14 : Addr} {od14 an14 : Option Addr} {sl14 : Array (Option Value)} {oc14 kV14 dc14 pm14 cd14 ct14 : Value}
  {f15 : Addr} {od15 an15 : Option Addr} {sl15 : Array (Option Value)} {oc15 kV15 dc15 pm15 cd15 ct15 : Value}
  {f16 : Addr} {od16 an16 : Option Addr} {sl16 : Array (Option Value)} {oc16 kV16 dc16 pm16 cd16 ct16 : Value}
  {f17 : Addr} {od17 an17 : Option Addr} {sl17 : Array (Option Value)} {oc17 kV17 dc17 pm17 cd17 ct17 : Value}
  {f18 : Addr} {od18 an18 : Option Addr} {sl18 : Array (Option Value)} {oc18 kV18 dc18 pm18 cd18 ct18 : Value}
  {f19 : Addr} {od19 an19 : Option Addr} {sl19 : Array (Option Value)} {oc19 kV19 dc19 pm19 cd19 ct19 : Value}
  {f20 : Addr} {od20 an20 : Option Addr} {sl20 : Array (Option Value)} {oc20 kV20 dc20 pm20 cd20 ct20 : Value}
  {f21 : Addr} {od21 an21 : Option Addr} {sl21 : Array (Option Value)} {oc21 kV21 dc21 pm21 cd21 ct21 : Value}
  {f22 : Addr} {od22 an22 : Option Addr} {sl22 : Array (Option Value)} {oc22 kV22 dc22 pm22 cd22 ct22 : Value}
  {f23 : Addr} {od23 an23 : Option Addr} {sl23 : Array (Option Value)} {oc23 kV23 dc23 pm23 cd23 ct23 : Value}
  {f24 : Addr} {od24 an24 : Option Addr} {sl24 : Array (Option Value)} {oc24 kV24 dc24 pm24 cd24 ct24 : Value}
  {f25 : Addr} {od25 an25 : Option Addr} {sl25 : Array (Option Value)} {oc25 kV25 dc25 pm25 cd25 ct25 : Value}
  {f26 : Addr} {od26 an26 : Option Addr} {sl26 : Array (Option Value)} {oc26 kV26 dc26 pm26 cd26 ct26 : Value}
  {f27 : Addr} {od27 an27 : Option Addr} {sl27 : Array (Option Value)} {oc27 kV27 dc27 pm27 cd27 ct27 : Value}
  {f28 : Addr} {od28 an28 : Option Addr} {sl28 : Array (Option Value)} {oc28 kV28 dc28 pm28 cd28 ct28 : Value}
  {f29 : Addr} {od29 an29 : Option Addr} {sl29 : Array (Option Value)} {oc29 kV29 dc29 pm29 cd29 ct29 : Value}
  {f30 : Addr} {od30 an30 : Option Addr} {sl30 : Array (Option Value)} {oc30 kV30 dc30 pm30 cd30 ct30 : Value}
  {dT30 : Addr} {dD30 : Option Addr} {dN30 : Nat} {dS30 : Array (Option Value)} {dt30_0 : Tok}
  {f31 : Addr} {od31 an31 : Option Addr} {sl31 : Array (Option Value)} {oc31 kV31 dc31 pm31 cd31 ct31 : Value}
  {f32 : Addr} {od32 an32 : Option Addr} {sl32 : Array (Option Value)} {oc32 kV32 dc32 pm32 cd32 ct32 : Value}
  {f33 : Addr} {od33 an33 : Option Addr} {sl33 : Array (Option Value)} {oc33 kV33 dc33 pm33 cd33 ct33 : Value}
  {f34 : Addr} {od34 an34 : Option Addr} {sl34 : Array (Option Value)} {oc34 kV34 dc34 pm34 cd34 ct34 : Value}
  {f35 : Addr} {od35 an35 : Option Addr} {sl35 : Array (Option Value)} {oc35 kV35 dc35 pm35 cd35 ct35 : Value}
  {f36 : Addr} {od36 an36 : Option Addr} {sl36 : Array (Option Value)} {oc36 kV36 dc36 pm36 cd36 ct36 : Value}
  {f37 : Addr} {od37 an37 : Option Addr} {sl37 : Array (Option Value)} {oc37 kV37 dc37 pm37 cd37 ct37 : Value}
  {f38 : Addr} {od38 an38 : Option Addr} {sl38 : Array (Option Value)} {oc38 kV38 dc38 pm38 cd38 ct38 : Value}
  {f39 : Addr} {od39 an39 : Option Addr} {sl39 : Array (Option Value)} {oc39 kV39 dc39 pm39 cd39 ct39 : Value}
  {f40 : Addr} {od40 an40 : Option Addr} {sl40 : Array (Option Value)} {oc40 kV40 dc40 pm40 cd40 ct40 : Value}
  {f41 : Addr} {od41 an41 : Option Addr} {sl41 : Array (Option Value)} {oc41 kV41 dc41 pm41 cd41 ct41 : Value}
  {f42 : Addr} {od42 an42 : Option Addr} {sl42 : Array (Option Value)} {oc42 kV42 dc42 pm42 cd42 ct42 : Value}
  {f43 : Addr} {od43 an43 : Option Addr} {sl43 : Array (Option Value)} {oc43 kV43 dc43 pm43 cd43 ct43 : Value}
  {f44 : Addr} {od44 an44 : Option Addr} {sl44 : Array (Option Value)} {oc44 kV44 dc44 pm44 cd44 ct44 : Value}
  {f45 : Addr} {od45 an45 : Option Addr} {sl45 : Array (Option Value)} {oc45 kV45 dc45 pm45 cd45 ct45 : Value}
  {f46 : Addr} {od46 an46 : Option Addr} {sl46 : Array (Option Value)} {oc46 kV46 dc46 pm46 cd46 ct46 : Value}
  {f47 : Addr} {od47 an47 : Option Addr} {sl47 : Array (Option Value)} {oc47 kV47 dc47 pm47 cd47 ct47 : Value}
  {f48 : Addr} {od48 an48 : Option Addr} {sl48 : Array (Option Value)} {oc48 kV48 dc48 pm48 cd48 ct48 : Value}
  {f49 : Addr} {od49 an49 : Option Addr} {sl49 : Array (Option Value)} {oc49 kV49 dc49 pm49 cd49 ct49 : Value}
  {f50 : Addr} {od50 an50 : Option Addr} {sl50 : Array (Option Value)} {oc50 kV50 dc50 pm50 cd50 ct50 : Value}
  {f51 : Addr} {od51 an51 : Option Addr} {sl51 : Array (Option Value)} {oc51 kV51 dc51 pm51 cd51 ct51 : Value}
  {gt0 : Tok}
  {gt1 : Tok}
  {gt2 : Tok}
  {gt3 : Tok}
  {ga4 : Addr} {go4 : Value} {gd4 : Option Addr} {gn4 : Nat} {gi4 : Array Value} {gs4 : Array (Option Value)}
  {ga5 : Addr} {go5 : Value} {gd5 : Option Addr} {gn5 : Nat} {gi5 : Array Value} {gs5 : Array (Option Value)}
  {ga6 : Addr} {go6 : Value} {gd6 : Option Addr} {gn6 : Nat} {ge6 : Array DictEntry} {gs6 : Array (Option Value)}
  {k_Kind : Addr}
  {k_Money : Addr}
  {k_Names : Addr}
  {k_NoAnswer : Addr}
  {kd_NoAnswer : ClassData}
  {k_NoNumber : Addr}
  {kd_NoNumber : ClassData}
  {k_Pick : Addr}
  {k_Whole : Addr}
  {k_YesNo : Addr}
  (na_Kind : PySem.W.nsIn K mainGlobals "Kind" = some (some (.ref k_Kind)))
  (na_Money : PySem.W.nsIn K mainGlobals "Money" = some (some (.ref k_Money)))
  (na_Names : PySem.W.nsIn K mainGlobals "Names" = some (some (.ref k_Names)))
  (na_NoAnswer : PySem.W.nsIn K mainGlobals "NoAnswer" = some (some (.ref k_NoAnswer)))
  (na_NoNumber : PySem.W.nsIn K mainGlobals "NoNumber" = some (some (.ref k_NoNumber)))
  (na_Pick : PySem.W.nsIn K mainGlobals "Pick" = some (some (.ref k_Pick)))
  (na_Whole : PySem.W.nsIn K mainGlobals "Whole" = some (some (.ref k_Whole)))
  (na_YesNo : PySem.W.nsIn K mainGlobals "YesNo" = some (some (.ref k_YesNo)))
  (a0 : PySem.W.nsIn K mainGlobals "is_whole" = some (some (.ref f0)))
  (l0 : K.lookup f0 = some ⟨oc0, od0, .func (PySem.W.fnOf "is_whole" "is_whole" (defArgs s_is_whole) (defBody s_is_whole) (defScope s_is_whole) .none kV0 dc0 pm0 an0 cd0 ct0), sl0⟩)
  (c0 : PySem.W.codeIn K cd0 "is_whole" = true)
  (k0 : PySem.W.keepIn K (.ref f0) = true)
  (a1 : PySem.W.nsIn K mainGlobals "is_name" = some (some (.ref f1)))
  (l1 : K.lookup f1 = some ⟨oc1, od1, .func (PySem.W.fnOf "is_name" "is_name" (defArgs s_is_name) (defBody s_is_name) (defScope s_is_name) .none kV1 dc1 pm1 an1 cd1 ct1), sl1⟩)
  (c1 : PySem.W.codeIn K cd1 "is_name" = true)
  (k1 : PySem.W.keepIn K (.ref f1) = true)
  (a2 : PySem.W.nsIn K mainGlobals "are_unlike_names" = some (some (.ref f2)))
  (l2 : K.lookup f2 = some ⟨oc2, od2, .func (PySem.W.fnOf "are_unlike_names" "are_unlike_names" (defArgs s_are_unlike_names) (defBody s_are_unlike_names) (defScope s_are_unlike_names) .none kV2 dc2 pm2 an2 cd2 ct2), sl2⟩)
  (c2 : PySem.W.codeIn K cd2 "are_unlike_names" = true)
  (k2 : PySem.W.keepIn K (.ref f2) = true)
  (a3 : PySem.W.nsIn K mainGlobals "are_figures" = some (some (.ref f3)))
  (l3 : K.lookup f3 = some ⟨oc3, od3, .func (PySem.W.fnOf "are_figures" "are_figures" (defArgs s_are_figures) (defBody s_are_figures) (defScope s_are_figures) .none kV3 dc3 pm3 an3 cd3 ct3), sl3⟩)
  (c3 : PySem.W.codeIn K cd3 "are_figures" = true)
  (k3 : PySem.W.keepIn K (.ref f3) = true)
  (a4 : PySem.W.nsIn K mainGlobals "figures_worth" = some (some (.ref f4)))
  (l4 : K.lookup f4 = some ⟨oc4, od4, .func (PySem.W.fnOf "figures_worth" "figures_worth" (defArgs s_figures_worth) (defBody s_figures_worth) (defScope s_figures_worth) .none kV4 dc4 pm4 an4 cd4 ct4), sl4⟩)
  (c4 : PySem.W.codeIn K cd4 "figures_worth" = true)
  (k4 : PySem.W.keepIn K (.ref f4) = true)
  (a5 : PySem.W.nsIn K mainGlobals "number_of" = some (some (.ref f5)))
  (l5 : K.lookup f5 = some ⟨oc5, od5, .func (PySem.W.fnOf "number_of" "number_of" (defArgs s_number_of) (defBody s_number_of) (defScope s_number_of) (.ref dT5) kV5 dc5 pm5 an5 cd5 ct5), sl5⟩)
  (c5 : PySem.W.codeIn K cd5 "number_of" = true)
  (k5 : PySem.W.keepIn K (.ref f5) = true)
  (dl5 : K.lookup dT5 = some ⟨.type "tuple", dD5, .seq ([(.int 60 dt5_0)] : List Value).toArray dN5, dS5⟩)
  (a6 : PySem.W.nsIn K mainGlobals "number_or_none" = some (some (.ref f6)))
  (l6 : K.lookup f6 = some ⟨oc6, od6, .func (PySem.W.fnOf "number_or_none" "number_or_none" (defArgs s_number_or_none) (defBody s_number_or_none) (defScope s_number_or_none) .none kV6 dc6 pm6 an6 cd6 ct6), sl6⟩)
  (c6 : PySem.W.codeIn K cd6 "number_or_none" = true)
  (k6 : PySem.W.keepIn K (.ref f6) = true)
  (a7 : PySem.W.nsIn K mainGlobals "money_shown" = some (some (.ref f7)))
  (l7 : K.lookup f7 = some ⟨oc7, od7, .func (PySem.W.fnOf "money_shown" "money_shown" (defArgs s_money_shown) (defBody s_money_shown) (defScope s_money_shown) .none kV7 dc7 pm7 an7 cd7 ct7), sl7⟩)
  (c7 : PySem.W.codeIn K cd7 "money_shown" = true)
  (k7 : PySem.W.keepIn K (.ref f7) = true)
  (a8 : PySem.W.nsIn K mainGlobals "money_or_none" = some (some (.ref f8)))
  (l8 : K.lookup f8 = some ⟨oc8, od8, .func (PySem.W.fnOf "money_or_none" "money_or_none" (defArgs s_money_or_none) (defBody s_money_or_none) (defScope s_money_or_none) .none kV8 dc8 pm8 an8 cd8 ct8), sl8⟩)
  (c8 : PySem.W.codeIn K cd8 "money_or_none" = true)
  (k8 : PySem.W.keepIn K (.ref f8) = true)
  (a9 : PySem.W.findIn K (.ref k_Kind) "__init__" = some (some (.ref f9)))
  (l9 : K.lookup f9 = some ⟨oc9, od9, .func (PySem.W.fnOf "__init__" "Kind.__init__" (defArgs s_c_Kind___init) (defBody s_c_Kind___init) (defScope s_c_Kind___init) .none kV9 dc9 pm9 an9 cd9 ct9), sl9⟩)
  (c9 : PySem.W.codeIn K cd9 "Kind.__init__" = true)
  (k9 : PySem.W.keepIn K (.ref f9) = true)
  (a10 : PySem.W.findIn K (.ref k_Kind) "read" = some (some (.ref f10)))
  (l10 : K.lookup f10 = some ⟨oc10, od10, .func (PySem.W.fnOf "read" "Kind.read" (defArgs s_c_Kind_read) (defBody s_c_Kind_read) (defScope s_c_Kind_read) .none kV10 dc10 pm10 an10 cd10 ct10), sl10⟩)
  (c10 : PySem.W.codeIn K cd10 "Kind.read" = true)
  (k10 : PySem.W.keepIn K (.ref f10) = true)
  (a11 : PySem.W.findIn K (.ref k_YesNo) "__init__" = some (some (.ref f11)))
  (l11 : K.lookup f11 = some ⟨oc11, od11, .func (PySem.W.fnOf "__init__" "YesNo.__init__" (defArgs s_c_YesNo___init) (defBody s_c_YesNo___init) (defScope s_c_YesNo___init) .none kV11 dc11 pm11 an11 cd11 ct11), sl11⟩)
  (c11 : PySem.W.codeIn K cd11 "YesNo.__init__" = true)
  (k11 : PySem.W.keepIn K (.ref f11) = true)
  (a12 : PySem.W.findIn K (.ref k_YesNo) "fits" = some (some (.ref f12)))
  (l12 : K.lookup f12 = some ⟨oc12, od12, .func (PySem.W.fnOf "fits" "YesNo.fits" (defArgs s_c_YesNo_fits) (defBody s_c_YesNo_fits) (defScope s_c_YesNo_fits) .none kV12 dc12 pm12 an12 cd12 ct12), sl12⟩)
  (c12 : PySem.W.codeIn K cd12 "YesNo.fits" = true)
  (k12 : PySem.W.keepIn K (.ref f12) = true)
  (a13 : PySem.W.findIn K (.ref k_YesNo) "answer_of" = some (some (.ref f13)))
  (l13 : K.lookup f13 = some ⟨oc13, od13, .func (PySem.W.fnOf "answer_of" "YesNo.answer_of" (defArgs s_c_YesNo_answer_of) (defBody s_c_YesNo_answer_of) (defScope s_c_YesNo_answer_of) .none kV13 dc13 pm13 an13 cd13 ct13), sl13⟩)
  (c13 : PySem.W.codeIn K cd13 "YesNo.answer_of" = true)
  (k13 : PySem.W.keepIn K (.ref f13) = true)
  (a14 : PySem.W.findIn K (.ref k_YesNo) "shown" = some (some (.ref f14)))
  (l14 : K.lookup f14 = some ⟨oc14, od14, .func (PySem.W.fnOf "shown" "YesNo.shown" (defArgs s_c_YesNo_shown) (defBody s_c_YesNo_shown) (defScope s_c_YesNo_shown) .none kV14 dc14 pm14 an14 cd14 ct14), sl14⟩)
  (c14 : PySem.W.codeIn K cd14 "YesNo.shown" = true)
  (k14 : PySem.W.keepIn K (.ref f14) = true)
  (a15 : PySem.W.findIn K (.ref k_YesNo) "rank" = some (some (.ref f15)))
  (l15 : K.lookup f15 = some ⟨oc15, od15, .func (PySem.W.fnOf "rank" "YesNo.rank" (defArgs s_c_YesNo_rank) (defBody s_c_YesNo_rank) (defScope s_c_YesNo_rank) .none kV15 dc15 pm15 an15 cd15 ct15), sl15⟩)
  (c15 : PySem.W.codeIn K cd15 "YesNo.rank" = true)
  (k15 : PySem.W.keepIn K (.ref f15) = true)
  (a16 : PySem.W.findIn K (.ref k_YesNo) "sample" = some (some (.ref f16)))
  (l16 : K.lookup f16 = some ⟨oc16, od16, .func (PySem.W.fnOf "sample" "YesNo.sample" (defArgs s_c_YesNo_sample) (defBody s_c_YesNo_sample) (defScope s_c_YesNo_sample) .none kV16 dc16 pm16 an16 cd16 ct16), sl16⟩)
  (c16 : PySem.W.codeIn K cd16 "YesNo.sample" = true)
  (k16 : PySem.W.keepIn K (.ref f16) = true)
  (a17 : PySem.W.findIn K (.ref k_Whole) "fits" = some (some (.ref f17)))
  (l17 : K.lookup f17 = some ⟨oc17, od17, .func (PySem.W.fnOf "fits" "Whole.fits" (defArgs s_c_Whole_fits) (defBody s_c_Whole_fits) (defScope s_c_Whole_fits) .none kV17 dc17 pm17 an17 cd17 ct17), sl17⟩)
  (c17 : PySem.W.codeIn K cd17 "Whole.fits" = true)
  (k17 : PySem.W.keepIn K (.ref f17) = true)
  (a18 : PySem.W.findIn K (.ref k_Whole) "answer_of" = some (some (.ref f18)))
  (l18 : K.lookup f18 = some ⟨oc18, od18, .func (PySem.W.fnOf "answer_of" "Whole.answer_of" (defArgs s_c_Whole_answer_of) (defBody s_c_Whole_answer_of) (defScope s_c_Whole_answer_of) .none kV18 dc18 pm18 an18 cd18 ct18), sl18⟩)
  (c18 : PySem.W.codeIn K cd18 "Whole.answer_of" = true)
  (k18 : PySem.W.keepIn K (.ref f18) = true)
  (a19 : PySem.W.findIn K (.ref k_Whole) "shown" = some (some (.ref f19)))
  (l19 : K.lookup f19 = some ⟨oc19, od19, .func (PySem.W.fnOf "shown" "Whole.shown" (defArgs s_c_Whole_shown) (defBody s_c_Whole_shown) (defScope s_c_Whole_shown) .none kV19 dc19 pm19 an19 cd19 ct19), sl19⟩)
  (c19 : PySem.W.codeIn K cd19 "Whole.shown" = true)
  (k19 : PySem.W.keepIn K (.ref f19) = true)
  (a20 : PySem.W.findIn K (.ref k_Whole) "rank" = some (some (.ref f20)))
  (l20 : K.lookup f20 = some ⟨oc20, od20, .func (PySem.W.fnOf "rank" "Whole.rank" (defArgs s_c_Whole_rank) (defBody s_c_Whole_rank) (defScope s_c_Whole_rank) .none kV20 dc20 pm20 an20 cd20 ct20), sl20⟩)
  (c20 : PySem.W.codeIn K cd20 "Whole.rank" = true)
  (k20 : PySem.W.keepIn K (.ref f20) = true)
  (a21 : PySem.W.findIn K (.ref k_Whole) "sample" = some (some (.ref f21)))
  (l21 : K.lookup f21 = some ⟨oc21, od21, .func (PySem.W.fnOf "sample" "Whole.sample" (defArgs s_c_Whole_sample) (defBody s_c_Whole_sample) (defScope s_c_Whole_sample) .none kV21 dc21 pm21 an21 cd21 ct21), sl21⟩)
  (c21 : PySem.W.codeIn K cd21 "Whole.sample" = true)
  (k21 : PySem.W.keepIn K (.ref f21) = true)
  (a22 : PySem.W.findIn K (.ref k_Money) "answer_of" = some (some (.ref f22)))
  (l22 : K.lookup f22 = some ⟨oc22, od22, .func (PySem.W.fnOf "answer_of" "Money.answer_of" (defArgs s_c_Money_answer_of) (defBody s_c_Money_answer_of) (defScope s_c_Money_answer_of) .none kV22 dc22 pm22 an22 cd22 ct22), sl22⟩)
  (c22 : PySem.W.codeIn K cd22 "Money.answer_of" = true)
  (k22 : PySem.W.keepIn K (.ref f22) = true)
  (a23 : PySem.W.findIn K (.ref k_Money) "shown" = some (some (.ref f23)))
  (l23 : K.lookup f23 = some ⟨oc23, od23, .func (PySem.W.fnOf "shown" "Money.shown" (defArgs s_c_Money_shown) (defBody s_c_Money_shown) (defScope s_c_Money_shown) .none kV23 dc23 pm23 an23 cd23 ct23), sl23⟩)
  (c23 : PySem.W.codeIn K cd23 "Money.shown" = true)
  (k23 : PySem.W.keepIn K (.ref f23) = true)
  (a24 : PySem.W.findIn K (.ref k_Pick) "__init__" = some (some (.ref f24)))
  (l24 : K.lookup f24 = some ⟨oc24, od24, .func (PySem.W.fnOf "__init__" "Pick.__init__" (defArgs s_c_Pick___init) (defBody s_c_Pick___init) (defScope s_c_Pick___init) .none kV24 dc24 pm24 an24 cd24 ct24), sl24⟩)
  (c24 : PySem.W.codeIn K cd24 "Pick.__init__" = true)
  (k24 : PySem.W.keepIn K (.ref f24) = true)
  (a25 : PySem.W.findIn K (.ref k_Pick) "fits" = some (some (.ref f25)))
  (l25 : K.lookup f25 = some ⟨oc25, od25, .func (PySem.W.fnOf "fits" "Pick.fits" (defArgs s_c_Pick_fits) (defBody s_c_Pick_fits) (defScope s_c_Pick_fits) .none kV25 dc25 pm25 an25 cd25 ct25), sl25⟩)
  (c25 : PySem.W.codeIn K cd25 "Pick.fits" = true)
  (k25 : PySem.W.keepIn K (.ref f25) = true)
  (a26 : PySem.W.findIn K (.ref k_Pick) "answer_of" = some (some (.ref f26)))
  (l26 : K.lookup f26 = some ⟨oc26, od26, .func (PySem.W.fnOf "answer_of" "Pick.answer_of" (defArgs s_c_Pick_answer_of) (defBody s_c_Pick_answer_of) (defScope s_c_Pick_answer_of) .none kV26 dc26 pm26 an26 cd26 ct26), sl26⟩)
  (c26 : PySem.W.codeIn K cd26 "Pick.answer_of" = true)
  (k26 : PySem.W.keepIn K (.ref f26) = true)
  (a27 : PySem.W.findIn K (.ref k_Pick) "shown" = some (some (.ref f27)))
  (l27 : K.lookup f27 = some ⟨oc27, od27, .func (PySem.W.fnOf "shown" "Pick.shown" (defArgs s_c_Pick_shown) (defBody s_c_Pick_shown) (defScope s_c_Pick_shown) .none kV27 dc27 pm27 an27 cd27 ct27), sl27⟩)
  (c27 : PySem.W.codeIn K cd27 "Pick.shown" = true)
  (k27 : PySem.W.keepIn K (.ref f27) = true)
  (a28 : PySem.W.findIn K (.ref k_Pick) "rank" = some (some (.ref f28)))
  (l28 : K.lookup f28 = some ⟨oc28, od28, .func (PySem.W.fnOf "rank" "Pick.rank" (defArgs s_c_Pick_rank) (defBody s_c_Pick_rank) (defScope s_c_Pick_rank) .none kV28 dc28 pm28 an28 cd28 ct28), sl28⟩)
  (c28 : PySem.W.codeIn K cd28 "Pick.rank" = true)
  (k28 : PySem.W.keepIn K (.ref f28) = true)
  (a29 : PySem.W.findIn K (.ref k_Pick) "sample" = some (some (.ref f29)))
  (l29 : K.lookup f29 = some ⟨oc29, od29, .func (PySem.W.fnOf "sample" "Pick.sample" (defArgs s_c_Pick_sample) (defBody s_c_Pick_sample) (defScope s_c_Pick_sample) .none kV29 dc29 pm29 an29 cd29 ct29), sl29⟩)
  (c29 : PySem.W.codeIn K cd29 "Pick.sample" = true)
  (k29 : PySem.W.keepIn K (.ref f29) = true)
  (a30 : PySem.W.findIn K (.ref k_Names) "__init__" = some (some (.ref f30)))
  (l30 : K.lookup f30 = some ⟨oc30, od30, .func (PySem.W.fnOf "__init__" "Names.__init__" (defArgs s_c_Names___init) (defBody s_c_Names___init) (defScope s_c_Names___init) (.ref dT30) kV30 dc30 pm30 an30 cd30 ct30), sl30⟩)
  (c30 : PySem.W.codeIn K cd30 "Names.__init__" = true)
  (k30 : PySem.W.keepIn K (.ref f30) = true)
  (dl30 : K.lookup dT30 = some ⟨.type "tuple", dD30, .seq ([(.int 3 dt30_0)] : List Value).toArray dN30, dS30⟩)
  (a31 : PySem.W.findIn K (.ref k_Names) "fits" = some (some (.ref f31)))
  (l31 : K.lookup f31 = some ⟨oc31, od31, .func (PySem.W.fnOf "fits" "Names.fits" (defArgs s_c_Names_fits) (defBody s_c_Names_fits) (defScope s_c_Names_fits) .none kV31 dc31 pm31 an31 cd31 ct31), sl31⟩)
  (c31 : PySem.W.codeIn K cd31 "Names.fits" = true)
  (k31 : PySem.W.keepIn K (.ref f31) = true)
  (a32 : PySem.W.findIn K (.ref k_Names) "answer_of" = some (some (.ref f32)))
  (l32 : K.lookup f32 = some ⟨oc32, od32, .func (PySem.W.fnOf "answer_of" "Names.answer_of" (defArgs s_c_Names_answer_of) (defBody s_c_Names_answer_of) (defScope s_c_Names_answer_of) .none kV32 dc32 pm32 an32 cd32 ct32), sl32⟩)
  (c32 : PySem.W.codeIn K cd32 "Names.answer_of" = true)
  (k32 : PySem.W.keepIn K (.ref f32) = true)
  (a33 : PySem.W.findIn K (.ref k_Names) "shown" = some (some (.ref f33)))
  (l33 : K.lookup f33 = some ⟨oc33, od33, .func (PySem.W.fnOf "shown" "Names.shown" (defArgs s_c_Names_shown) (defBody s_c_Names_shown) (defScope s_c_Names_shown) .none kV33 dc33 pm33 an33 cd33 ct33), sl33⟩)
  (c33 : PySem.W.codeIn K cd33 "Names.shown" = true)
  (k33 : PySem.W.keepIn K (.ref f33) = true)
  (a34 : PySem.W.findIn K (.ref k_Names) "rank" = some (some (.ref f34)))
  (l34 : K.lookup f34 = some ⟨oc34, od34, .func (PySem.W.fnOf "rank" "Names.rank" (defArgs s_c_Names_rank) (defBody s_c_Names_rank) (defScope s_c_Names_rank) .none kV34 dc34 pm34 an34 cd34 ct34), sl34⟩)
  (c34 : PySem.W.codeIn K cd34 "Names.rank" = true)
  (k34 : PySem.W.keepIn K (.ref f34) = true)
  (a35 : PySem.W.findIn K (.ref k_Names) "sample" = some (some (.ref f35)))
  (l35 : K.lookup f35 = some ⟨oc35, od35, .func (PySem.W.fnOf "sample" "Names.sample" (defArgs s_c_Names_sample) (defBody s_c_Names_sample) (defScope s_c_Names_sample) .none kV35 dc35 pm35 an35 cd35 ct35), sl35⟩)
  (c35 : PySem.W.codeIn K cd35 "Names.sample" = true)
  (k35 : PySem.W.keepIn K (.ref f35) = true)
  (a36 : PySem.W.nsIn K mainGlobals "_law_cell_at" = some (some (.ref f36)))
  (l36 : K.lookup f36 = some ⟨oc36, od36, .func (PySem.W.fnOf "_law_cell_at" "_law_cell_at" (defArgs s_law_cell_at) (defBody s_law_cell_at) (defScope s_law_cell_at) .none kV36 dc36 pm36 an36 cd36 ct36), sl36⟩)
  (c36 : PySem.W.codeIn K cd36 "_law_cell_at" = true)
  (k36 : PySem.W.keepIn K (.ref f36) = true)
  (a37 : PySem.W.nsIn K mainGlobals "_law_whole" = some (some (.ref f37)))
  (l37 : K.lookup f37 = some ⟨oc37, od37, .func (PySem.W.fnOf "_law_whole" "_law_whole" (defArgs s_law_whole) (defBody s_law_whole) (defScope s_law_whole) .none kV37 dc37 pm37 an37 cd37 ct37), sl37⟩)
  (c37 : PySem.W.codeIn K cd37 "_law_whole" = true)
  (k37 : PySem.W.keepIn K (.ref f37) = true)
  (a38 : PySem.W.nsIn K mainGlobals "_law_letter" = some (some (.ref f38)))
  (l38 : K.lookup f38 = some ⟨oc38, od38, .func (PySem.W.fnOf "_law_letter" "_law_letter" (defArgs s_law_letter) (defBody s_law_letter) (defScope s_law_letter) .none kV38 dc38 pm38 an38 cd38 ct38), sl38⟩)
  (c38 : PySem.W.codeIn K cd38 "_law_letter" = true)
  (k38 : PySem.W.keepIn K (.ref f38) = true)
  (a39 : PySem.W.nsIn K mainGlobals "_law_sign_by" = some (some (.ref f39)))
  (l39 : K.lookup f39 = some ⟨oc39, od39, .func (PySem.W.fnOf "_law_sign_by" "_law_sign_by" (defArgs s_law_sign_by) (defBody s_law_sign_by) (defScope s_law_sign_by) .none kV39 dc39 pm39 an39 cd39 ct39), sl39⟩)
  (c39 : PySem.W.codeIn K cd39 "_law_sign_by" = true)
  (k39 : PySem.W.keepIn K (.ref f39) = true)
  (a40 : PySem.W.nsIn K mainGlobals "_law_wide" = some (some (.ref f40)))
  (l40 : K.lookup f40 = some ⟨oc40, od40, .func (PySem.W.fnOf "_law_wide" "_law_wide" (defArgs s_law_wide) (defBody s_law_wide) (defScope s_law_wide) .none kV40 dc40 pm40 an40 cd40 ct40), sl40⟩)
  (c40 : PySem.W.codeIn K cd40 "_law_wide" = true)
  (k40 : PySem.W.keepIn K (.ref f40) = true)
  (a41 : PySem.W.nsIn K mainGlobals "_law_low" = some (some (.ref f41)))
  (l41 : K.lookup f41 = some ⟨oc41, od41, .func (PySem.W.fnOf "_law_low" "_law_low" (defArgs s_law_low) (defBody s_law_low) (defScope s_law_low) .none kV41 dc41 pm41 an41 cd41 ct41), sl41⟩)
  (c41 : PySem.W.codeIn K cd41 "_law_low" = true)
  (k41 : PySem.W.keepIn K (.ref f41) = true)
  (a42 : PySem.W.nsIn K mainGlobals "_law_size" = some (some (.ref f42)))
  (l42 : K.lookup f42 = some ⟨oc42, od42, .func (PySem.W.fnOf "_law_size" "_law_size" (defArgs s_law_size) (defBody s_law_size) (defScope s_law_size) .none kV42 dc42 pm42 an42 cd42 ct42), sl42⟩)
  (c42 : PySem.W.codeIn K cd42 "_law_size" = true)
  (k42 : PySem.W.keepIn K (.ref f42) = true)
  (a43 : PySem.W.nsIn K mainGlobals "_law_words" = some (some (.ref f43)))
  (l43 : K.lookup f43 = some ⟨oc43, od43, .func (PySem.W.fnOf "_law_words" "_law_words" (defArgs s_law_words) (defBody s_law_words) (defScope s_law_words) .none kV43 dc43 pm43 an43 cd43 ct43), sl43⟩)
  (c43 : PySem.W.codeIn K cd43 "_law_words" = true)
  (k43 : PySem.W.keepIn K (.ref f43) = true)
  (a44 : PySem.W.nsIn K mainGlobals "_law_kinds" = some (some (.ref f44)))
  (l44 : K.lookup f44 = some ⟨oc44, od44, .func (PySem.W.fnOf "_law_kinds" "_law_kinds" (defArgs s_law_kinds) (defBody s_law_kinds) (defScope s_law_kinds) .none kV44 dc44 pm44 an44 cd44 ct44), sl44⟩)
  (c44 : PySem.W.codeIn K cd44 "_law_kinds" = true)
  (k44 : PySem.W.keepIn K (.ref f44) = true)
  (a45 : PySem.W.nsIn K mainGlobals "_law_answer" = some (some (.ref f45)))
  (l45 : K.lookup f45 = some ⟨oc45, od45, .func (PySem.W.fnOf "_law_answer" "_law_answer" (defArgs s_law_answer) (defBody s_law_answer) (defScope s_law_answer) .none kV45 dc45 pm45 an45 cd45 ct45), sl45⟩)
  (c45 : PySem.W.codeIn K cd45 "_law_answer" = true)
  (k45 : PySem.W.keepIn K (.ref f45) = true)
  (a46 : PySem.W.nsIn K mainGlobals "_law_spoilt" = some (some (.ref f46)))
  (l46 : K.lookup f46 = some ⟨oc46, od46, .func (PySem.W.fnOf "_law_spoilt" "_law_spoilt" (defArgs s_law_spoilt) (defBody s_law_spoilt) (defScope s_law_spoilt) .none kV46 dc46 pm46 an46 cd46 ct46), sl46⟩)
  (c46 : PySem.W.codeIn K cd46 "_law_spoilt" = true)
  (k46 : PySem.W.keepIn K (.ref f46) = true)
  (a47 : PySem.W.nsIn K mainGlobals "_law_bare" = some (some (.ref f47)))
  (l47 : K.lookup f47 = some ⟨oc47, od47, .func (PySem.W.fnOf "_law_bare" "_law_bare" (defArgs s_law_bare) (defBody s_law_bare) (defScope s_law_bare) .none kV47 dc47 pm47 an47 cd47 ct47), sl47⟩)
  (c47 : PySem.W.codeIn K cd47 "_law_bare" = true)
  (k47 : PySem.W.keepIn K (.ref f47) = true)
  (a48 : PySem.W.nsIn K mainGlobals "_law_read" = some (some (.ref f48)))
  (l48 : K.lookup f48 = some ⟨oc48, od48, .func (PySem.W.fnOf "_law_read" "_law_read" (defArgs s_law_read) (defBody s_law_read) (defScope s_law_read) .none kV48 dc48 pm48 an48 cd48 ct48), sl48⟩)
  (c48 : PySem.W.codeIn K cd48 "_law_read" = true)
  (k48 : PySem.W.keepIn K (.ref f48) = true)
  (a49 : PySem.W.nsIn K mainGlobals "_law_holds" = some (some (.ref f49)))
  (l49 : K.lookup f49 = some ⟨oc49, od49, .func (PySem.W.fnOf "_law_holds" "_law_holds" (defArgs s_law_holds) (defBody s_law_holds) (defScope s_law_holds) .none kV49 dc49 pm49 an49 cd49 ct49), sl49⟩)
  (c49 : PySem.W.codeIn K cd49 "_law_holds" = true)
  (k49 : PySem.W.keepIn K (.ref f49) = true)
  (a50 : PySem.W.nsIn K mainGlobals "_law_all" = some (some (.ref f50)))
  (l50 : K.lookup f50 = some ⟨oc50, od50, .func (PySem.W.fnOf "_law_all" "_law_all" (defArgs s_law_all) (defBody s_law_all) (defScope s_law_all) .none kV50 dc50 pm50 an50 cd50 ct50), sl50⟩)
  (c50 : PySem.W.codeIn K cd50 "_law_all" = true)
  (k50 : PySem.W.keepIn K (.ref f50) = true)
  (a51 : PySem.W.nsIn K mainGlobals "law" = some (some (.ref f51)))
  (l51 : K.lookup f51 = some ⟨oc51, od51, .func (PySem.W.fnOf "law" "law" (defArgs s_law) (defBody s_law) (defScope s_law) .none kV51 dc51 pm51 an51 cd51 ct51), sl51⟩)
  (c51 : PySem.W.codeIn K cd51 "law" = true)
  (k51 : PySem.W.keepIn K (.ref f51) = true)
  (g0 : PySem.W.nsIn K mainGlobals "FIGURES" = some (some (.str "0123456789" gt0)))
  (g1 : PySem.W.nsIn K mainGlobals "LETTERS" = some (some (.str "abcdefghijklmnopqrstuvwxyz" gt1)))
  (g2 : PySem.W.nsIn K mainGlobals "LONGEST_NAME" = some (some (.int 12 gt2)))
  (g3 : PySem.W.nsIn K mainGlobals "MOST_FIGURES" = some (some (.int 60 gt3)))
  (g4 : PySem.W.nsIn K mainGlobals "NO_NAMES" = some (some (.ref ga4)))
  (gl4 : K.lookup ga4 = some ⟨go4, gd4, .seq gi4 gn4, gs4⟩)
  (gc4 : go4 = .type "tuple")
  (gz4 : gi4.size ≤ sizeLine)
  (gv4 : Vals [(.str "and"), (.str "each"), (.str "end"), (.str "is"), (.str "not"), (.str "or"), (.str "unless"), (.str "when")] gi4.toList)
  (g5 : PySem.W.nsIn K mainGlobals "SAMPLE_NAMES" = some (some (.ref ga5)))
  (gl5 : K.lookup ga5 = some ⟨go5, gd5, .seq gi5 gn5, gs5⟩)
  (gc5 : go5 = .type "tuple")
  (gz5 : gi5.size ≤ sizeLine)
  (gv5 : Vals [(.str "a"), (.str "b"), (.str "c"), (.str "d"), (.str "e"), (.str "f")] gi5.toList)
  (g6 : PySem.W.nsIn K mainGlobals "WRITTEN_TRUTHS" = some (some (.ref ga6)))
  (gl6 : K.lookup ga6 = some ⟨go6, gd6, .dict ge6 gn6, gs6⟩)
  (gy6 : (ga6 == sysModules) = false)
  (gc6 : go6 = .type "dict")
  (gq6 : gd6 = none)
  (gz6 : gs6 = #[])
  (gv6 : PyProof.Rows.KTD.Rows (fun (b : Bool) (v : Value) => v = .bool b) ge6.toList [("yes", true), ("no", false)])
  (z_abs : PySem.W.nsIn K mainGlobals "abs" = some none)
  (z_all : PySem.W.nsIn K mainGlobals "all" = some none)
  (z_bool : PySem.W.nsIn K mainGlobals "bool" = some none)
  (z_int : PySem.W.nsIn K mainGlobals "int" = some none)
  (z_isinstance : PySem.W.nsIn K mainGlobals "isinstance" = some none)
  (z_len : PySem.W.nsIn K mainGlobals "len" = some none)
  (z_list : PySem.W.nsIn K mainGlobals "list" = some none)
  (z_range : PySem.W.nsIn K mainGlobals "range" = some none)
  (z_set : PySem.W.nsIn K mainGlobals "set" = some none)
  (z_str : PySem.W.nsIn K mainGlobals "str" = some none)
  (z_tuple : PySem.W.nsIn K mainGlobals "tuple" = some none)
  (kc_NoAnswer : PySem.W.clsIn K k_NoAnswer = some kd_NoAnswer)
  (kt_NoAnswer : PySem.W.typeIn K (.ref k_NoAnswer) = some (.type "type"))
  (kc_NoNumber : PySem.W.clsIn K k_NoNumber = some kd_NoNumber)
  (kt_NoNumber : PySem.W.typeIn K (.ref k_NoNumber) = some (.type "type"))
  (xx_NoAnswer : PySem.W.excIn K k_NoAnswer mroVE "ValueError.__new__" = true)
  (pg_NoAnswer : PySem.W.findIn K (.ref k_NoAnswer) "__getattribute__" = some (some (.builtin "BaseException.__getattribute__")))
  (pk_NoAnswer : PySem.W.findIn K (.ref k_NoAnswer) "__getattr__" = some none)
  (ha_NoAnswer : PySem.W.findIn K (.ref k_NoAnswer) "__class__" = some (some (.builtin "object.__class__")))
  (hn_NoAnswer : PySem.W.specialIn K (.builtin "object.__class__") "__get__" = some (some (.builtin "getset_descriptor.__get__")))
  (tk_NoAnswer : PySem.W.takesIn K (.builtin "object.__class__") = some true)
  (mo_NoAnswer : PySem.W.mroIn K k_NoAnswer (.type "object") = some true)
  (mb_NoAnswer : PySem.W.mroIn K k_NoAnswer (.type "BaseException") = some true)
  (xx_NoNumber : PySem.W.excIn K k_NoNumber mroVE "ValueError.__new__" = true)
  (pg_NoNumber : PySem.W.findIn K (.ref k_NoNumber) "__getattribute__" = some (some (.builtin "BaseException.__getattribute__")))
  (pk_NoNumber : PySem.W.findIn K (.ref k_NoNumber) "__getattr__" = some none)
  (ha_NoNumber : PySem.W.findIn K (.ref k_NoNumber) "__class__" = some (some (.builtin "object.__class__")))
  (hn_NoNumber : PySem.W.specialIn K (.builtin "object.__class__") "__get__" = some (some (.builtin "getset_descriptor.__get__")))
  (tk_NoNumber : PySem.W.takesIn K (.builtin "object.__class__") = some true)
  (mo_NoNumber : PySem.W.mroIn K k_NoNumber (.type "object") = some true)
  (mb_NoNumber : PySem.W.mroIn K k_NoNumber (.type "BaseException") = some true)
  (sb_NoNumber_NoNumber : PySem.W.subIn K (.ref k_NoNumber) (.type "BaseException") = some true)
  (em_NoNumber_NoNumber : PySem.W.mroIn K k_NoNumber (.ref k_NoNumber) = some true)
  (sb_NoAnswer_NoAnswer : PySem.W.subIn K (.ref k_NoAnswer) (.type "BaseException") = some true)
  (em_NoAnswer_NoAnswer : PySem.W.mroIn K k_NoAnswer (.ref k_NoAnswer) = some true)
  (cpg_YesNo : PySem.W.plainGet K k_YesNo Str.empty = true)
  (chd_YesNo : PySem.W.hasDictIn K k_YesNo = true)
  (cpo_YesNo : PySem.W.plainOver K k_YesNo = true)
  (csa_YesNo : PySem.W.findIn K (.ref k_YesNo) "__setattr__" = some (some (.builtin "object.__setattr__")))
  (cha_YesNo : PySem.W.findIn K (.ref k_YesNo) "__class__" = some (some (.builtin "object.__class__")))
  (chn_YesNo : PySem.W.specialIn K (.builtin "object.__class__") "__get__" = some (some (.builtin "getset_descriptor.__get__")))
  (ctk_YesNo : PySem.W.takesIn K (.builtin "object.__class__") = some true)
  (cmo_YesNo : PySem.W.mroIn K k_YesNo (.type "object") = some true)
  (mkm_YesNo : PySem.W.makesIn K k_YesNo = true)
  (mki_YesNo : PySem.W.findIn K (.ref k_YesNo) "__init__" = some (some (.ref f11)))
  (mkf_YesNo : PySem.W.isFn K (.ref f11) = true)
  (mkk_YesNo : PySem.W.keepIn K (.ref k_YesNo) = true)
  (mea_YesNo_fits : PySem.W.findIn K (.ref k_YesNo) "fits" = some (some (.ref f12)))
  (mef_YesNo_fits : PySem.W.isFn K (.ref f12) = true)
  (mea_YesNo_answer_of : PySem.W.findIn K (.ref k_YesNo) "answer_of" = some (some (.ref f13)))
  (mef_YesNo_answer_of : PySem.W.isFn K (.ref f13) = true)
  (mea_YesNo_shown : PySem.W.findIn K (.ref k_YesNo) "shown" = some (some (.ref f14)))
  (mef_YesNo_shown : PySem.W.isFn K (.ref f14) = true)
  (mea_YesNo_rank : PySem.W.findIn K (.ref k_YesNo) "rank" = some (some (.ref f15)))
  (mef_YesNo_rank : PySem.W.isFn K (.ref f15) = true)
  (mea_YesNo_sample : PySem.W.findIn K (.ref k_YesNo) "sample" = some (some (.ref f16)))
  (mef_YesNo_sample : PySem.W.isFn K (.ref f16) = true)
  (mea_YesNo_read : PySem.W.findIn K (.ref k_YesNo) "read" = some (some (.ref f10)))
  (mef_YesNo_read : PySem.W.isFn K (.ref f10) = true)
  (noa_YesNo_low : PySem.W.findIn K (.ref k_YesNo) "low" = some none)
  (noa_YesNo_high : PySem.W.findIn K (.ref k_YesNo) "high" = some none)
  (cpg_Whole : PySem.W.plainGet K k_Whole Str.empty = true)
  (chd_Whole : PySem.W.hasDictIn K k_Whole = true)
  (cpo_Whole : PySem.W.plainOver K k_Whole = true)
  (csa_Whole : PySem.W.findIn K (.ref k_Whole) "__setattr__" = some (some (.builtin "object.__setattr__")))
  (cha_Whole : PySem.W.findIn K (.ref k_Whole) "__class__" = some (some (.builtin "object.__class__")))
  (chn_Whole : PySem.W.specialIn K (.builtin "object.__class__") "__get__" = some (some (.builtin "getset_descriptor.__get__")))
  (ctk_Whole : PySem.W.takesIn K (.builtin "object.__class__") = some true)
  (cmo_Whole : PySem.W.mroIn K k_Whole (.type "object") = some true)
  (mkm_Whole : PySem.W.makesIn K k_Whole = true)
  (mki_Whole : PySem.W.findIn K (.ref k_Whole) "__init__" = some (some (.ref f9)))
  (mkf_Whole : PySem.W.isFn K (.ref f9) = true)
  (mkk_Whole : PySem.W.keepIn K (.ref k_Whole) = true)
  (mea_Whole_fits : PySem.W.findIn K (.ref k_Whole) "fits" = some (some (.ref f17)))
  (mef_Whole_fits : PySem.W.isFn K (.ref f17) = true)
  (mea_Whole_answer_of : PySem.W.findIn K (.ref k_Whole) "answer_of" = some (some (.ref f18)))
  (mef_Whole_answer_of : PySem.W.isFn K (.ref f18) = true)
  (mea_Whole_shown : PySem.W.findIn K (.ref k_Whole) "shown" = some (some (.ref f19)))
  (mef_Whole_shown : PySem.W.isFn K (.ref f19) = true)
  (mea_Whole_rank : PySem.W.findIn K (.ref k_Whole) "rank" = some (some (.ref f20)))
  (mef_Whole_rank : PySem.W.isFn K (.ref f20) = true)
  (mea_Whole_sample : PySem.W.findIn K (.ref k_Whole) "sample" = some (some (.ref f21)))
  (mef_Whole_sample : PySem.W.isFn K (.ref f21) = true)
  (mea_Whole_read : PySem.W.findIn K (.ref k_Whole) "read" = some (some (.ref f10)))
  (mef_Whole_read : PySem.W.isFn K (.ref f10) = true)
  (noa_Whole_low : PySem.W.findIn K (.ref k_Whole) "low" = some none)
  (noa_Whole_high : PySem.W.findIn K (.ref k_Whole) "high" = some none)
  (cpg_Money : PySem.W.plainGet K k_Money Str.empty = true)
  (chd_Money : PySem.W.hasDictIn K k_Money = true)
  (cpo_Money : PySem.W.plainOver K k_Money = true)
  (csa_Money : PySem.W.findIn K (.ref k_Money) "__setattr__" = some (some (.builtin "object.__setattr__")))
  (cha_Money : PySem.W.findIn K (.ref k_Money) "__class__" = some (some (.builtin "object.__class__")))
  (chn_Money : PySem.W.specialIn K (.builtin "object.__class__") "__get__" = some (some (.builtin "getset_descriptor.__get__")))
  (ctk_Money : PySem.W.takesIn K (.builtin "object.__class__") = some true)
  (cmo_Money : PySem.W.mroIn K k_Money (.type "object") = some true)
  (mkm_Money : PySem.W.makesIn K k_Money = true)
  (mki_Money : PySem.W.findIn K (.ref k_Money) "__init__" = some (some (.ref f9)))
  (mkf_Money : PySem.W.isFn K (.ref f9) = true)
  (mkk_Money : PySem.W.keepIn K (.ref k_Money) = true)
  (mea_Money_fits : PySem.W.findIn K (.ref k_Money) "fits" = some (some (.ref f17)))
  (mef_Money_fits : PySem.W.isFn K (.ref f17) = true)
  (mea_Money_answer_of : PySem.W.findIn K (.ref k_Money) "answer_of" = some (some (.ref f22)))
  (mef_Money_answer_of : PySem.W.isFn K (.ref f22) = true)
  (mea_Money_shown : PySem.W.findIn K (.ref k_Money) "shown" = some (some (.ref f23)))
  (mef_Money_shown : PySem.W.isFn K (.ref f23) = true)
  (mea_Money_rank : PySem.W.findIn K (.ref k_Money) "rank" = some (some (.ref f20)))
  (mef_Money_rank : PySem.W.isFn K (.ref f20) = true)
  (mea_Money_sample : PySem.W.findIn K (.ref k_Money) "sample" = some (some (.ref f21)))
  (mef_Money_sample : PySem.W.isFn K (.ref f21) = true)
  (mea_Money_read : PySem.W.findIn K (.ref k_Money) "read" = some (some (.ref f10)))
  (mef_Money_read : PySem.W.isFn K (.ref f10) = true)
  (noa_Money_low : PySem.W.findIn K (.ref k_Money) "low" = some none)
  (noa_Money_high : PySem.W.findIn K (.ref k_Money) "high" = some none)
  (cpg_Pick : PySem.W.plainGet K k_Pick Str.empty = true)
  (chd_Pick : PySem.W.hasDictIn K k_Pick = true)
  (cpo_Pick : PySem.W.plainOver K k_Pick = true)
  (csa_Pick : PySem.W.findIn K (.ref k_Pick) "__setattr__" = some (some (.builtin "object.__setattr__")))
  (cha_Pick : PySem.W.findIn K (.ref k_Pick) "__class__" = some (some (.builtin "object.__class__")))
  (chn_Pick : PySem.W.specialIn K (.builtin "object.__class__") "__get__" = some (some (.builtin "getset_descriptor.__get__")))
  (ctk_Pick : PySem.W.takesIn K (.builtin "object.__class__") = some true)
  (cmo_Pick : PySem.W.mroIn K k_Pick (.type "object") = some true)
  (mkm_Pick : PySem.W.makesIn K k_Pick = true)
  (mki_Pick : PySem.W.findIn K (.ref k_Pick) "__init__" = some (some (.ref f24)))
  (mkf_Pick : PySem.W.isFn K (.ref f24) = true)
  (mkk_Pick : PySem.W.keepIn K (.ref k_Pick) = true)
  (mea_Pick_fits : PySem.W.findIn K (.ref k_Pick) "fits" = some (some (.ref f25)))
  (mef_Pick_fits : PySem.W.isFn K (.ref f25) = true)
  (mea_Pick_answer_of : PySem.W.findIn K (.ref k_Pick) "answer_of" = some (some (.ref f26)))
  (mef_Pick_answer_of : PySem.W.isFn K (.ref f26) = true)
  (mea_Pick_shown : PySem.W.findIn K (.ref k_Pick) "shown" = some (some (.ref f27)))
  (mef_Pick_shown : PySem.W.isFn K (.ref f27) = true)
  (mea_Pick_rank : PySem.W.findIn K (.ref k_Pick) "rank" = some (some (.ref f28)))
  (mef_Pick_rank : PySem.W.isFn K (.ref f28) = true)
  (mea_Pick_sample : PySem.W.findIn K (.ref k_Pick) "sample" = some (some (.ref f29)))
  (mef_Pick_sample : PySem.W.isFn K (.ref f29) = true)
  (mea_Pick_read : PySem.W.findIn K (.ref k_Pick) "read" = some (some (.ref f10)))
  (mef_Pick_read : PySem.W.isFn K (.ref f10) = true)
  (noa_Pick_low : PySem.W.findIn K (.ref k_Pick) "low" = some none)
  (noa_Pick_high : PySem.W.findIn K (.ref k_Pick) "high" = some none)
  (noa_Pick_words : PySem.W.findIn K (.ref k_Pick) "words" = some none)
  (cpg_Names : PySem.W.plainGet K k_Names Str.empty = true)
  (chd_Names : PySem.W.hasDictIn K k_Names = true)
  (cpo_Names : PySem.W.plainOver K k_Names = true)
  (csa_Names : PySem.W.findIn K (.ref k_Names) "__setattr__" = some (some (.builtin "object.__setattr__")))
  (cha_Names : PySem.W.findIn K (.ref k_Names) "__class__" = some (some (.builtin "object.__class__")))
  (chn_Names : PySem.W.specialIn K (.builtin "object.__class__") "__get__" = some (some (.builtin "getset_descriptor.__get__")))
  (ctk_Names : PySem.W.takesIn K (.builtin "object.__class__") = some true)
  (cmo_Names : PySem.W.mroIn K k_Names (.type "object") = some true)
  (mkm_Names : PySem.W.makesIn K k_Names = true)
  (mki_Names : PySem.W.findIn K (.ref k_Names) "__init__" = some (some (.ref f30)))
  (mkf_Names : PySem.W.isFn K (.ref f30) = true)
  (mkk_Names : PySem.W.keepIn K (.ref k_Names) = true)
  (mea_Names_fits : PySem.W.findIn K (.ref k_Names) "fits" = some (some (.ref f31)))
  (mef_Names_fits : PySem.W.isFn K (.ref f31) = true)
  (mea_Names_answer_of : PySem.W.findIn K (.ref k_Names) "answer_of" = some (some (.ref f32)))
  (mef_Names_answer_of : PySem.W.isFn K (.ref f32) = true)
  (mea_Names_shown : PySem.W.findIn K (.ref k_Names) "shown" = some (some (.ref f33)))
  (mef_Names_shown : PySem.W.isFn K (.ref f33) = true)
  (mea_Names_rank : PySem.W.findIn K (.ref k_Names) "rank" = some (some (.ref f34)))
  (mef_Names_rank : PySem.W.isFn K (.ref f34) = true)
  (mea_Names_sample : PySem.W.findIn K (.ref k_Names) "sample" = some (some (.ref f35)))
  (mef_Names_sample : PySem.W.isFn K (.ref f35) = true)
  (mea_Names_read : PySem.W.findIn K (.ref k_Names) "read" = some (some (.ref f10)))
  (mef_Names_read : PySem.W.isFn K (.ref f10) = true)
  (noa_Names_low : PySem.W.findIn K (.ref k_Names) "low" = some none)
  (noa_Names_high : PySem.W.findIn K (.ref k_Names) "high" = some none)
  (cfr_Kind_init : PySem.W.readsIn K k_Kind (.type "type") = true)
  (cfa_Kind_init : PySem.W.findCls K (.ref k_Kind) (.type "type") "__init__" = some (.val (.ref f9)))
  (cfs_Kind_init : PySem.W.specialIn K (.ref k_Kind) "__getattribute__" = some (some (.builtin "type.__getattribute__"))) :
  ∃ A : Adr, Txt K mg A :=
  ⟨⟨f0,
    PySem.W.fnOf "is_whole" "is_whole" (defArgs s_is_whole) (defBody s_is_whole) (defScope s_is_whole) .none kV0 dc0 pm0 an0 cd0 ct0,
    f1,
    PySem.W.fnOf "is_name" "is_name" (defArgs s_is_name) (defBody s_is_name) (defScope s_is_name) .none kV1 dc1 pm1 an1 cd1 ct1,
    f2,
    PySem.W.fnOf "are_unlike_names" "are_unlike_names" (defArgs s_are_unlike_names) (defBody s_are_unlike_names) (defScope s_are_unlike_names) .none kV2 dc2 pm2 an2 cd2 ct2,
    f3,
    PySem.W.fnOf "are_figures" "are_figures" (defArgs s_are_figures) (defBody s_are_figures) (defScope s_are_figures) .none kV3 dc3 pm3 an3 cd3 ct3,
    f4,
    PySem.W.fnOf "figures_worth" "figures_worth" (defArgs s_figures_worth) (defBody s_figures_worth) (defScope s_figures_worth) .none kV4 dc4 pm4 an4 cd4 ct4,
    f5,
    PySem.W.fnOf "number_of" "number_of" (defArgs s_number_of) (defBody s_number_of) (defScope s_number_of) (.ref dT5) kV5 dc5 pm5 an5 cd5 ct5,
    [(.int 60 dt5_0)],
    f6,
    PySem.W.fnOf "number_or_none" "number_or_none" (defArgs s_number_or_none) (defBody s_number_or_none) (defScope s_number_or_none) .none kV6 dc6 pm6 an6 cd6 ct6,
    f7,
    PySem.W.fnOf "money_shown" "money_shown" (defArgs s_money_shown) (defBody s_money_shown) (defScope s_money_shown) .none kV7 dc7 pm7 an7 cd7 ct7,
    f8,
    PySem.W.fnOf "money_or_none" "money_or_none" (defArgs s_money_or_none) (defBody s_money_or_none) (defScope s_money_or_none) .none kV8 dc8 pm8 an8 cd8 ct8,
    f9,
    PySem.W.fnOf "__init__" "Kind.__init__" (defArgs s_c_Kind___init) (defBody s_c_Kind___init) (defScope s_c_Kind___init) .none kV9 dc9 pm9 an9 cd9 ct9,
    f10,
    PySem.W.fnOf "read" "Kind.read" (defArgs s_c_Kind_read) (defBody s_c_Kind_read) (defScope s_c_Kind_read) .none kV10 dc10 pm10 an10 cd10 ct10,
    f11,
    PySem.W.fnOf "__init__" "YesNo.__init__" (defArgs s_c_YesNo___init) (defBody s_c_YesNo___init) (defScope s_c_YesNo___init) .none kV11 dc11 pm11 an11 cd11 ct11,
    f12,
    PySem.W.fnOf "fits" "YesNo.fits" (defArgs s_c_YesNo_fits) (defBody s_c_YesNo_fits) (defScope s_c_YesNo_fits) .none kV12 dc12 pm12 an12 cd12 ct12,
    f13,
    PySem.W.fnOf "answer_of" "YesNo.answer_of" (defArgs s_c_YesNo_answer_of) (defBody s_c_YesNo_answer_of) (defScope s_c_YesNo_answer_of) .none kV13 dc13 pm13 an13 cd13 ct13,
    f14,
    PySem.W.fnOf "shown" "YesNo.shown" (defArgs s_c_YesNo_shown) (defBody s_c_YesNo_shown) (defScope s_c_YesNo_shown) .none kV14 dc14 pm14 an14 cd14 ct14,
    f15,
    PySem.W.fnOf "rank" "YesNo.rank" (defArgs s_c_YesNo_rank) (defBody s_c_YesNo_rank) (defScope s_c_YesNo_rank) .none kV15 dc15 pm15 an15 cd15 ct15,
    f16,
    PySem.W.fnOf "sample" "YesNo.sample" (defArgs s_c_YesNo_sample) (defBody s_c_YesNo_sample) (defScope s_c_YesNo_sample) .none kV16 dc16 pm16 an16 cd16 ct16,
    f17,
    PySem.W.fnOf "fits" "Whole.fits" (defArgs s_c_Whole_fits) (defBody s_c_Whole_fits) (defScope s_c_Whole_fits) .none kV17 dc17 pm17 an17 cd17 ct17,
    f18,
    PySem.W.fnOf "answer_of" "Whole.answer_of" (defArgs s_c_Whole_answer_of) (defBody s_c_Whole_answer_of) (defScope s_c_Whole_answer_of) .none kV18 dc18 pm18 an18 cd18 ct18,
    f19,
    PySem.W.fnOf "shown" "Whole.shown" (defArgs s_c_Whole_shown) (defBody s_c_Whole_shown) (defScope s_c_Whole_shown) .none kV19 dc19 pm19 an19 cd19 ct19,
    f20,
    PySem.W.fnOf "rank" "Whole.rank" (defArgs s_c_Whole_rank) (defBody s_c_Whole_rank) (defScope s_c_Whole_rank) .none kV20 dc20 pm20 an20 cd20 ct20,
    f21,
    PySem.W.fnOf "sample" "Whole.sample" (defArgs s_c_Whole_sample) (defBody s_c_Whole_sample) (defScope s_c_Whole_sample) .none kV21 dc21 pm21 an21 cd21 ct21,
    f22,
    PySem.W.fnOf "answer_of" "Money.answer_of" (defArgs s_c_Money_answer_of) (defBody s_c_Money_answer_of) (defScope s_c_Money_answer_of) .none kV22 dc22 pm22 an22 cd22 ct22,
    f23,
    PySem.W.fnOf "shown" "Money.shown" (defArgs s_c_Money_shown) (defBody s_c_Money_shown) (defScope s_c_Money_shown) .none kV23 dc23 pm23 an23 cd23 ct23,
    f24,
    PySem.W.fnOf "__init__" "Pick.__init__" (defArgs s_c_Pick___init) (defBody s_c_Pick___init) (defScope s_c_Pick___init) .none kV24 dc24 pm24 an24 cd24 ct24,
    f25,
    PySem.W.fnOf "fits" "Pick.fits" (defArgs s_c_Pick_fits) (defBody s_c_Pick_fits) (defScope s_c_Pick_fits) .none kV25 dc25 pm25 an25 cd25 ct25,
    f26,
    PySem.W.fnOf "answer_of" "Pick.answer_of" (defArgs s_c_Pick_answer_of) (defBody s_c_Pick_answer_of) (defScope s_c_Pick_answer_of) .none kV26 dc26 pm26 an26 cd26 ct26,
    f27,
    PySem.W.fnOf "shown" "Pick.shown" (defArgs s_c_Pick_shown) (defBody s_c_Pick_shown) (defScope s_c_Pick_shown) .none kV27 dc27 pm27 an27 cd27 ct27,
    f28,
    PySem.W.fnOf "rank" "Pick.rank" (defArgs s_c_Pick_rank) (defBody s_c_Pick_rank) (defScope s_c_Pick_rank) .none kV28 dc28 pm28 an28 cd28 ct28,
    f29,
    PySem.W.fnOf "sample" "Pick.sample" (defArgs s_c_Pick_sample) (defBody s_c_Pick_sample) (defScope s_c_Pick_sample) .none kV29 dc29 pm29 an29 cd29 ct29,
    f30,
    PySem.W.fnOf "__init__" "Names.__init__" (defArgs s_c_Names___init) (defBody s_c_Names___init) (defScope s_c_Names___init) (.ref dT30) kV30 dc30 pm30 an30 cd30 ct30,
    [(.int 3 dt30_0)],
    f31,
    PySem.W.fnOf "fits" "Names.fits" (defArgs s_c_Names_fits) (defBody s_c_Names_fits) (defScope s_c_Names_fits) .none kV31 dc31 pm31 an31 cd31 ct31,
    f32,
    PySem.W.fnOf "answer_of" "Names.answer_of" (defArgs s_c_Names_answer_of) (defBody s_c_Names_answer_of) (defScope s_c_Names_answer_of) .none kV32 dc32 pm32 an32 cd32 ct32,
    f33,
    PySem.W.fnOf "shown" "Names.shown" (defArgs s_c_Names_shown) (defBody s_c_Names_shown) (defScope s_c_Names_shown) .none kV33 dc33 pm33 an33 cd33 ct33,
    f34,
    PySem.W.fnOf "rank" "Names.rank" (defArgs s_c_Names_rank) (defBody s_c_Names_rank) (defScope s_c_Names_rank) .none kV34 dc34 pm34 an34 cd34 ct34,
    f35,
    PySem.W.fnOf "sample" "Names.sample" (defArgs s_c_Names_sample) (defBody s_c_Names_sample) (defScope s_c_Names_sample) .none kV35 dc35 pm35 an35 cd35 ct35,
    f36,
    PySem.W.fnOf "_law_cell_at" "_law_cell_at" (defArgs s_law_cell_at) (defBody s_law_cell_at) (defScope s_law_cell_at) .none kV36 dc36 pm36 an36 cd36 ct36,
    f37,
    PySem.W.fnOf "_law_whole" "_law_whole" (defArgs s_law_whole) (defBody s_law_whole) (defScope s_law_whole) .none kV37 dc37 pm37 an37 cd37 ct37,
    f38,
    PySem.W.fnOf "_law_letter" "_law_letter" (defArgs s_law_letter) (defBody s_law_letter) (defScope s_law_letter) .none kV38 dc38 pm38 an38 cd38 ct38,
    f39,
    PySem.W.fnOf "_law_sign_by" "_law_sign_by" (defArgs s_law_sign_by) (defBody s_law_sign_by) (defScope s_law_sign_by) .none kV39 dc39 pm39 an39 cd39 ct39,
    f40,
    PySem.W.fnOf "_law_wide" "_law_wide" (defArgs s_law_wide) (defBody s_law_wide) (defScope s_law_wide) .none kV40 dc40 pm40 an40 cd40 ct40,
    f41,
    PySem.W.fnOf "_law_low" "_law_low" (defArgs s_law_low) (defBody s_law_low) (defScope s_law_low) .none kV41 dc41 pm41 an41 cd41 ct41,
    f42,
    PySem.W.fnOf "_law_size" "_law_size" (defArgs s_law_size) (defBody s_law_size) (defScope s_law_size) .none kV42 dc42 pm42 an42 cd42 ct42,
    f43,
    PySem.W.fnOf "_law_words" "_law_words" (defArgs s_law_words) (defBody s_law_words) (defScope s_law_words) .none kV43 dc43 pm43 an43 cd43 ct43,
    f44,
    PySem.W.fnOf "_law_kinds" "_law_kinds" (defArgs s_law_kinds) (defBody s_law_kinds) (defScope s_law_kinds) .none kV44 dc44 pm44 an44 cd44 ct44,
    f45,
    PySem.W.fnOf "_law_answer" "_law_answer" (defArgs s_law_answer) (defBody s_law_answer) (defScope s_law_answer) .none kV45 dc45 pm45 an45 cd45 ct45,
    f46,
    PySem.W.fnOf "_law_spoilt" "_law_spoilt" (defArgs s_law_spoilt) (defBody s_law_spoilt) (defScope s_law_spoilt) .none kV46 dc46 pm46 an46 cd46 ct46,
    f47,
    PySem.W.fnOf "_law_bare" "_law_bare" (defArgs s_law_bare) (defBody s_law_bare) (defScope s_law_bare) .none kV47 dc47 pm47 an47 cd47 ct47,
    f48,
    PySem.W.fnOf "_law_read" "_law_read" (defArgs s_law_read) (defBody s_law_read) (defScope s_law_read) .none kV48 dc48 pm48 an48 cd48 ct48,
    f49,
    PySem.W.fnOf "_law_holds" "_law_holds" (defArgs s_law_holds) (defBody s_law_holds) (defScope s_law_holds) .none kV49 dc49 pm49 an49 cd49 ct49,
    f50,
    PySem.W.fnOf "_law_all" "_law_all" (defArgs s_law_all) (defBody s_law_all) (defScope s_law_all) .none kV50 dc50 pm50 an50 cd50 ct50,
    f51,
    PySem.W.fnOf "law" "law" (defArgs s_law) (defBody s_law) (defScope s_law) .none kV51 dc51 pm51 an51 cd51 ct51,
    ga4,
    ga5,
    ga6,
    k_Kind,
    k_Money,
    k_Names,
    k_NoAnswer,
    k_NoNumber,
    k_Pick,
    k_Whole,
    k_YesNo⟩, ⟨fun_mk (st := s_is_whole) l0 c0 k0,
    (fun_mk (st := s_is_whole) l0 c0 k0).binds (ps := ["thing"]) (fun _ _ _ _ _ _ us hl => match us, hl with | [_], _ => rfl),
    k0,
    PySem.W.mg_of X G a0,
    fun_mk (st := s_is_name) l1 c1 k1,
    (fun_mk (st := s_is_name) l1 c1 k1).binds (ps := ["thing"]) (fun _ _ _ _ _ _ us hl => match us, hl with | [_], _ => rfl),
    k1,
    PySem.W.mg_of X G a1,
    fun_mk (st := s_are_unlike_names) l2 c2 k2,
    (fun_mk (st := s_are_unlike_names) l2 c2 k2).binds (ps := ["words"]) (fun _ _ _ _ _ _ us hl => match us, hl with | [_], _ => rfl),
    k2,
    PySem.W.mg_of X G a2,
    fun_mk (st := s_are_figures) l3 c3 k3,
    (fun_mk (st := s_are_figures) l3 c3 k3).binds (ps := ["text"]) (fun _ _ _ _ _ _ us hl => match us, hl with | [_], _ => rfl),
    k3,
    PySem.W.mg_of X G a3,
    fun_mk (st := s_figures_worth) l4 c4 k4,
    (fun_mk (st := s_figures_worth) l4 c4 k4).binds (ps := ["figures"]) (fun _ _ _ _ _ _ us hl => match us, hl with | [_], _ => rfl),
    k4,
    PySem.W.mg_of X G a4,
    (funD_mk (st := s_number_of) l5 c5 k5 dl5),
    (funD_mk (st := s_number_of) l5 c5 k5 dl5).binds (es := []) (fun T _ _ _ _ _ _ us M A E Q s to n ht hc hd hl hq => match us, hl with | [_, _], _ => BindsTo.of_defaults rfl ht hd rfl rfl M A E Q hq),
    (funD_mk (st := s_number_of) l5 c5 k5 dl5).binds (fun T _ _ _ _ _ _ us M A E Q s to n ht hc hd hl hq => match us, app_len (m := 1) hl rfl with | [_], _ => BindsTo.of_defaults rfl ht hd rfl rfl M A E Q hq),
    .cons ⟨_, rfl⟩ (.nil),
    k5,
    PySem.W.mg_of X G a5,
    fun_mk (st := s_number_or_none) l6 c6 k6,
    (fun_mk (st := s_number_or_none) l6 c6 k6).binds (ps := ["text"]) (fun _ _ _ _ _ _ us hl => match us, hl with | [_], _ => rfl),
    k6,
    PySem.W.mg_of X G a6,
    fun_mk (st := s_money_shown) l7 c7 k7,
    (fun_mk (st := s_money_shown) l7 c7 k7).binds (ps := ["hundredths"]) (fun _ _ _ _ _ _ us hl => match us, hl with | [_], _ => rfl),
    k7,
    PySem.W.mg_of X G a7,
    fun_mk (st := s_money_or_none) l8 c8 k8,
    (fun_mk (st := s_money_or_none) l8 c8 k8).binds (ps := ["text"]) (fun _ _ _ _ _ _ us hl => match us, hl with | [_], _ => rfl),
    k8,
    PySem.W.mg_of X G a8,
    fun_mk (st := s_c_Kind___init) l9 c9 k9,
    (fun_mk (st := s_c_Kind___init) l9 c9 k9).binds (ps := ["self", "low", "high"]) (fun _ _ _ _ _ _ us hl => match us, hl with | [_, _, _], _ => rfl),
    k9,
    fun_mk (st := s_c_Kind_read) l10 c10 k10,
    (fun_mk (st := s_c_Kind_read) l10 c10 k10).binds (ps := ["self", "text"]) (fun _ _ _ _ _ _ us hl => match us, hl with | [_, _], _ => rfl),
    k10,
    fun_mk (st := s_c_YesNo___init) l11 c11 k11,
    (fun_mk (st := s_c_YesNo___init) l11 c11 k11).binds (ps := ["self"]) (fun _ _ _ _ _ _ us hl => match us, hl with | [_], _ => rfl),
    k11,
    fun_mk (st := s_c_YesNo_fits) l12 c12 k12,
    (fun_mk (st := s_c_YesNo_fits) l12 c12 k12).binds (ps := ["self", "thing"]) (fun _ _ _ _ _ _ us hl => match us, hl with | [_, _], _ => rfl),
    k12,
    fun_mk (st := s_c_YesNo_answer_of) l13 c13 k13,
    (fun_mk (st := s_c_YesNo_answer_of) l13 c13 k13).binds (ps := ["self", "text"]) (fun _ _ _ _ _ _ us hl => match us, hl with | [_, _], _ => rfl),
    k13,
    fun_mk (st := s_c_YesNo_shown) l14 c14 k14,
    (fun_mk (st := s_c_YesNo_shown) l14 c14 k14).binds (ps := ["self", "answer"]) (fun _ _ _ _ _ _ us hl => match us, hl with | [_, _], _ => rfl),
    k14,
    fun_mk (st := s_c_YesNo_rank) l15 c15 k15,
    (fun_mk (st := s_c_YesNo_rank) l15 c15 k15).binds (ps := ["self", "answer"]) (fun _ _ _ _ _ _ us hl => match us, hl with | [_, _], _ => rfl),
    k15,
    fun_mk (st := s_c_YesNo_sample) l16 c16 k16,
    (fun_mk (st := s_c_YesNo_sample) l16 c16 k16).binds (ps := ["self", "rank"]) (fun _ _ _ _ _ _ us hl => match us, hl with | [_, _], _ => rfl),
    k16,
    fun_mk (st := s_c_Whole_fits) l17 c17 k17,
    (fun_mk (st := s_c_Whole_fits) l17 c17 k17).binds (ps := ["self", "thing"]) (fun _ _ _ _ _ _ us hl => match us, hl with | [_, _], _ => rfl),
    k17,
    fun_mk (st := s_c_Whole_answer_of) l18 c18 k18,
    (fun_mk (st := s_c_Whole_answer_of) l18 c18 k18).binds (ps := ["self", "text"]) (fun _ _ _ _ _ _ us hl => match us, hl with | [_, _], _ => rfl),
    k18,
    fun_mk (st := s_c_Whole_shown) l19 c19 k19,
    (fun_mk (st := s_c_Whole_shown) l19 c19 k19).binds (ps := ["self", "answer"]) (fun _ _ _ _ _ _ us hl => match us, hl with | [_, _], _ => rfl),
    k19,
    fun_mk (st := s_c_Whole_rank) l20 c20 k20,
    (fun_mk (st := s_c_Whole_rank) l20 c20 k20).binds (ps := ["self", "answer"]) (fun _ _ _ _ _ _ us hl => match us, hl with | [_, _], _ => rfl),
    k20,
    fun_mk (st := s_c_Whole_sample) l21 c21 k21,
    (fun_mk (st := s_c_Whole_sample) l21 c21 k21).binds (ps := ["self", "rank"]) (fun _ _ _ _ _ _ us hl => match us, hl with | [_, _], _ => rfl),
    k21,
    fun_mk (st := s_c_Money_answer_of) l22 c22 k22,
    (fun_mk (st := s_c_Money_answer_of) l22 c22 k22).binds (ps := ["self", "text"]) (fun _ _ _ _ _ _ us hl => match us, hl with | [_, _], _ => rfl),
    k22,
    fun_mk (st := s_c_Money_shown) l23 c23 k23,
    (fun_mk (st := s_c_Money_shown) l23 c23 k23).binds (ps := ["self", "answer"]) (fun _ _ _ _ _ _ us hl => match us, hl with | [_, _], _ => rfl),
    k23,
    fun_mk (st := s_c_Pick___init) l24 c24 k24,
    (fun_mk (st := s_c_Pick___init) l24 c24 k24).binds (ps := ["self", "words"]) (fun _ _ _ _ _ _ us hl => match us, hl with | [_, _], _ => rfl),
    k24,
    fun_mk (st := s_c_Pick_fits) l25 c25 k25,
    (fun_mk (st := s_c_Pick_fits) l25 c25 k25).binds (ps := ["self", "thing"]) (fun _ _ _ _ _ _ us hl => match us, hl with | [_, _], _ => rfl),
    k25,
    fun_mk (st := s_c_Pick_answer_of) l26 c26 k26,
    (fun_mk (st := s_c_Pick_answer_of) l26 c26 k26).binds (ps := ["self", "text"]) (fun _ _ _ _ _ _ us hl => match us, hl with | [_, _], _ => rfl),
    k26,
    fun_mk (st := s_c_Pick_shown) l27 c27 k27,
    (fun_mk (st := s_c_Pick_shown) l27 c27 k27).binds (ps := ["self", "answer"]) (fun _ _ _ _ _ _ us hl => match us, hl with | [_, _], _ => rfl),
    k27,
    fun_mk (st := s_c_Pick_rank) l28 c28 k28,
    (fun_mk (st := s_c_Pick_rank) l28 c28 k28).binds (ps := ["self", "answer"]) (fun _ _ _ _ _ _ us hl => match us, hl with | [_, _], _ => rfl),
    k28,
    fun_mk (st := s_c_Pick_sample) l29 c29 k29,
    (fun_mk (st := s_c_Pick_sample) l29 c29 k29).binds (ps := ["self", "rank"]) (fun _ _ _ _ _ _ us hl => match us, hl with | [_, _], _ => rfl),
    k29,
    (funD_mk (st := s_c_Names___init) l30 c30 k30 dl30),
    (funD_mk (st := s_c_Names___init) l30 c30 k30 dl30).binds (es := []) (fun T _ _ _ _ _ _ us M A E Q s to n ht hc hd hl hq => match us, hl with | [_, _], _ => BindsTo.of_defaults rfl ht hd rfl rfl M A E Q hq),
    (funD_mk (st := s_c_Names___init) l30 c30 k30 dl30).binds (fun T _ _ _ _ _ _ us M A E Q s to n ht hc hd hl hq => match us, app_len (m := 1) hl rfl with | [_], _ => BindsTo.of_defaults rfl ht hd rfl rfl M A E Q hq),
    .cons ⟨_, rfl⟩ (.nil),
    k30,
    fun_mk (st := s_c_Names_fits) l31 c31 k31,
    (fun_mk (st := s_c_Names_fits) l31 c31 k31).binds (ps := ["self", "thing"]) (fun _ _ _ _ _ _ us hl => match us, hl with | [_, _], _ => rfl),
    k31,
    fun_mk (st := s_c_Names_answer_of) l32 c32 k32,
    (fun_mk (st := s_c_Names_answer_of) l32 c32 k32).binds (ps := ["self", "text"]) (fun _ _ _ _ _ _ us hl => match us, hl with | [_, _], _ => rfl),
    k32,
    fun_mk (st := s_c_Names_shown) l33 c33 k33,
    (fun_mk (st := s_c_Names_shown) l33 c33 k33).binds (ps := ["self", "answer"]) (fun _ _ _ _ _ _ us hl => match us, hl with | [_, _], _ => rfl),
    k33,
    fun_mk (st := s_c_Names_rank) l34 c34 k34,
    (fun_mk (st := s_c_Names_rank) l34 c34 k34).binds (ps := ["self", "answer"]) (fun _ _ _ _ _ _ us hl => match us, hl with | [_, _], _ => rfl),
    k34,
    fun_mk (st := s_c_Names_sample) l35 c35 k35,
    (fun_mk (st := s_c_Names_sample) l35 c35 k35).binds (ps := ["self", "rank"]) (fun _ _ _ _ _ _ us hl => match us, hl with | [_, _], _ => rfl),
    k35,
    fun_mk (st := s_law_cell_at) l36 c36 k36,
    (fun_mk (st := s_law_cell_at) l36 c36 k36).binds (ps := ["_law_script", "_law_k"]) (fun _ _ _ _ _ _ us hl => match us, hl with | [_, _], _ => rfl),
    k36,
    PySem.W.mg_of X G a36,
    fun_mk (st := s_law_whole) l37 c37 k37,
    (fun_mk (st := s_law_whole) l37 c37 k37).binds (ps := ["_law_found"]) (fun _ _ _ _ _ _ us hl => match us, hl with | [_], _ => rfl),
    k37,
    PySem.W.mg_of X G a37,
    fun_mk (st := s_law_letter) l38 c38 k38,
    (fun_mk (st := s_law_letter) l38 c38 k38).binds (ps := ["_law_number"]) (fun _ _ _ _ _ _ us hl => match us, hl with | [_], _ => rfl),
    k38,
    PySem.W.mg_of X G a38,
    fun_mk (st := s_law_sign_by) l39 c39 k39,
    (fun_mk (st := s_law_sign_by) l39 c39 k39).binds (ps := ["_law_cell"]) (fun _ _ _ _ _ _ us hl => match us, hl with | [_], _ => rfl),
    k39,
    PySem.W.mg_of X G a39,
    fun_mk (st := s_law_wide) l40 c40 k40,
    (fun_mk (st := s_law_wide) l40 c40 k40).binds (ps := ["_law_cell"]) (fun _ _ _ _ _ _ us hl => match us, hl with | [_], _ => rfl),
    k40,
    PySem.W.mg_of X G a40,
    fun_mk (st := s_law_low) l41 c41 k41,
    (fun_mk (st := s_law_low) l41 c41 k41).binds (ps := ["_law_cell"]) (fun _ _ _ _ _ _ us hl => match us, hl with | [_], _ => rfl),
    k41,
    PySem.W.mg_of X G a41,
    fun_mk (st := s_law_size) l42 c42 k42,
    (fun_mk (st := s_law_size) l42 c42 k42).binds (ps := ["_law_cell"]) (fun _ _ _ _ _ _ us hl => match us, hl with | [_], _ => rfl),
    k42,
    PySem.W.mg_of X G a42,
    fun_mk (st := s_law_words) l43 c43 k43,
    (fun_mk (st := s_law_words) l43 c43 k43).binds (ps := ["_law_cell", "_law_many"]) (fun _ _ _ _ _ _ us hl => match us, hl with | [_, _], _ => rfl),
    k43,
    PySem.W.mg_of X G a43,
    fun_mk (st := s_law_kinds) l44 c44 k44,
    (fun_mk (st := s_law_kinds) l44 c44 k44).binds (ps := ["_law_script"]) (fun _ _ _ _ _ _ us hl => match us, hl with | [_], _ => rfl),
    k44,
    PySem.W.mg_of X G a44,
    fun_mk (st := s_law_answer) l45 c45 k45,
    (fun_mk (st := s_law_answer) l45 c45 k45).binds (ps := ["_law_kind", "_law_k", "_law_cell"]) (fun _ _ _ _ _ _ us hl => match us, hl with | [_, _, _], _ => rfl),
    k45,
    PySem.W.mg_of X G a45,
    fun_mk (st := s_law_spoilt) l46 c46 k46,
    (fun_mk (st := s_law_spoilt) l46 c46 k46).binds (ps := ["_law_word", "_law_cell"]) (fun _ _ _ _ _ _ us hl => match us, hl with | [_, _], _ => rfl),
    k46,
    PySem.W.mg_of X G a46,
    fun_mk (st := s_law_bare) l47 c47 k47,
    (fun_mk (st := s_law_bare) l47 c47 k47).binds (ps := ["_law_word"]) (fun _ _ _ _ _ _ us hl => match us, hl with | [_], _ => rfl),
    k47,
    PySem.W.mg_of X G a47,
    fun_mk (st := s_law_read) l48 c48 k48,
    (fun_mk (st := s_law_read) l48 c48 k48).binds (ps := ["_law_kind", "_law_word"]) (fun _ _ _ _ _ _ us hl => match us, hl with | [_, _], _ => rfl),
    k48,
    PySem.W.mg_of X G a48,
    fun_mk (st := s_law_holds) l49 c49 k49,
    (fun_mk (st := s_law_holds) l49 c49 k49).binds (ps := ["_law_kind", "_law_one"]) (fun _ _ _ _ _ _ us hl => match us, hl with | [_, _], _ => rfl),
    k49,
    PySem.W.mg_of X G a49,
    fun_mk (st := s_law_all) l50 c50 k50,
    (fun_mk (st := s_law_all) l50 c50 k50).binds (ps := ["_law_kind", "_law_one", "_law_cell"]) (fun _ _ _ _ _ _ us hl => match us, hl with | [_, _, _], _ => rfl),
    k50,
    PySem.W.mg_of X G a50,
    fun_mk (st := s_law) l51 c51 k51,
    (fun_mk (st := s_law) l51 c51 k51).binds (ps := ["_law_script"]) (fun _ _ _ _ _ _ us hl => match us, hl with | [_], _ => rfl),
    k51,
    PySem.W.mg_of X G a51,
    ⟨_, PySem.W.mg_of X G g0, _, rfl⟩,
    ⟨_, PySem.W.mg_of X G g1, _, rfl⟩,
    ⟨_, PySem.W.mg_of X G g2, _, rfl⟩,
    ⟨_, PySem.W.mg_of X G g3, _, rfl⟩,
    ⟨_, PySem.W.mg_of X G g4, rfl⟩,
    SqT.mod gl4 gc4 gz4 gv4,
    ⟨_, PySem.W.mg_of X G g5, rfl⟩,
    SqT.mod gl5 gc5 gz5 gv5,
    PySem.W.mg_of X G g6,
    tabK_mk gl6 gy6 gc6 gq6 gz6 gv6,
    PySem.W.mg_none_of X G z_abs,
    PySem.W.mg_none_of X G z_all,
    PySem.W.mg_none_of X G z_bool,
    PySem.W.mg_none_of X G z_int,
    PySem.W.mg_none_of X G z_isinstance,
    PySem.W.mg_none_of X G z_len,
    PySem.W.mg_none_of X G z_list,
    PySem.W.mg_none_of X G z_range,
    PySem.W.mg_none_of X G z_set,
    PySem.W.mg_none_of X G z_str,
    PySem.W.mg_none_of X G z_tuple,
    L2.kit_ty (by decide +kernel),
    L2.kit_ty (by decide +kernel),
    L2.kit_ty (by decide +kernel),
    L2.kit_ty (by decide +kernel),
    L2.kit_ty (by decide +kernel),
    L2.kit_ty (by decide +kernel),
    L2.kit_ty (by decide +kernel),
    L2.kit_ty (by decide +kernel),
    L2.kit_ty (by decide +kernel),
    L2.kit_ty (by decide +kernel),
    L2.kit_ty (by decide +kernel),
    L2.kit_ty (by decide +kernel),
    L2.kit_ty (by decide +kernel),
    L2.kit_ty (by decide +kernel),
    L2.kit_ty (by decide +kernel),
    L2.kit_ty (by decide +kernel),
    L2.kit_ty (by decide +kernel),
    L2.kit_ty (by decide +kernel),
    L2.kit_ty (by decide +kernel),
    L2.kit_ty (by decide +kernel),
    L2.kit_ty (by decide +kernel),
    L2.kit_ty (by decide +kernel),
    L2.kit_ty (by decide +kernel),
    L2.kit_ty (by decide +kernel),
    L2.kit_ty (by decide +kernel),
    L2.kit_ty (by decide +kernel),
    L2.kit_ty (by decide +kernel),
    L2.kit_ty (by decide +kernel),
    PySem.W.mg_of X G na_Kind,
    ⟨_, PySem.W.mg_of X G na_Kind, rfl⟩,
    PySem.W.mg_of X G na_Money,
    ⟨_, PySem.W.mg_of X G na_Money, rfl⟩,
    PySem.W.mg_of X G na_Names,
    ⟨_, PySem.W.mg_of X G na_Names, rfl⟩,
    PySem.W.mg_of X G na_NoAnswer,
    ⟨_, PySem.W.mg_of X G na_NoAnswer, rfl⟩,
    PySem.W.mg_of X G na_NoNumber,
    ⟨_, PySem.W.mg_of X G na_NoNumber, rfl⟩,
    PySem.W.mg_of X G na_Pick,
    ⟨_, PySem.W.mg_of X G na_Pick, rfl⟩,
    PySem.W.mg_of X G na_Whole,
    ⟨_, PySem.W.mg_of X G na_Whole, rfl⟩,
    PySem.W.mg_of X G na_YesNo,
    ⟨_, PySem.W.mg_of X G na_YesNo, rfl⟩,
    xx_NoAnswer,
    excCls_mk pg_NoAnswer pk_NoAnswer kc_NoAnswer ha_NoAnswer hn_NoAnswer tk_NoAnswer mo_NoAnswer mb_NoAnswer,
    xx_NoNumber,
    excCls_mk pg_NoNumber pk_NoNumber kc_NoNumber ha_NoNumber hn_NoNumber tk_NoNumber mo_NoNumber mb_NoNumber,
    exm_ref sb_NoNumber_NoNumber kc_NoNumber kt_NoNumber em_NoNumber_NoNumber,
    exm_ref sb_NoAnswer_NoAnswer kc_NoAnswer kt_NoAnswer em_NoAnswer_NoAnswer,
    ⟨cpg_YesNo, chd_YesNo, cpo_YesNo, csa_YesNo⟩,
    fun _ _ _ _ e => .ins e ⟨cpg_YesNo, chd_YesNo, cpo_YesNo, csa_YesNo⟩ cha_YesNo chn_YesNo ctk_YesNo cmo_YesNo,
    ⟨mkm_YesNo, mki_YesNo, mkf_YesNo, mkk_YesNo⟩,
    ⟨mea_YesNo_fits, mef_YesNo_fits, k12⟩,
    ⟨mea_YesNo_answer_of, mef_YesNo_answer_of, k13⟩,
    ⟨mea_YesNo_shown, mef_YesNo_shown, k14⟩,
    ⟨mea_YesNo_rank, mef_YesNo_rank, k15⟩,
    ⟨mea_YesNo_sample, mef_YesNo_sample, k16⟩,
    ⟨mea_YesNo_read, mef_YesNo_read, k10⟩,
    noa_YesNo_low,
    noa_YesNo_high,
    ⟨cpg_Whole, chd_Whole, cpo_Whole, csa_Whole⟩,
    fun _ _ _ _ e => .ins e ⟨cpg_Whole, chd_Whole, cpo_Whole, csa_Whole⟩ cha_Whole chn_Whole ctk_Whole cmo_Whole,
    ⟨mkm_Whole, mki_Whole, mkf_Whole, mkk_Whole⟩,
    ⟨mea_Whole_fits, mef_Whole_fits, k17⟩,
    ⟨mea_Whole_answer_of, mef_Whole_answer_of, k18⟩,
    ⟨mea_Whole_shown, mef_Whole_shown, k19⟩,
    ⟨mea_Whole_rank, mef_Whole_rank, k20⟩,
    ⟨mea_Whole_sample, mef_Whole_sample, k21⟩,
    ⟨mea_Whole_read, mef_Whole_read, k10⟩,
    noa_Whole_low,
    noa_Whole_high,
    ⟨cpg_Money, chd_Money, cpo_Money, csa_Money⟩,
    fun _ _ _ _ e => .ins e ⟨cpg_Money, chd_Money, cpo_Money, csa_Money⟩ cha_Money chn_Money ctk_Money cmo_Money,
    ⟨mkm_Money, mki_Money, mkf_Money, mkk_Money⟩,
    ⟨mea_Money_fits, mef_Money_fits, k17⟩,
    ⟨mea_Money_answer_of, mef_Money_answer_of, k22⟩,
    ⟨mea_Money_shown, mef_Money_shown, k23⟩,
    ⟨mea_Money_rank, mef_Money_rank, k20⟩,
    ⟨mea_Money_sample, mef_Money_sample, k21⟩,
    ⟨mea_Money_read, mef_Money_read, k10⟩,
    noa_Money_low,
    noa_Money_high,
    ⟨cpg_Pick, chd_Pick, cpo_Pick, csa_Pick⟩,
    fun _ _ _ _ e => .ins e ⟨cpg_Pick, chd_Pick, cpo_Pick, csa_Pick⟩ cha_Pick chn_Pick ctk_Pick cmo_Pick,
    ⟨mkm_Pick, mki_Pick, mkf_Pick, mkk_Pick⟩,
    ⟨mea_Pick_fits, mef_Pick_fits, k25⟩,
    ⟨mea_Pick_answer_of, mef_Pick_answer_of, k26⟩,
    ⟨mea_Pick_shown, mef_Pick_shown, k27⟩,
    ⟨mea_Pick_rank, mef_Pick_rank, k28⟩,
    ⟨mea_Pick_sample, mef_Pick_sample, k29⟩,
    ⟨mea_Pick_read, mef_Pick_read, k10⟩,
    noa_Pick_low,
    noa_Pick_high,
    noa_Pick_words,
    ⟨cpg_Names, chd_Names, cpo_Names, csa_Names⟩,
    fun _ _ _ _ e => .ins e ⟨cpg_Names, chd_Names, cpo_Names, csa_Names⟩ cha_Names chn_Names ctk_Names cmo_Names,
    ⟨mkm_Names, mki_Names, mkf_Names, mkk_Names⟩,
    ⟨mea_Names_fits, mef_Names_fits, k31⟩,
    ⟨mea_Names_answer_of, mef_Names_answer_of, k32⟩,
    ⟨mea_Names_shown, mef_Names_shown, k33⟩,
    ⟨mea_Names_rank, mef_Names_rank, k34⟩,
    ⟨mea_Names_sample, mef_Names_sample, k35⟩,
    ⟨mea_Names_read, mef_Names_read, k10⟩,
    noa_Names_low,
    noa_Names_high,
    ⟨cfr_Kind_init, cfa_Kind_init, cfs_Kind_init, k9⟩⟩⟩
theorem walk {l : PySem.W.OpenLaw} {q : Program} {loose : List Str} {XP : (Str → Option Value) → Heap → Prop} {YP : World → Heap → Prop} {d : DefRec} {K : Params → PySem.W.Frag} (hn : l.most = some 63) (hdf : d.params.defaults = []) (hnm : d.name = "law")
    (hY : ∀ (w : World) (h : Heap), YP w h → (K w.params).In h)
    (F : ∀ (w : World) (mg : Str → Option Value) (h : Heap), (K w.params).In h → h.Ns mainGlobals mg → ∃ A : Adr, Txt (K w.params) mg A) :
    PySem.W.WalkO q loose XP YP l.row.toRowW d [] (fun f vs => PySem.call f vs) := by
  refine L2.walk_ofB (n := 63) (k := 9) (x := "_law_script") (CX := fun _ => CX0) (sp := fun w => sp_law (K w.params)) hn (by decide) hdf ⟨rfl, by decide, by decide⟩ hY (fun w mg fa h KX G hmg => ?_) (fun w H a ns hl hb _ hS => ⟨a, ns, rfl, hS, hl, hb, fun _ => rfl⟩) fun _ _ _ _ _ z => z
  obtain ⟨A, T⟩ := F w mg h KX G
  rw [hnm] at hmg
  have e := hmg.symm.trans T.m_law
  cases e
  obtain ⟨oc, od, kV, doc, pm, an, cdv, ct, osl, efd, lk, hcd⟩ := id T.F_law.ex
  exact ⟨A.d_law, fun s v => by rw [efd]; exact .of_eq rfl, fun base _ _ => ok_law T⟩
end K08
/-! these names are taken so that the head writes no twins of whole heaps (their proofs grow with the square of the objects, past what an olean may weigh) -/
def PySem.W.Fast.tw13041841226358419969 : Unit := ()
def PySem.W.Fast.tw3653620305168713306 : Unit := ()
def PySem.W.Fast.tw12055329802218963182 : Unit := ()
def PySem.W.Fast.tw18334119309765372667 : Unit := ()
def PySem.W.Fast.tw4987397303635609645 : Unit := ()
def PySem.W.Fast.tw16355169845816344482 : Unit := ()
def PySem.W.Fast.tw4908490216778124623 : Unit := ()
def PySem.W.Fast.tw18243606778655151612 : Unit := ()
def PySem.W.Fast.tw17481293203396191634 : Unit := ()
def PySem.W.Fast.tw12973984730306808250 : Unit := ()
def PySem.W.Fast.tw3353160811057897225 : Unit := ()
def PySem.W.Fast.tw18125951700266806050 : Unit := ()
def PySem.W.Fast.tw14365860936392412233 : Unit := ()
def PySem.W.Fast.tw7674639707087541251 : Unit := ()
def PySem.W.Fast.tw3737416735817839239 : Unit := ()
def PySem.W.Fast.tw7214219839223760774 : Unit := ()
open PySem PySem.W PyProof.Rows
set_option maxRecDepth 100000 in
set_option maxHeartbeats 0 in
theorem PySem.Challenge.cw_askpaper_k08_whole_written_one_way_holds : PySem.Challenge.rw_askpaper_k08_whole_written_one_way.Holds := by
  w_on; o_law; k_head; (case hw => w_witness2)
  k_fill
  refine K08.walk (l := PySem.Challenge.rw_askpaper_k08_whole_written_one_way) rfl rfl rfl (fun w h Y => PySem.W.kIn_of Y) ?F
  case F =>
    intro w mg h KX G
    have T : ∃ A : K08.Adr, K08.Txt (L2.KOf KX) mg A := by
      dsimp only [L2.KOf]
      refine' K08.txt_mk KX G ?zzna_Kind ?zzna_Money ?zzna_Names ?zzna_NoAnswer ?zzna_NoNumber ?zzna_Pick ?zzna_Whole ?zzna_YesNo ?zza0 ?zzl0 ?zzc0 ?zzk0 ?zza1 ?zzl1 ?zzc1 ?zzk1 ?zza2 ?zzl2 ?zzc2 ?zzk2 ?zza3 ?zzl3 ?zzc3 ?zzk3 ?zza4 ?zzl4 ?zzc4 ?zzk4 ?zza5 ?zzl5 ?zzc5 ?zzk5 ?zzdl5 ?zza6 ?zzl6 ?zzc6 ?zzk6 ?zza7 ?zzl7 ?zzc7 ?zzk7 ?zza8 ?zzl8 ?zzc8 ?zzk8 ?zza9 ?zzl9 ?zzc9 ?zzk9 ?zza10 ?zzl10 ?zzc10 ?zzk10 ?zza11 ?zzl11 ?zzc11 ?zzk11 ?zza12 ?zzl12 ?zzc12 ?zzk12 ?zza13 ?zzl13 ?zzc13 ?zzk13 ?zza14 ?zzl14 ?zzc14 ?zzk14 ?zza15 ?zzl15 ?zzc15 ?zzk15 ?zza16 ?zzl16 ?zzc16 ?zzk16 ?zza17 ?zzl17 ?zzc17 ?zzk17 ?zza18 ?zzl18 ?zzc18 ?zzk18 ?zza19 ?zzl19 ?zzc19 ?zzk19 ?zza20 ?zzl20 ?zzc20 ?zzk20 ?zza21 ?zzl21 ?zzc21 ?zzk21 ?zza22 ?zzl22 ?zzc22 ?zzk22 ?zza23 ?zzl23 ?zzc23 ?zzk23 ?zza24 ?zzl24 ?zzc24 ?zzk24 ?zza25 ?zzl25 ?zzc25 ?zzk25 ?zza26 ?zzl26 ?zzc26 ?zzk26 ?zza27 ?zzl27 ?zzc27 ?zzk27 ?zza28 ?zzl28 ?zzc28 ?zzk28 ?zza29 ?zzl29 ?zzc29 ?zzk29 ?zza30 ?zzl30 ?zzc30 ?zzk30 ?zzdl30 ?zza31 ?zzl31 ?zzc31 ?zzk31 ?zza32 ?zzl32 ?zzc32 ?zzk32 ?zza33 ?zzl33 ?zzc33 ?zzk33 ?zza34 ?zzl34 ?zzc34 ?zzk34 ?zza35 ?zzl35 ?zzc35 ?zzk35 ?zza36 ?zzl36 ?zzc36 ?zzk36 ?zza37 ?zzl37 ?zzc37 ?zzk37 ?zza38 ?zzl38 ?zzc38 ?zzk38 ?zza39 ?zzl39 ?zzc39 ?zzk39 ?zza40 ?zzl40 ?zzc40 ?zzk40 ?zza41 ?zzl41 ?zzc41 ?zzk41 ?zza42 ?zzl42 ?zzc42 ?zzk42 ?zza43 ?zzl43 ?zzc43 ?zzk43 ?zza44 ?zzl44 ?zzc44 ?zzk44 ?zza45 ?zzl45 ?zzc45 ?zzk45 ?zza46 ?zzl46 ?zzc46 ?zzk46 ?zza47 ?zzl47 ?zzc47 ?zzk47 ?zza48 ?zzl48 ?zzc48 ?zzk48 ?zza49 ?zzl49 ?zzc49 ?zzk49 ?zza50 ?zzl50 ?zzc50 ?zzk50 ?zza51 ?zzl51 ?zzc51 ?zzk51 ?zzg0 ?zzg1 ?zzg2 ?zzg3 ?zzg4 ?zzgl4 ?zzgc4 ?zzgz4 ?zzgv4 ?zzg5 ?zzgl5 ?zzgc5 ?zzgz5 ?zzgv5 ?zzg6 ?zzgl6 ?zzgy6 ?zzgc6 ?zzgq6 ?zzgz6 ?zzgv6 ?zzz_abs ?zzz_all ?zzz_bool ?zzz_int ?zzz_isinstance ?zzz_len ?zzz_list ?zzz_range ?zzz_set ?zzz_str ?zzz_tuple ?zzkc_NoAnswer ?zzkt_NoAnswer ?zzkc_NoNumber ?zzkt_NoNumber ?zzxx_NoAnswer ?zzpg_NoAnswer ?zzpk_NoAnswer ?zzha_NoAnswer ?zzhn_NoAnswer ?zztk_NoAnswer ?zzmo_NoAnswer ?zzmb_NoAnswer ?zzxx_NoNumber ?zzpg_NoNumber ?zzpk_NoNumber ?zzha_NoNumber ?zzhn_NoNumber ?zztk_NoNumber ?zzmo_NoNumber ?zzmb_NoNumber ?zzsb_NoNumber_NoNumber ?zzem_NoNumber_NoNumber ?zzsb_NoAnswer_NoAnswer ?zzem_NoAnswer_NoAnswer ?zzcpg_YesNo ?zzchd_YesNo ?zzcpo_YesNo ?zzcsa_YesNo ?zzcha_YesNo ?zzchn_YesNo ?zzctk_YesNo ?zzcmo_YesNo ?zzmkm_YesNo ?zzmki_YesNo ?zzmkf_YesNo ?zzmkk_YesNo ?zzmea_YesNo_fits ?zzmef_YesNo_fits ?zzmea_YesNo_answer_of ?zzmef_YesNo_answer_of ?zzmea_YesNo_shown ?zzmef_YesNo_shown ?zzmea_YesNo_rank ?zzmef_YesNo_rank ?zzmea_YesNo_sample ?zzmef_YesNo_sample ?zzmea_YesNo_read ?zzmef_YesNo_read ?zznoa_YesNo_low ?zznoa_YesNo_high ?zzcpg_Whole ?zzchd_Whole ?zzcpo_Whole ?zzcsa_Whole ?zzcha_Whole ?zzchn_Whole ?zzctk_Whole ?zzcmo_Whole ?zzmkm_Whole ?zzmki_Whole ?zzmkf_Whole ?zzmkk_Whole ?zzmea_Whole_fits ?zzmef_Whole_fits ?zzmea_Whole_answer_of ?zzmef_Whole_answer_of ?zzmea_Whole_shown ?zzmef_Whole_shown ?zzmea_Whole_rank ?zzmef_Whole_rank ?zzmea_Whole_sample ?zzmef_Whole_sample ?zzmea_Whole_read ?zzmef_Whole_read ?zznoa_Whole_low ?zznoa_Whole_high ?zzcpg_Money ?zzchd_Money ?zzcpo_Money ?zzcsa_Money ?zzcha_Money ?zzchn_Money ?zzctk_Money ?zzcmo_Money ?zzmkm_Money ?zzmki_Money ?zzmkf_Money ?zzmkk_Money ?zzmea_Money_fits ?zzmef_Money_fits ?zzmea_Money_answer_of ?zzmef_Money_answer_of ?zzmea_Money_shown ?zzmef_Money_shown ?zzmea_Money_rank ?zzmef_Money_rank ?zzmea_Money_sample ?zzmef_Money_sample ?zzmea_Money_read ?zzmef_Money_read ?zznoa_Money_low ?zznoa_Money_high ?zzcpg_Pick ?zzchd_Pick ?zzcpo_Pick ?zzcsa_Pick ?zzcha_Pick ?zzchn_Pick ?zzctk_Pick ?zzcmo_Pick ?zzmkm_Pick ?zzmki_Pick ?zzmkf_Pick ?zzmkk_Pick ?zzmea_Pick_fits ?zzmef_Pick_fits ?zzmea_Pick_answer_of ?zzmef_Pick_answer_of ?zzmea_Pick_shown ?zzmef_Pick_shown ?zzmea_Pick_rank ?zzmef_Pick_rank ?zzmea_Pick_sample ?zzmef_Pick_sample ?zzmea_Pick_read ?zzmef_Pick_read ?zznoa_Pick_low ?zznoa_Pick_high ?zznoa_Pick_words ?zzcpg_Names ?zzchd_Names ?zzcpo_Names ?zzcsa_Names ?zzcha_Names ?zzchn_Names ?zzctk_Names ?zzcmo_Names ?zzmkm_Names ?zzmki_Names ?zzmkf_Names ?zzmkk_Names ?zzmea_Names_fits ?zzmef_Names_fits ?zzmea_Names_answer_of ?zzmef_Names_answer_of ?zzmea_Names_shown ?zzmef_Names_shown ?zzmea_Names_rank ?zzmef_Names_rank ?zzmea_Names_sample ?zzmef_Names_sample ?zzmea_Names_read ?zzmef_Names_read ?zznoa_Names_low ?zznoa_Names_high ?zzcfr_Kind_init ?zzcfa_Kind_init ?zzcfs_Kind_init
      (case zzna_Kind => k_is)
      (case zzna_Money => k_is)
      (case zzna_Names => k_is)
      (case zzna_NoAnswer => k_is)
      (case zzna_NoNumber => k_is)
      (case zzna_Pick => k_is)
      (case zzna_Whole => k_is)
      (case zzna_YesNo => k_is)
      (case zza0 => k_is)
      (case zzl0 => k_is)
      (case zzc0 => k_is)
      (case zzk0 => k_is)
      (case zza1 => k_is)
      (case zzl1 => k_is)
      (case zzc1 => k_is)
      (case zzk1 => k_is)
      (case zza2 => k_is)
      (case zzl2 => k_is)
      (case zzc2 => k_is)
      (case zzk2 => k_is)
      (case zza3 => k_is)
      (case zzl3 => k_is)
      (case zzc3 => k_is)
      (case zzk3 => k_is)
      (case zza4 => k_is)
      (case zzl4 => k_is)
      (case zzc4 => k_is)
      (case zzk4 => k_is)
      (case zza5 => k_is)
      (case zzl5 => k_is)
      (case zzc5 => k_is)
      (case zzk5 => k_is)
      (case zzdl5 => k_is)
      (case zza6 => k_is)
      (case zzl6 => k_is)
      (case zzc6 => k_is)
      (case zzk6 => k_is)
      (case zza7 => k_is)
      (case zzl7 => k_is)
      (case zzc7 => k_is)
      (case zzk7 => k_is)
      (case zza8 => k_is)
      (case zzl8 => k_is)
      (case zzc8 => k_is)
      (case zzk8 => k_is)
      (case zza9 => k_is)
      (case zzl9 => k_is)
      (case zzc9 => k_is)
      (case zzk9 => k_is)
      (case zza10 => k_is)
      (case zzl10 => k_is)
      (case zzc10 => k_is)
      (case zzk10 => k_is)
      (case zza11 => k_is)
      (case zzl11 => k_is)
      (case zzc11 => k_is)
      (case zzk11 => k_is)
      (case zza12 => k_is)
      (case zzl12 => k_is)
      (case zzc12 => k_is)
      (case zzk12 => k_is)
      (case zza13 => k_is)
      (case zzl13 => k_is)
      (case zzc13 => k_is)
      (case zzk13 => k_is)
      (case zza14 => k_is)
      (case zzl14 => k_is)
      (case zzc14 => k_is)
      (case zzk14 => k_is)
      (case zza15 => k_is)
      (case zzl15 => k_is)
      (case zzc15 => k_is)
      (case zzk15 => k_is)
      (case zza16 => k_is)
      (case zzl16 => k_is)
      (case zzc16 => k_is)
      (case zzk16 => k_is)
      (case zza17 => k_is)
      (case zzl17 => k_is)
      (case zzc17 => k_is)
      (case zzk17 => k_is)
      (case zza18 => k_is)
      (case zzl18 => k_is)
      (case zzc18 => k_is)
      (case zzk18 => k_is)
      (case zza19 => k_is)
      (case zzl19 => k_is)
      (case zzc19 => k_is)
      (case zzk19 => k_is)
      (case zza20 => k_is)
      (case zzl20 => k_is)
      (case zzc20 => k_is)
      (case zzk20 => k_is)
      (case zza21 => k_is)
      (case zzl21 => k_is)
      (case zzc21 => k_is)
      (case zzk21 => k_is)
      (case zza22 => k_is)
      (case zzl22 => k_is)
      (case zzc22 => k_is)
      (case zzk22 => k_is)
      (case zza23 => k_is)
      (case zzl23 => k_is)
      (case zzc23 => k_is)
      (case zzk23 => k_is)
      (case zza24 => k_is)
      (case zzl24 => k_is)
      (case zzc24 => k_is)
      (case zzk24 => k_is)
      (case zza25 => k_is)
      (case zzl25 => k_is)
      (case zzc25 => k_is)
      (case zzk25 => k_is)
      (case zza26 => k_is)
      (case zzl26 => k_is)
      (case zzc26 => k_is)
      (case zzk26 => k_is)
      (case zza27 => k_is)
      (case zzl27 => k_is)
      (case zzc27 => k_is)
      (case zzk27 => k_is)
      (case zza28 => k_is)
      (case zzl28 => k_is)
      (case zzc28 => k_is)
      (case zzk28 => k_is)
      (case zza29 => k_is)
      (case zzl29 => k_is)
      (case zzc29 => k_is)
      (case zzk29 => k_is)
      (case zza30 => k_is)
      (case zzl30 => k_is)
      (case zzc30 => k_is)
      (case zzk30 => k_is)
      (case zzdl30 => k_is)
      (case zza31 => k_is)
      (case zzl31 => k_is)
      (case zzc31 => k_is)
      (case zzk31 => k_is)
      (case zza32 => k_is)
      (case zzl32 => k_is)
      (case zzc32 => k_is)
      (case zzk32 => k_is)
      (case zza33 => k_is)
      (case zzl33 => k_is)
      (case zzc33 => k_is)
      (case zzk33 => k_is)
      (case zza34 => k_is)
      (case zzl34 => k_is)
      (case zzc34 => k_is)
      (case zzk34 => k_is)
      (case zza35 => k_is)
      (case zzl35 => k_is)
      (case zzc35 => k_is)
      (case zzk35 => k_is)
      (case zza36 => k_is)
      (case zzl36 => k_is)
      (case zzc36 => k_is)
      (case zzk36 => k_is)
      (case zza37 => k_is)
      (case zzl37 => k_is)
      (case zzc37 => k_is)
      (case zzk37 => k_is)
      (case zza38 => k_is)
      (case zzl38 => k_is)
      (case zzc38 => k_is)
      (case zzk38 => k_is)
      (case zza39 => k_is)
      (case zzl39 => k_is)
      (case zzc39 => k_is)
      (case zzk39 => k_is)
      (case zza40 => k_is)
      (case zzl40 => k_is)
      (case zzc40 => k_is)
      (case zzk40 => k_is)
      (case zza41 => k_is)
      (case zzl41 => k_is)
      (case zzc41 => k_is)
      (case zzk41 => k_is)
      (case zza42 => k_is)
      (case zzl42 => k_is)
      (case zzc42 => k_is)
      (case zzk42 => k_is)
      (case zza43 => k_is)
      (case zzl43 => k_is)
      (case zzc43 => k_is)
      (case zzk43 => k_is)
      (case zza44 => k_is)
      (case zzl44 => k_is)
      (case zzc44 => k_is)
      (case zzk44 => k_is)
      (case zza45 => k_is)
      (case zzl45 => k_is)
      (case zzc45 => k_is)
      (case zzk45 => k_is)
      (case zza46 => k_is)
      (case zzl46 => k_is)
      (case zzc46 => k_is)
      (case zzk46 => k_is)
      (case zza47 => k_is)
      (case zzl47 => k_is)
      (case zzc47 => k_is)
      (case zzk47 => k_is)
      (case zza48 => k_is)
      (case zzl48 => k_is)
      (case zzc48 => k_is)
      (case zzk48 => k_is)
      (case zza49 => k_is)
      (case zzl49 => k_is)
      (case zzc49 => k_is)
      (case zzk49 => k_is)
      (case zza50 => k_is)
      (case zzl50 => k_is)
      (case zzc50 => k_is)
      (case zzk50 => k_is)
      (case zza51 => k_is)
      (case zzl51 => k_is)
      (case zzc51 => k_is)
      (case zzk51 => k_is)
      (case zzg0 => k_is)
      (case zzg1 => k_is)
      (case zzg2 => k_is)
      (case zzg3 => k_is)
      (case zzg4 => k_is)
      (case zzgl4 => k_is)
      (case zzgc4 => rfl)
      (case zzgz4 => exact Nat.le_of_ble_eq_true rfl)
      (case zzgv4 => exact .cons ⟨_, rfl⟩ (.cons ⟨_, rfl⟩ (.cons ⟨_, rfl⟩ (.cons ⟨_, rfl⟩ (.cons ⟨_, rfl⟩ (.cons ⟨_, rfl⟩ (.cons ⟨_, rfl⟩ (.cons ⟨_, rfl⟩ (.nil)))))))))
      (case zzg5 => k_is)
      (case zzgl5 => k_is)
      (case zzgc5 => rfl)
      (case zzgz5 => exact Nat.le_of_ble_eq_true rfl)
      (case zzgv5 => exact .cons ⟨_, rfl⟩ (.cons ⟨_, rfl⟩ (.cons ⟨_, rfl⟩ (.cons ⟨_, rfl⟩ (.cons ⟨_, rfl⟩ (.cons ⟨_, rfl⟩ (.nil)))))))
      (case zzg6 => k_is)
      (case zzgl6 => k_is)
      (case zzgy6 => rfl)
      (case zzgc6 => rfl)
      (case zzgq6 => rfl)
      (case zzgz6 => rfl)
      (case zzgv6 => exact .cons rfl rfl (.cons rfl rfl (.nil)))
      (case zzz_abs => k_is)
      (case zzz_all => k_is)
      (case zzz_bool => k_is)
      (case zzz_int => k_is)
      (case zzz_isinstance => k_is)
      (case zzz_len => k_is)
      (case zzz_list => k_is)
      (case zzz_range => k_is)
      (case zzz_set => k_is)
      (case zzz_str => k_is)
      (case zzz_tuple => k_is)
      (case zzkc_NoAnswer => k_is)
      (case zzkt_NoAnswer => k_is)
      (case zzkc_NoNumber => k_is)
      (case zzkt_NoNumber => k_is)
      (case zzxx_NoAnswer => k_exc)
      (case zzpg_NoAnswer => k_is)
      (case zzpk_NoAnswer => k_is)
      (case zzha_NoAnswer => k_is)
      (case zzhn_NoAnswer => k_is)
      (case zztk_NoAnswer => k_is)
      (case zzmo_NoAnswer => k_is)
      (case zzmb_NoAnswer => k_is)
      (case zzxx_NoNumber => k_exc)
      (case zzpg_NoNumber => k_is)
      (case zzpk_NoNumber => k_is)
      (case zzha_NoNumber => k_is)
      (case zzhn_NoNumber => k_is)
      (case zztk_NoNumber => k_is)
      (case zzmo_NoNumber => k_is)
      (case zzmb_NoNumber => k_is)
      (case zzsb_NoNumber_NoNumber => k_is)
      (case zzem_NoNumber_NoNumber => k_is)
      (case zzsb_NoAnswer_NoAnswer => k_is)
      (case zzem_NoAnswer_NoAnswer => k_is)
      (case zzcpg_YesNo => k_is)
      (case zzchd_YesNo => k_is)
      (case zzcpo_YesNo => k_is)
      (case zzcsa_YesNo => k_is)
      (case zzcha_YesNo => k_is)
      (case zzchn_YesNo => k_is)
      (case zzctk_YesNo => k_is)
      (case zzcmo_YesNo => k_is)
      (case zzmkm_YesNo => k_is)
      (case zzmki_YesNo => k_is)
      (case zzmkf_YesNo => k_is)
      (case zzmkk_YesNo => k_is)
      (case zzmea_YesNo_fits => k_is)
      (case zzmef_YesNo_fits => k_is)
      (case zzmea_YesNo_answer_of => k_is)
      (case zzmef_YesNo_answer_of => k_is)
      (case zzmea_YesNo_shown => k_is)
      (case zzmef_YesNo_shown => k_is)
      (case zzmea_YesNo_rank => k_is)
      (case zzmef_YesNo_rank => k_is)
      (case zzmea_YesNo_sample => k_is)
      (case zzmef_YesNo_sample => k_is)
      (case zzmea_YesNo_read => k_is)
      (case zzmef_YesNo_read => k_is)
      (case zznoa_YesNo_low => k_is)
      (case zznoa_YesNo_high => k_is)
      (case zzcpg_Whole => k_is)
      (case zzchd_Whole => k_is)
      (case zzcpo_Whole => k_is)
      (case zzcsa_Whole => k_is)
      (case zzcha_Whole => k_is)
      (case zzchn_Whole => k_is)
      (case zzctk_Whole => k_is)
      (case zzcmo_Whole => k_is)
      (case zzmkm_Whole => k_is)
      (case zzmki_Whole => k_is)
      (case zzmkf_Whole => k_is)
      (case zzmkk_Whole => k_is)
      (case zzmea_Whole_fits => k_is)
      (case zzmef_Whole_fits => k_is)
      (case zzmea_Whole_answer_of => k_is)
      (case zzmef_Whole_answer_of => k_is)
      (case zzmea_Whole_shown => k_is)
      (case zzmef_Whole_shown => k_is)
      (case zzmea_Whole_rank => k_is)
      (case zzmef_Whole_rank => k_is)
      (case zzmea_Whole_sample => k_is)
      (case zzmef_Whole_sample => k_is)
      (case zzmea_Whole_read => k_is)
      (case zzmef_Whole_read => k_is)
      (case zznoa_Whole_low => k_is)
      (case zznoa_Whole_high => k_is)
      (case zzcpg_Money => k_is)
      (case zzchd_Money => k_is)
      (case zzcpo_Money => k_is)
      (case zzcsa_Money => k_is)
      (case zzcha_Money => k_is)
      (case zzchn_Money => k_is)
      (case zzctk_Money => k_is)
      (case zzcmo_Money => k_is)
      (case zzmkm_Money => k_is)
      (case zzmki_Money => k_is)
      (case zzmkf_Money => k_is)
      (case zzmkk_Money => k_is)
      (case zzmea_Money_fits => k_is)
      (case zzmef_Money_fits => k_is)
      (case zzmea_Money_answer_of => k_is)
      (case zzmef_Money_answer_of => k_is)
      (case zzmea_Money_shown => k_is)
      (case zzmef_Money_shown => k_is)
      (case zzmea_Money_rank => k_is)
      (case zzmef_Money_rank => k_is)
      (case zzmea_Money_sample => k_is)
      (case zzmef_Money_sample => k_is)
      (case zzmea_Money_read => k_is)
      (case zzmef_Money_read => k_is)
      (case zznoa_Money_low => k_is)
      (case zznoa_Money_high => k_is)
      (case zzcpg_Pick => k_is)
      (case zzchd_Pick => k_is)
      (case zzcpo_Pick => k_is)
      (case zzcsa_Pick => k_is)
      (case zzcha_Pick => k_is)
      (case zzchn_Pick => k_is)
      (case zzctk_Pick => k_is)
      (case zzcmo_Pick => k_is)
      (case zzmkm_Pick => k_is)
      (case zzmki_Pick => k_is)
      (case zzmkf_Pick => k_is)
      (case zzmkk_Pick => k_is)
      (case zzmea_Pick_fits => k_is)
      (case zzmef_Pick_fits => k_is)
      (case zzmea_Pick_answer_of => k_is)
      (case zzmef_Pick_answer_of => k_is)
      (case zzmea_Pick_shown => k_is)
      (case zzmef_Pick_shown => k_is)
      (case zzmea_Pick_rank => k_is)
      (case zzmef_Pick_rank => k_is)
      (case zzmea_Pick_sample => k_is)
      (case zzmef_Pick_sample => k_is)
      (case zzmea_Pick_read => k_is)
      (case zzmef_Pick_read => k_is)
      (case zznoa_Pick_low => k_is)
      (case zznoa_Pick_high => k_is)
      (case zznoa_Pick_words => k_is)
      (case zzcpg_Names => k_is)
      (case zzchd_Names => k_is)
      (case zzcpo_Names => k_is)
      (case zzcsa_Names => k_is)
      (case zzcha_Names => k_is)
      (case zzchn_Names => k_is)
      (case zzctk_Names => k_is)
      (case zzcmo_Names => k_is)
      (case zzmkm_Names => k_is)
      (case zzmki_Names => k_is)
      (case zzmkf_Names => k_is)
      (case zzmkk_Names => k_is)
      (case zzmea_Names_fits => k_is)
      (case zzmef_Names_fits => k_is)
      (case zzmea_Names_answer_of => k_is)
      (case zzmef_Names_answer_of => k_is)
      (case zzmea_Names_shown => k_is)
      (case zzmef_Names_shown => k_is)
      (case zzmea_Names_rank => k_is)
      (case zzmef_Names_rank => k_is)
      (case zzmea_Names_sample => k_is)
      (case zzmef_Names_sample => k_is)
      (case zzmea_Names_read => k_is)
      (case zzmef_Names_read => k_is)
      (case zznoa_Names_low => k_is)
      (case zznoa_Names_high => k_is)
      (case zzcfr_Kind_init => k_is)
      (case zzcfa_Kind_init => k_is)
      (case zzcfs_Kind_init => k_is)
    exact T
#print axioms PySem.Challenge.cw_askpaper_k08_whole_written_one_way_holds
