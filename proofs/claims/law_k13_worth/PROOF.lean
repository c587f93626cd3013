import PyProof.Rows.All
import Wide.All
import OpenK.AllK
import Wide.FinOn
import Lean
import PyProof.EqAt
import PyProof.EqKinds
import PyProof.TupleCall
import PySem.Challenge.RW_askpaper_k13_worth
set_option Elab.async false
set_option linter.all false
set_option maxRecDepth 100000
/-! THE HAND LAYER, for ints, bools, texts, own classes, LISTS and tuples (index, slices, in, append, pop ..), calls, loops. Paste it whole ahead of your own text; what your proof does not reach may be deleted. -/
namespace L2
open PySem PySem.Spec PyProof.Rows

/-- a key: an int or a str -/
abbrev Key := Sum Int Str
def keyIs : Key → Value → Bool
  | .inl k, v => Value.isInt k v
  | .inr x, v => Value.isStrOf x v
def keyH (w : World) : Key → Int
  | .inl k => hashInt k
  | .inr x => hashStr w x
theorem keyIs_shape : ∀ {k : Key} {v : Value}, keyIs k v = true → (∃ i t, k = Sum.inl i ∧ v = Value.int i t) ∨ (∃ x t, k = Sum.inr x ∧ v = Value.str x t)
  | .inl i, v, h => by
    obtain ⟨t, e⟩ := Value.isInt_shape (k := i) (v := v) h
    exact .inl ⟨i, t, rfl, e⟩
  | .inr x, v, h => by
    obtain ⟨t, e⟩ := Value.isStrOf_shape (x := x) (v := v) h
    exact .inr ⟨x, t, rfl, e⟩
theorem keyIs_int (i : Int) (t : Tok) : keyIs (.inl i) (.int i t) = true := by simp [keyIs, Value.isInt]
theorem keyIs_str (x : Str) (t : Tok) : keyIs (.inr x) (.str x t) = true := by simp [keyIs, Value.isStrOf]
theorem key_ll (a b : Int) : decide ((Sum.inl a : Key) = Sum.inl b) = (a == b) := by
  by_cases e : a = b
  · subst e; simp
  · have h : ¬ (Sum.inl a : Key) = Sum.inl b := fun q => e (Sum.inl.inj q)
    rw [decide_eq_false h]
    exact (beq_eq_false_iff_ne.mpr e).symm
theorem key_rr (a b : Str) : decide ((Sum.inr a : Key) = Sum.inr b) = decide (a = b) := by
  by_cases e : a = b
  · subst e; simp
  · have h : ¬ (Sum.inr a : Key) = Sum.inr b := fun q => e (Sum.inr.inj q)
    rw [decide_eq_false h, decide_eq_false e]
theorem key_lr (a : Int) (b : Str) : decide ((Sum.inl a : Key) = Sum.inr b) = false := decide_eq_false (fun q => nomatch q)
theorem key_rl (a : Str) (b : Int) : decide ((Sum.inr a : Key) = Sum.inl b) = false := decide_eq_false (fun q => nomatch q)

def mixKind (prog : Program) (w : World) : PySem.KeyKind prog w Key where
  is := keyIs
  hash := keyH w
  inj := fun v a b ha hb => by
    rcases keyIs_shape ha with ⟨i, t, rfl, rfl⟩ | ⟨x, t, rfl, rfl⟩
    · rcases keyIs_shape hb with ⟨j, u, rfl, e⟩ | ⟨y, u, rfl, e⟩
      · injection e with e1 _; rw [e1]
      · exact nomatch e
    · rcases keyIs_shape hb with ⟨j, u, rfl, e⟩ | ⟨y, u, rfl, e⟩
      · exact nomatch e
      · injection e with e1 _; rw [e1]
  byValue := fun k v h => by
    rcases keyIs_shape h with ⟨i, t, rfl, rfl⟩ | ⟨x, t, rfl, rfl⟩ <;> rfl
  pyHash := fun hv h => by
    rcases keyIs_shape hv with ⟨i, t, rfl, rfl⟩ | ⟨x, t, rfl, rfl⟩
    · exact wpAny_pyHash_int h
    · exact wpAny_pyHash_str h
  eqBool := fun hu hv h => by
    rcases keyIs_shape hu with ⟨i, t, rfl, rfl⟩ | ⟨x, t, rfl, rfl⟩
    · rcases keyIs_shape hv with ⟨j, u, rfl, rfl⟩ | ⟨y, u, rfl, rfl⟩
      · rw [key_ll] at h; exact wpAny_eqBool_int h
      · rw [key_lr] at h; exact SeqAt.EqAt.int_str i t y u _ _ _ _ h
    · rcases keyIs_shape hv with ⟨j, u, rfl, rfl⟩ | ⟨y, u, rfl, rfl⟩
      · rw [key_rl] at h; exact SeqAt.EqAt.str_int x t j u _ _ _ _ h
      · rw [key_rr] at h; exact wpAny_eqBool_str h
  «strs» := fun k x t v h => by
    rcases keyIs_shape h with ⟨i, u, rfl, e⟩ | ⟨y, u, rfl, e⟩
    · exact nomatch e
    · injection e with e1 _
      subst e1
      cases v <;> rfl

theorem mixKind_int (prog : Program) (w : World) (i : Int) (t : Tok) : (mixKind prog w).is (.inl i) (.int i t) = true := keyIs_int i t
theorem mixKind_str (prog : Program) (w : World) (x : Str) (t : Tok) : (mixKind prog w).is (.inr x) (.str x t) = true := keyIs_str x t
end L2

namespace L2
open PySem PySem.Spec PyProof.Rows

/-- a value, without the heap -/
inductive V where
  | non | bl (b : Bool) | int (i : Int) | str (x : Str) | byt (b : Array UInt8) | flt (b : UInt64) | ref (a : Addr) | ty (n : String)
  deriving DecidableEq

def RelV : V → Value → Prop
  | .non, u => u = Value.none
  | .bl b, u => u = Value.bool b
  | .int i, u => ∃ t, u = Value.int i t
  | .str x, u => ∃ t, u = Value.str x t
  | .byt b, u => ∃ t, u = Value.bytes b t
  | .flt b, u => ∃ t, u = Value.float b t
  | .ref a, u => u = Value.ref a
  | .ty n, u => u = Value.type n

abbrev Vals : List V → List Value → Prop := Paired RelV
theorem Vals.length {xs : List V} {us : List Value} (r : Vals xs us) : xs.length = us.length := Paired.length r
theorem Vals.get : ∀ {xs : List V} {us : List Value} {i : Nat} {x : V}, Vals xs us → xs[i]? = some x → ∃ u, us[i]? = some u ∧ RelV x u
  | _, _, _, _, .nil, e => by simp at e
  | _, _, 0, _, .cons r _, e => by simp at e; subst e; exact ⟨_, rfl, r⟩
  | _, _, i + 1, x, .cons _ t, e => by
    obtain ⟨u, h1, h2⟩ := Vals.get (i := i) (x := x) t (by simpa using e)
    exact ⟨u, by simpa using h1, h2⟩
theorem Vals.set {x : V} {u : Value} (r : RelV x u) : ∀ {xs : List V} {us : List Value} (i : Nat), Vals xs us → Vals (xs.set i x) (us.set i u)
  | _, _, _, .nil => .nil
  | _, _, 0, .cons _ t => .cons r t
  | _, _, i + 1, .cons q t => .cons q (Vals.set r i t)
theorem Vals.append : ∀ {xs ys : List V} {us ws : List Value}, Vals xs us → Vals ys ws → Vals (xs ++ ys) (us ++ ws)
  | _, _, _, _, .nil, s => s
  | _, _, _, _, .cons r t, s => .cons r (Vals.append t s)
theorem Vals.take : ∀ {xs : List V} {us : List Value} (n : Nat), Vals xs us → Vals (xs.take n) (us.take n)
  | _, _, 0, _ => .nil
  | _, _, _ + 1, .nil => .nil
  | _, _, n + 1, .cons r t => .cons r (Vals.take n t)
theorem Vals.drop : ∀ {xs : List V} {us : List Value} (n : Nat), Vals xs us → Vals (xs.drop n) (us.drop n)
  | _, _, 0, r => r
  | _, _, _ + 1, .nil => .nil
  | _, _, n + 1, .cons _ t => Vals.drop n t
def RelO : Option V → Option Value → Prop
  | some v, some u => RelV v u
  | none, none => True
  | _, _ => False
def KV {κ : Type} : List (κ × V) → List (κ × Value) → Prop := Paired fun (p : κ × V) (q : κ × Value) => p.1 = q.1 ∧ RelV p.2 q.2

/-- a key of a dict (00_mix): an int or a text -/
def kV : Key → V
  | .inl i => .int i
  | .inr x => .str x

/-- what stands at a tracked address -/
inductive HO where
  /-- a list -/
  | lst (xs : List V)
  /-- a tuple (never changes) -/
  | tup (xs : List V)
  /-- a dict whose keys are ints and texts; one whose keys are tuples of ints and texts (the empty one is both) -/
  | dK (kvs : List (Key × V)) | dT (kvs : List (List Key × V))
  /-- a set of ints: its members, its size -/
  | set (S : Int → Bool) (n : Nat)
  /-- an instance of the class at C, its dict at dx, its attributes -/
  | ins (C dx : Addr) (fs : List (Str × V))
  /-- the dict of the instance at x -/
  | own (x : Addr)
  /-- the dict of an exception -/
  | xd (fs : List (Str × V))
  /-- a bound method, f of x -/
  | met (f x : Addr)
  /-- a range object lo, lo + 1, .. below hi -/
  | rng (lo hi : Int)
  /-- a thing that is known to the object (the script; a dict while a loop walks it): read, never written while it is so -/
  | frz (o : Obj) (u : HO)
  /-- a code object's table -/
  | tbl (ps : Array Value)
  /-- any other thing, by what is true of its one object (a def of one's own: SetO a S n := HO.ext fun h => ..) -/
  | ext (φ : Heap → Prop)

abbrev Hp := Addr → Option HO
def upd (H : Hp) (a : Addr) (o : HO) : Hp := fun b => if b = a then some o else H b
theorem upd_same {H : Hp} {a : Addr} {o : HO} : upd H a o a = some o := by unfold upd; rw [if_pos rfl]
theorem upd_ne {H : Hp} {a b : Addr} {o : HO} (h : b ≠ a) : upd H a o b = H b := by unfold upd; rw [if_neg h]
/-- two objects of different content stand apart -/
theorem ne_of {H : Hp} {a b : Addr} {o u : HO} (h : H a = some o) (h' : H b = some u) (d : o ≠ u) : a ≠ b := by
  intro e; subst e; rw [h] at h'; exact d (Option.some.inj h')
theorem ne_of_none {H : Hp} {a b : Addr} {o : HO} (h : H a = some o) (h' : H b = none) : a ≠ b := by
  intro e; subst e; rw [h] at h'; cases h'

section
variable (P : Program) (w : World)
def ObjOk (H : Hp) (h : Heap) (a : Addr) : HO → Prop
  | .lst xs => xs.length ≤ sizeLine ∧ ∃ (its : List Value) (n : Nat), Vals xs its ∧ h.get? a = some { cls := .type "list", data := .seq its.toArray n }
  | .tup xs => xs.length ≤ sizeLine ∧ ∃ its : List Value, Vals xs its ∧ IsTup h a its.toArray
  | .dK kvs => kvs.length ≤ sizeLine ∧ (a == sysModules) = false ∧ ∃ vs, KV kvs vs ∧ h.DictOf (mixKind P w) a vs
  | .dT kvs => kvs.length ≤ sizeLine ∧ (a == sysModules) = false ∧ ∃ xs : List (List Key × Addr × Value),
      Paired (fun (p : List Key × V) (q : List Key × Addr × Value) => p.1 = q.1 ∧ H q.2.1 = some (.tup (p.1.map kV)) ∧ RelV p.2 q.2.2) kvs xs ∧
      ∃ o es ep, h.get? a = some o ∧ o.ExactDict ∧ o.data = .dict es ep ∧ es.toList = xs.map (entryOfKey (tupleKind (mixKind P w))) ∧ (xs.map (·.1)).Nodup
  | .set S n => h.SetOf (intKind P w) a S n
  | .ins C dx fs => H dx = some (.own a) ∧ fs.length ≤ 1000 ∧ dx ≠ a ∧ h.get? a = some (PySem.W.instObj C dx) ∧
      ∃ mA, h.Ns1 dx mA ∧ (∀ f, RelO (fs.lookup f) (mA f)) ∧ PySem.Within mA (fs.map (·.1))
  | .own _ => ∃ o, h.get? a = some o
  | .xd fs => ∃ mA, h.Ns1 a mA ∧ ∀ f, RelO (fs.lookup f) (mA f)
  | .rng lo hi => ∃ t u v, h.get? a = some { cls := .type "range", data := .fields #[.int lo t, .int hi u, .int 1 v] }
  | .frz o u => h.get? a = some o ∧ ObjOk H h a u
  | .tbl ps => h.get? a = some { cls := .none, data := .fields ps }
  | .met f x => h.get? a = some (PySem.W.methodObj (.ref f) (.ref x))
  | .ext φ => φ h ∧ (∃ o, h.get? a = some o) ∧ ∀ h1 h2 : Heap, φ h1 → (∀ o, h1.get? a = some o → h2.get? a = some o) → φ h2
/-- the abstract heap is held -/
def HOk (H : Hp) (h : Heap) : Prop := ∀ a o, H a = some o → ObjOk P w H h a o
end

section
variable {P : Program} {w : World} {H H' : Hp} {h h' : Heap} {a : Addr} {o : HO}
theorem ObjOk.lt (x : ObjOk P w H h a o) : a < h.objs.size := by
  cases o with
  | lst xs => obtain ⟨_, _, _, _, e⟩ := x; exact Heap.lt_size e
  | tup xs => obtain ⟨_, _, _, p⟩ := x; exact p.lt
  | dK kvs => obtain ⟨_, _, _, _, o, _, _, e, _⟩ := x; exact Heap.lt_size e
  | dT kvs => obtain ⟨_, _, _, _, o, _, _, e, _⟩ := x; exact Heap.lt_size e
  | set S n => obtain ⟨o, _, _, _, e, _⟩ := x; exact Heap.lt_size e
  | ins C dx fs => obtain ⟨_, _, _, e, _⟩ := x; exact Heap.lt_size e
  | own y => obtain ⟨_, e⟩ := x; exact Heap.lt_size e
  | xd fs => obtain ⟨_, ⟨_, _, _, e, _⟩, _⟩ := x; exact Heap.lt_size e
  | rng lo hi => obtain ⟨_, _, _, e⟩ := x; exact Heap.lt_size e
  | frz ob u => obtain ⟨e, _⟩ := x; exact Heap.lt_size e
  | tbl ps => exact Heap.lt_size (show h.get? a = some _ from x)
  | met f y => exact Heap.lt_size (show h.get? a = some _ from x)
  | ext φ => obtain ⟨_, ⟨_, e⟩, _⟩ := x; exact Heap.lt_size e
theorem Paired.mapP {α β : Type} {F G : α → β → Prop} : ∀ {l₁ : List α} {l₂ : List β}, Paired F l₁ l₂ → (∀ a b, F a b → G a b) → Paired G l₁ l₂
  | _, _, .nil, _ => .nil
  | _, _, .cons r t, f => .cons (f _ _ r) (Paired.mapP t f)
/-- what an object's description leans on: its own object, its own dict, the tuples -/
theorem ObjOk.stay (x : ObjOk P w H h a o) (k : ∀ b u, (b = a ∨ H b = some (.own a)) → h.get? b = some u → h'.get? b = some u)
    (ho : ∀ b, H b = some (.own a) → H' b = some (.own a)) (ht : ∀ b xs, H b = some (.tup xs) → H' b = some (.tup xs)) : ObjOk P w H' h' a o := by
  induction o with
  | lst xs => obtain ⟨z, its, n, r, e⟩ := x; exact ⟨z, its, n, r, k _ _ (.inl rfl) e⟩
  | tup xs => obtain ⟨z, its, r, ob, e, c⟩ := x; exact ⟨z, its, r, ob, k _ _ (.inl rfl) e, c⟩
  | dK kvs => obtain ⟨z, y, vs, r, ob, es, ep, e, c⟩ := x; exact ⟨z, y, vs, r, ob, es, ep, k _ _ (.inl rfl) e, c⟩
  | dT kvs =>
    obtain ⟨z, y, xs, r, ob, es, ep, e, c⟩ := x
    exact ⟨z, y, xs, Paired.mapP r fun p q z => ⟨z.1, ht _ _ z.2.1, z.2.2⟩, ob, es, ep, k _ _ (.inl rfl) e, c⟩
  | set S n => obtain ⟨ob, es, ep, t, e, c⟩ := x; exact ⟨ob, es, ep, t, k _ _ (.inl rfl) e, c⟩
  | ins C dx fs =>
    obtain ⟨d, z, ne, e, mA, ⟨od, es, ep, e2, c⟩, r⟩ := x
    exact ⟨ho _ d, z, ne, k _ _ (.inl rfl) e, mA, ⟨od, es, ep, k _ _ (.inr d) e2, c⟩, r⟩
  | own y => obtain ⟨ob, e⟩ := x; exact ⟨ob, k _ _ (.inl rfl) e⟩
  | xd fs => obtain ⟨mA, ⟨od, es, ep, e, c⟩, r⟩ := x; exact ⟨mA, ⟨od, es, ep, k _ _ (.inl rfl) e, c⟩, r⟩
  | rng lo hi => obtain ⟨t, u, v, e⟩ := x; exact ⟨t, u, v, k _ _ (.inl rfl) e⟩
  | frz ob u ih => obtain ⟨e, q⟩ := x; exact ⟨k _ _ (.inl rfl) e, ih q⟩
  | tbl ps =>
    have e : h.get? a = some { cls := .none, data := .fields ps } := x
    show h'.get? a = some { cls := .none, data := .fields ps }
    exact k a _ (.inl rfl) e
  | met f y =>
    have e : h.get? a = some (PySem.W.methodObj (.ref f) (.ref y)) := x
    show h'.get? a = some (PySem.W.methodObj (.ref f) (.ref y))
    exact k a _ (.inl rfl) e
  | ext φ => obtain ⟨p, ⟨o, e⟩, st⟩ := x; exact ⟨st _ _ p fun o q => k _ _ (.inl rfl) q, ⟨o, k _ _ (.inl rfl) e⟩, st⟩
theorem HOk.lt (x : HOk P w H h) (e : H a = some o) : a < h.objs.size := (x a o e).lt
theorem HOk.fresh (x : HOk P w H h) (e : h.objs.size ≤ a) : H a = none := by
  cases q : H a with
  | none => rfl
  | some u => exact absurd (Nat.lt_of_lt_of_le (x.lt q) e) (Nat.lt_irrefl _)
/-- every object of the heap is kept -/
theorem HOk.kept (x : HOk P w H h) (k : ∀ b u, h.get? b = some u → h'.get? b = some u) : HOk P w H h' := fun a o e =>
  (x a o e).stay (fun b u _ q => k b u q) (fun _ q => q) fun _ _ q => q
/-- a new object is laid and tracked -/
theorem HOk.laid (x : HOk P w H h) (k : ∀ b u, h.get? b = some u → h'.get? b = some u) (hp : h.objs.size ≤ a) (new : ObjOk P w (upd H a o) h' a o) : HOk P w (upd H a o) h' := fun b u e => by
  have hn := x.fresh hp
  by_cases hb : b = a
  · subst hb; rw [upd_same] at e; cases e; exact new
  · rw [upd_ne hb] at e
    exact (x b u e).stay (fun c v _ q => k c v q) (fun c q => by rw [upd_ne (ne_of_none q hn)]; exact q) fun c xs q => by rw [upd_ne (ne_of_none q hn)]; exact q
end

/-- what may be read as u: it is u, or a known u -/
def Rd (H : Hp) (a : Addr) (u : HO) : Prop := H a = some u ∨ ∃ o, H a = some (.frz o u)
theorem Rd.of {H : Hp} {a : Addr} {u : HO} (h : H a = some u) : Rd H a u := .inl h
theorem Rd.ok {P : Program} {w : World} {H : Hp} {h : Heap} {a : Addr} {u : HO} (r : Rd H a u) (x : HOk P w H h) : ObjOk P w H h a u := by
  rcases r with r | ⟨o, r⟩
  · exact x a u r
  · obtain ⟨_, q⟩ := x a _ r
    exact q
/-- what may be written -/
def Mut : Option HO → Prop
  | some (.lst _) => True
  | some (.dK _) => True
  | some (.dT _) => True
  | some (.set _ _) => True
  | some (.ins _ _ _) => True
  | some (.ext _) => True
  | _ => False
section
variable {P : Program} {w : World} {H : Hp} {h h' : Heap} {x e : Addr} {o' : HO}
/-- the object at e is changed: x itself, or the dict of the instance x -/
theorem HOk.write (ok : HOk P w H h) (mu : Mut (H x)) (he : e = x ∨ H e = some (.own x)) (k : ∀ b u, b ≠ e → h.get? b = some u → h'.get? b = some u) (heo : ∃ u, h'.get? e = some u)
    (new : ObjOk P w (upd H x o') h' x o') : HOk P w (upd H x o') h' := fun b u q => by
  have nown : ∀ c y, H c = some (.own y) → c ≠ x := fun c y r z => by subst z; rw [r] at mu; exact mu
  have ntup : ∀ c xs, H c = some (.tup xs) → c ≠ x := fun c xs r z => by subst z; rw [r] at mu; exact mu
  by_cases hb : b = x
  · subst hb; rw [upd_same] at q; cases q; exact new
  · rw [upd_ne hb] at q
    by_cases hbe : b = e
    · have q' : H b = some (.own x) := by
        rcases he with z | z
        · exact absurd (hbe.trans z) hb
        · rw [hbe]; exact z
      rw [q] at q'; cases q'
      obtain ⟨v, hv⟩ := heo
      exact ⟨v, by rw [hbe]; exact hv⟩
    · refine (ok b u q).stay (fun c v hc r => k c v ?_ r) (fun c r => by rw [upd_ne (nown c b r)]; exact r) fun c xs r => by rw [upd_ne (ntup c xs r)]; exact r
      rcases hc with rfl | hc
      · exact hbe
      · rintro rfl
        rcases he with z | z
        · exact nown c b hc z
        · rw [hc] at z; cases z; exact hb rfl
end

/-! ### kept unless tracked; of the frames at fs (the callers') the slots may change (an exception that passes writes there); of the records at ex (iterators) nothing is said -/
structure Un (fs ex : List Addr) (H H' : Hp) (h h' : Heap) : Prop where
  keep : ∀ b o, h.get? b = some o → H b = none → b ∉ fs → b ∉ ex → h'.get? b = some o
  slot : ∀ b o, h.get? b = some o → H b = none → b ∈ fs → b ∉ ex → ∃ sl, h'.get? b = some { o with slots := sl }
  free : ∀ b o, h.get? b = some o → H b = none → b ∉ ex → H' b = none
  there : ∀ b o, h.get? b = some o → b ∉ ex → ∃ o', h'.get? b = some o'
  tups : ∀ b xs, H b = some (.tup xs) → H' b = some (.tup xs)
  frzs : ∀ b o u, H b = some (.frz o u) → H' b = some (.frz o u)
  tbls : ∀ b ps, H b = some (.tbl ps) → ∃ more, H' b = some (.tbl (ps ++ more))
section
variable {fs fs' ex ex' : List Addr} {H H1 H2 : Hp} {h h1 h2 h' : Heap} {a x e : Addr} {o : HO}
theorem Un.any (u : Un fs ex H H1 h h1) {b : Addr} {ob : Obj} (q : h.get? b = some ob) (n : H b = none) (hx : b ∉ ex) : ∃ sl, h1.get? b = some { ob with slots := sl } := by
  by_cases hb : b ∈ fs
  · exact u.slot b ob q n hb hx
  · exact ⟨ob.slots, u.keep b ob q n hb hx⟩
theorem Un.trans (a : Un fs ex H H1 h h1) (b : Un fs ex H1 H2 h1 h2) : Un fs ex H H2 h h2 where
  keep := fun c ob q n hc hx => b.keep c ob (a.keep c ob q n hc hx) (a.free c ob q n hx) hc hx
  slot := fun c ob q n hc hx => by
    obtain ⟨sl, e1⟩ := a.slot c ob q n hc hx
    obtain ⟨sl', e2⟩ := b.slot c _ e1 (a.free c ob q n hx) hc hx
    exact ⟨sl', e2⟩
  free := fun c ob q n hx => by
    obtain ⟨o', e1⟩ := a.there c ob q hx
    exact b.free c o' e1 (a.free c ob q n hx) hx
  there := fun c ob q hx => by
    obtain ⟨o', e1⟩ := a.there c ob q hx
    exact b.there c o' e1 hx
  tups := fun c xs q => b.tups c xs (a.tups c xs q)
  frzs := fun c ob xs q => b.frzs c ob xs (a.frzs c ob xs q)
  tbls := fun c ps q => by
    obtain ⟨m1, e1⟩ := a.tbls c ps q
    obtain ⟨m2, e2⟩ := b.tbls c _ e1
    exact ⟨m1 ++ m2, by rw [e2, Array.append_assoc]⟩
theorem Un.kept (k : ∀ b u, h.get? b = some u → h'.get? b = some u) : Un fs ex H H h h' :=
  ⟨fun b ob q _ _ _ => k b ob q, fun b ob q _ _ _ => ⟨ob.slots, k b ob q⟩, fun _ _ _ n _ => n, fun b ob q _ => ⟨ob, k b ob q⟩, fun _ _ q => q, fun _ _ _ q => q, fun _ ps q => ⟨#[], by rw [q]; simp⟩⟩
theorem Un.refl : Un fs ex H H h h := Un.kept fun _ _ q => q
theorem Un.laid (k : ∀ b u, h.get? b = some u → h'.get? b = some u) (hp : h.objs.size ≤ a) (hn : H a = none) : Un fs ex H (upd H a o) h h' where
  keep := fun b u q _ _ _ => k b u q
  slot := fun b u q _ _ _ => ⟨u.slots, k b u q⟩
  free := fun b u q n _ => by rw [upd_ne (Nat.ne_of_lt (Nat.lt_of_lt_of_le (Heap.lt_size q) hp))]; exact n
  there := fun b u q _ => ⟨u, k b u q⟩
  tups := fun b xs q => by rw [upd_ne (ne_of_none q hn)]; exact q
  frzs := fun b u xs q => by rw [upd_ne (ne_of_none q hn)]; exact q
  tbls := fun b ps q => ⟨#[], by rw [upd_ne (ne_of_none q hn), q]; simp⟩
theorem Un.write (mu : Mut (H x)) (he : e = x ∨ H e = some (.own x)) (k : ∀ b u, b ≠ e → h.get? b = some u → h'.get? b = some u) (heo : ∃ u, h'.get? e = some u) : Un fs ex H (upd H x o) h h' := by
  have hx : ∀ b, H b = none → b ≠ x := fun b n z => by subst z; rw [n] at mu; exact mu
  have hb : ∀ b, H b = none → b ≠ e := fun b n z => by
    subst z
    rcases he with r | r
    · exact hx b n r
    · rw [n] at r; cases r
  have hm : ∀ b u, H b = some u → ¬ Mut (some u) → b ≠ x := fun b u q nm z => by subst z; rw [q] at mu; exact nm mu
  refine ⟨fun b u q n _ _ => k b u (hb b n) q, fun b u q n _ _ => ⟨u.slots, k b u (hb b n) q⟩, fun b u q n _ => by rw [upd_ne (hx b n)]; exact n, fun b u q _ => ?_,
    fun b xs q => by rw [upd_ne (hm b _ q fun z => z)]; exact q, fun b u xs q => by rw [upd_ne (hm b _ q fun z => z)]; exact q, fun b ps q => ⟨#[], by rw [upd_ne (hm b _ q fun z => z), q]; simp⟩⟩
  by_cases hbe : b = e
  · subst hbe; exact heo
  · exact ⟨u, k b u hbe q⟩
theorem Un.mono (u : Un fs ex H H1 h h1) (hs : ∀ b ∈ fs, b ∈ fs') (hx : ∀ b ∈ ex, b ∈ ex') : Un fs' ex' H H1 h h1 :=
  ⟨fun b ob q n hb he => u.keep b ob q n (fun z => hb (hs b z)) fun z => he (hx b z), fun _ _ q n _ he => u.any q n fun z => he (hx _ z), fun b ob q n he => u.free b ob q n fun z => he (hx b z), fun b ob q he => u.there b ob q fun z => he (hx b z), u.tups, u.frzs, u.tbls⟩
end

/-! ### the heap without what is tracked -/
def trk (h : Heap) (H : Hp) : List Addr := (List.range h.objs.size).filter fun a => (H a).isSome
def hidT (h : Heap) (H : Hp) : Heap := PySem.W.hideAll h (trk h H)
theorem hidT_size (h : Heap) (H : Hp) : (hidT h H).objs.size = h.objs.size := PySem.W.hideAll_size _ _
theorem hidT_get {h : Heap} {H : Hp} {b : Addr} {o : Obj} (e : h.get? b = some o) (n : H b = none) : (hidT h H).get? b = some o :=
  PySem.W.hideAll_get _ e fun hm => by
    have q : (H b).isSome = true := (List.mem_filter.mp hm).2
    rw [n] at q; simp at q
theorem of_hidT {h : Heap} {H : Hp} {b : Addr} {o : Obj} (e : (hidT h H).get? b = some o) : h.get? b = some o ∧ H b = none := by
  have e' : h.get? b = some o := PySem.W.of_hideAll (trk h H) e
  refine ⟨e', ?_⟩
  cases q : H b with
  | none => rfl
  | some x =>
    have hm : b ∈ trk h H := List.mem_filter.mpr ⟨List.mem_range.mpr (Heap.lt_size e'), by simp [q]⟩
    have z : (hidT h H).get? b = none := PySem.W.hideAll_none (trk h H) hm
    rw [z] at e; cases e

/-! ### OpenK's ledger, filled with every new object but one -/
def allNews (g h : Heap) (L : Addr) : List (Addr × Obj) := (List.range h.objs.size).filterMap fun a => if a = L ∨ (g.get? a).isSome = true then none else (h.get? a).map fun o => (a, o)
def rest (g h : Heap) (L d : Addr) : List (Addr × Obj) := (allNews g h L).filter fun p => decide (p.1 ≠ d)
end L2

namespace L2
open PySem PySem.Spec PyProof.Rows

/-- the module's facts, over the base: the heap at the law's entry without what is tracked there -/
structure Mod (K : PySem.W.Frag) (mg : Str → Option Value) (base : Heap) : Prop where
  kin : K.In base
  glob : base.Ns mainGlobals mg
  blt : ∃ mb, base.Ns builtinsNs mb ∧ ∀ x : Str, x ≠ "__name__" → mb x = bootBuiltins x
  nolimit : base.NoLimit

/-- the context: a def's body (or a comprehension's block) running. base: fixed through the whole law; s₀, H₀: the entry; outer: the frames whose slots others may change (a def's callers); stack: all frames that run;
   ex: iterators that were made ahead of the entry and are walked here (a comprehension's); fn: the names whose cells were made at the entry (a def: all; a comprehension's block: its own); calm: not within an except suite; pn: pins that every state bears; xe: what is wanted of an exception that leaves the code -/
structure Cx where
  prog : Program
  w : World
  K : PySem.W.Frag
  mg : Str → Option Value
  base : Heap
  A : Around
  N : List Str
  s₀ : Shared
  H₀ : Hp
  env : Env
  outer : List Env
  stack : List Env
  ex : List Addr
  fn : Str → Bool
  calm : Bool
  pn : List (Addr × Obj)
  xe : Value → Shared → Prop
/-- the callers' frames -/
def frs (l : List Env) : List Addr := l.filterMap (·.frame)
abbrev Cx.fs (X : Cx) : List Addr := frs X.outer

def Vis (sc : Scope) (x : Str) : Prop := sc.names.lookup x = some .local ∨ sc.names.lookup x = some .cell ∨ sc.names.lookup x = some .free
def Loc (sc : Scope) (x : Str) : Prop := sc.names.lookup x = some .local ∨ sc.names.lookup x = some .cell
def Look (env : Env) (h : Heap) (m : Str → Option Value) (x : Str) (u : Value) : Prop :=
  (env.kindOf x = some .local ∧ m x = some u) ∨ ((env.kindOf x = some .cell ∨ env.kindOf x = some .free) ∧ ∃ c, env.cells.lookup x = some c ∧ h.IsCell c (some u))

structure Cx.Ok (X : Cx) : Prop where
  mod : Mod X.K X.mg X.base
  kind : X.env.scope.kind = .function
  glob : X.env.globals = mainGlobals
  blt : X.env.builtins = builtinsNs
  above : X.s₀.heap.objs.size ≤ X.env.locals
  inj : ∀ x y c, X.env.cells.lookup x = some c → X.env.cells.lookup y = some c → x = y
  has : ∀ x, (X.env.kindOf x = some .cell ∨ X.env.kindOf x = some .free) → ∃ c, X.env.cells.lookup x = some c
  cab : ∀ x c, X.fn x = true → X.env.cells.lookup x = some c → X.s₀.heap.objs.size ≤ c
  hd : X.calm = true → X.A.handled = none
  frames : X.A.frames = some X.stack
  stk : X.stack = X.outer ∨ (X.stack = X.env :: X.outer ∧ X.env.frame = some X.env.locals)
  exf : ∀ b ∈ X.ex, b ≠ X.env.locals ∧ ∀ x c, X.env.cells.lookup x = some c → c ≠ b
  bs : ∀ b o, X.base.get? b = some o → X.s₀.heap.get? b = some o ∧ X.H₀ b = none
  bsz : X.base.objs.size ≤ X.s₀.heap.objs.size
  noex : ∀ b o, X.base.get? b = some o → b ∉ X.ex
  exfs : ∀ b ∈ X.ex, b ∉ X.fs
  funs : X.s₀.heap.FunFrames X.base X.outer
  frf : ∀ b ∈ X.fs, X.H₀ b = none

structure Inv (X : Cx) (pins : List (Addr × Obj)) (σ : List (Option V)) (H : Hp) (s : Shared) : Prop where
  ok : X.Ok
  os : s.os = X.s₀.os
  bare : AllBare s.gens
  base : Un X.fs X.ex X.H₀ H X.s₀.heap s.heap
  loc : ∃ m, s.heap.Ns X.env.locals m ∧ ∀ (i : Nat) (x : Str) (v : V), X.N[i]? = some x → σ[i]? = some (some v) → Vis X.env.scope x → ∃ u, RelV v u ∧ Look X.env s.heap m x u
  cell : ∀ x c, X.env.cells.lookup x = some c → ∃ v, s.heap.IsCell c v
  free : H X.env.locals = none
  freeC : ∀ x c, X.env.cells.lookup x = some c → H c = none
  pin : ∀ p ∈ X.pn ++ pins, s.heap.get? p.1 = some p.2 ∧ H p.1 = none ∧ p.1 ≠ X.env.locals ∧ p.1 ∉ X.fs ∧ ∀ v, p.2.data ≠ .cell v
  hok : HOk X.prog X.w H s.heap
  len : σ.length = X.N.length

section
variable {X : Cx} {pins : List (Addr × Obj)} {σ : List (Option V)} {H H' : Hp} {s : Shared} {h' : Heap}

theorem Cx.Ok.nofr (ok : X.Ok) {b : Addr} {o : Obj} (e : X.base.get? b = some o) : b ∉ X.fs := fun hb => by
  have := (ok.funs.mem hb).1
  rw [e] at this; cases this
theorem Inv.bs (I : Inv X pins σ H s) : ∀ b o, X.base.get? b = some o → s.heap.get? b = some o ∧ H b = none := fun b o e =>
  ⟨I.base.keep b o (I.ok.bs b o e).1 (I.ok.bs b o e).2 (I.ok.nofr e) (I.ok.noex b o e), I.base.free b o (I.ok.bs b o e).1 (I.ok.bs b o e).2 (I.ok.noex b o e)⟩
theorem Inv.bk (I : Inv X pins σ H s) : ∀ b o, X.base.get? b = some o → s.heap.get? b = some o := fun b o e => (I.bs b o e).1
theorem Inv.mod (I : Inv X pins σ H s) : Mod X.K X.mg X.base := I.ok.mod
theorem Inv.kIn (I : Inv X pins σ H s) : X.K.In s.heap := I.ok.mod.kin.keeps I.bk
theorem Inv.nolimit (I : Inv X pins σ H s) : s.heap.NoLimit := I.ok.mod.nolimit.keeps I.bk
/-- the frame over the base: for OpenK's rules (K.In X.base is I.mod.kin) -/
theorem Inv.fr (I : Inv X pins σ H s) : ∃ m, Fr X.base X.env.locals s.heap m :=
  let ⟨m, hn, _⟩ := I.loc
  ⟨m, hn, I.bk, Nat.le_trans I.ok.bsz I.ok.above⟩
theorem Inv.lt (I : Inv X pins σ H s) : X.env.locals < s.heap.objs.size := let ⟨_, hn, _⟩ := I.loc; hn.lt
theorem Inv.sz (I : Inv X pins σ H s) : X.s₀.heap.objs.size ≤ s.heap.objs.size := Nat.le_trans I.ok.above (Nat.le_of_lt I.lt)
theorem Inv.nofs (I : Inv X pins σ H s) {a : Addr} (h : s.heap.objs.size ≤ a) : a ∉ X.fs := fun hb => by
  obtain ⟨_, o, ho, _⟩ := I.ok.funs.mem hb
  exact absurd (Nat.lt_of_lt_of_le (Heap.lt_size ho) (Nat.le_trans I.sz h)) (Nat.lt_irrefl _)
theorem Inv.cne (I : Inv X pins σ H s) : ∀ x c, X.env.cells.lookup x = some c → c ≠ X.env.locals := fun x c e z => by
  obtain ⟨v, o, ho, hd⟩ := I.cell x c e
  obtain ⟨m, ⟨o', es, ep, ho', hd', _⟩, _⟩ := I.loc
  rw [z, ho'] at ho; cases ho; rw [hd'] at hd; cases hd
theorem Inv.funs (I : Inv X pins σ H s) : s.heap.FunFrames X.base X.outer := by
  have all : ∀ (l : List Env), (∀ b ∈ frs l, b ∈ X.fs) → X.s₀.heap.FunFrames X.base l → s.heap.FunFrames X.base l := by
    intro l
    induction l with
    | nil => intro _ _; trivial
    | cons env r ih =>
      intro hs hl
      obtain ⟨hk, ⟨L, o, hf, hn, ho, hd⟩, hr⟩ := hl
      have hL : L ∈ X.fs := hs L (by unfold frs; rw [List.filterMap_cons, hf]; exact List.mem_cons_self)
      obtain ⟨sl, e⟩ := I.base.slot L o ho (I.ok.frf L hL) hL fun z => I.ok.exfs L z hL
      exact ⟨hk, ⟨L, _, hf, hn, e, hd⟩, ih (fun b hb => hs b (by unfold frs; rw [List.filterMap_cons, hf]; exact List.mem_cons_of_mem _ hb)) hr⟩
  exact all X.outer (fun _ hb => hb) I.ok.funs

/-- the frames that run, for a call -/
theorem Inv.stack (I : Inv X pins σ H s) : s.heap.FunFrames X.base X.stack := by
  rcases I.ok.stk with e | ⟨e, hf⟩
  · rw [e]; exact I.funs
  · rw [e]
    obtain ⟨m, hn, _⟩ := I.loc
    refine .cons (by rw [I.ok.kind]; decide) hf hn ?_ I.funs
    exact Heap.get?_none_of_le (Nat.le_trans I.ok.bsz I.ok.above)
theorem Inv.stkSub (I : Inv X pins σ H s) : ∀ b ∈ frs X.stack, b ∈ X.env.locals :: X.fs := fun b hb => by
  rcases I.ok.stk with e | ⟨e, hf⟩
  · rw [e] at hb; exact List.mem_cons_of_mem _ hb
  · rw [e] at hb
    unfold frs at hb
    rw [List.filterMap_cons, hf] at hb
    exact hb
theorem Inv.stkFree (I : Inv X pins σ H s) : ∀ b ∈ frs X.stack, H b = none := fun b hb => by
  rcases List.mem_cons.mp (I.stkSub b hb) with e | hb
  · rw [e]; exact I.free
  · obtain ⟨_, o, ho, _⟩ := I.ok.funs.mem hb
    exact I.base.free b o ho (I.ok.frf b hb) fun z => I.ok.exfs b z hb

/-- THE STEP: the untracked objects but the frame and the records at ch are kept (the callers' frames up to slots), the frame's map is kept, the new abstract heap is held -/
theorem Inv.step {g' : Array GenState} {t' : Nat} {d' : Drawn} {ch : List Addr} (I : Inv X pins σ H s)
    (hch : ∀ b ∈ ch, (b ∈ X.ex ∨ X.s₀.heap.objs.size ≤ b) ∧ b ≠ X.env.locals ∧ (∀ x c, X.env.cells.lookup x = some c → c ≠ b) ∧ ∀ p ∈ X.pn ++ pins, p.1 ≠ b)
    (keep : ∀ b o, b ≠ X.env.locals → b ∉ X.fs → b ∉ ch → s.heap.get? b = some o → H b = none → h'.get? b = some o)
    (slot : ∀ b o, b ≠ X.env.locals → b ∈ X.fs → b ∉ ch → s.heap.get? b = some o → H b = none → ∃ sl, h'.get? b = some { o with slots := sl }) (free : ∀ b o, b ∉ ch → s.heap.get? b = some o → H b = none → H' b = none)
    (there : ∀ b o, b ∉ ch → s.heap.get? b = some o → ∃ o', h'.get? b = some o')
    (tups : ∀ b xs, H b = some (.tup xs) → H' b = some (.tup xs)) (frzs : ∀ b o u, H b = some (.frz o u) → H' b = some (.frz o u)) (tbls : ∀ b ps, H b = some (.tbl ps) → ∃ more, H' b = some (.tbl (ps ++ more)))
    (ns : ∀ m, s.heap.Ns X.env.locals m → h'.Ns X.env.locals m) (hok : HOk X.prog X.w H' h') (hg : AllBare g') :
    Inv X pins σ H' { s with heap := h', gens := g', drawn := d', toks := t' } := by
  have neL : ∀ b o, X.s₀.heap.get? b = some o → b ≠ X.env.locals := fun b o e => Nat.ne_of_lt (Nat.lt_of_lt_of_le (Heap.lt_size e) I.ok.above)
  have neC : ∀ b o, X.s₀.heap.get? b = some o → b ∉ X.ex → b ∉ ch := fun b o e hx hb => by
    rcases (hch b hb).1 with z | z
    · exact hx z
    · exact absurd (Nat.lt_of_lt_of_le (Heap.lt_size e) z) (Nat.lt_irrefl _)
  have cellK : ∀ x c, X.env.cells.lookup x = some c → ∀ v, s.heap.IsCell c v → h'.IsCell c v := fun x c e v ⟨o, ho, hd⟩ => by
    have nch : c ∉ ch := fun z => (hch c z).2.2.1 x c e rfl
    by_cases hc : c ∈ X.fs
    · obtain ⟨sl, q⟩ := slot c o (I.cne x c e) hc nch ho (I.freeC x c e)
      exact ⟨_, q, hd⟩
    · exact ⟨o, keep c o (I.cne x c e) hc nch ho (I.freeC x c e), hd⟩
  refine ⟨I.ok, I.os, hg, ⟨fun b o e n hb hx => ?_, fun b o e n hb hx => ?_, fun b o e n hx => ?_, fun b o e hx => ?_, fun b xs e => tups b xs (I.base.tups b xs e), fun b o xs e => frzs b o xs (I.base.frzs b o xs e), fun b ps e => ?_⟩, ?_, fun x c e => ?_, ?_, fun x c e => ?_, fun p hp => ?_, hok, I.len⟩
  · exact keep b o (neL b o e) hb (neC b o e hx) (I.base.keep b o e n hb hx) (I.base.free b o e n hx)
  · obtain ⟨sl, e1⟩ := I.base.slot b o e n hb hx
    obtain ⟨sl', e2⟩ := slot b _ (neL b o e) hb (neC b o e hx) e1 (I.base.free b o e n hx)
    exact ⟨sl', e2⟩
  · obtain ⟨o', e1⟩ := I.base.there b o e hx
    exact free b o' (neC b o e hx) e1 (I.base.free b o e n hx)
  · obtain ⟨o', e1⟩ := I.base.there b o e hx
    exact there b o' (neC b o e hx) e1
  · obtain ⟨m1, e1⟩ := I.base.tbls b ps e
    obtain ⟨m2, e2⟩ := tbls b _ e1
    exact ⟨m1 ++ m2, by rw [e2, Array.append_assoc]⟩
  · obtain ⟨m, hn, hl⟩ := I.loc
    refine ⟨m, ns m hn, fun i x v e1 e2 e3 => ?_⟩
    obtain ⟨u, r, l⟩ := hl i x v e1 e2 e3
    refine ⟨u, r, ?_⟩
    rcases l with l | ⟨k, c, e, z⟩
    · exact .inl l
    · exact .inr ⟨k, c, e, cellK x c e _ z⟩
  · obtain ⟨v, z⟩ := I.cell x c e
    exact ⟨v, cellK x c e v z⟩
  · obtain ⟨m, ⟨o, _, _, ho, _⟩, _⟩ := I.loc
    exact free _ o (fun z => (hch _ z).2.1 rfl) ho I.free
  · obtain ⟨v, o, ho, hd⟩ := I.cell x c e
    exact free c o (fun z => (hch c z).2.2.1 x c e rfl) ho (I.freeC x c e)
  · obtain ⟨e, n, ne, nf, d⟩ := I.pin p hp
    have nch : p.1 ∉ ch := fun z => (hch p.1 z).2.2.2 p hp rfl
    exact ⟨keep p.1 p.2 ne nf nch e n, free p.1 p.2 nch e n, ne, nf, d⟩
/-- .. where the frame's own object is kept too -/
theorem Inv.un {t' : Nat} (I : Inv X pins σ H s) (u : Un X.fs [] H H' s.heap h') (hok : HOk X.prog X.w H' h') : Inv X pins σ H' { s with heap := h', toks := t' } := by
  obtain ⟨m, ⟨o, es, ep, ho, r⟩, _⟩ := id I.loc
  obtain ⟨sl, hL⟩ := u.any ho I.free (by simp)
  exact I.step (g' := s.gens) (d' := s.drawn) (ch := []) (fun _ z => nomatch z) (fun b o _ hb _ e n => u.keep b o e n hb (by simp)) (fun b o _ hb _ e n => u.slot b o e n hb (by simp)) (fun b o _ e n => u.free b o e n (by simp)) (fun b o _ e => u.there b o e (by simp)) u.tups u.frzs u.tbls (fun m' hm => by
    obtain ⟨o', es', ep', ho', r'⟩ := hm
    rw [ho] at ho'; cases ho'
    exact ⟨_, es', ep', hL, r'⟩) hok I.bare
/-- behind a call (or a comprehension's block): the slots of this frame may have changed too, the records at ch may have turned -/
theorem Inv.call {g' : Array GenState} {t' : Nat} {d' : Drawn} {ch : List Addr} (I : Inv X pins σ H s) (u : Un (frs X.stack) ch H H' s.heap h') (hok : HOk X.prog X.w H' h') (hg : AllBare g')
    (hch : ∀ b ∈ ch, (b ∈ X.ex ∨ X.s₀.heap.objs.size ≤ b) ∧ b ≠ X.env.locals ∧ (∀ x c, X.env.cells.lookup x = some c → c ≠ b) ∧ ∀ p ∈ X.pn ++ pins, p.1 ≠ b) :
    Inv X pins σ H' { s with heap := h', gens := g', drawn := d', toks := t' } := by
  obtain ⟨m, ⟨o, es, ep, ho, r⟩, _⟩ := id I.loc
  obtain ⟨sl, hL⟩ := u.any ho I.free fun z => (hch _ z).2.1 rfl
  exact I.step (ch := ch) hch (fun b o hL hb hc e n => u.keep b o e n (fun z => (List.mem_cons.mp (I.stkSub b z)).elim hL hb) hc) (fun b o _ _ hc e n => u.any e n hc) (fun b o hc e n => u.free b o e n hc) (fun b o hc e => u.there b o e hc) u.tups u.frzs u.tbls (fun m' hm => by
    obtain ⟨o', es', ep', ho', r'⟩ := hm
    rw [ho] at ho'; cases ho'
    exact ⟨_, es', ep', hL, r'⟩) hok hg
/-- an untracked record of ours (an iterator) has turned -/
theorem Inv.turned {t' : Nat} {it : Addr} (I : Inv X pins σ H s) (k : ∀ b o, b ≠ it → s.heap.get? b = some o → h'.get? b = some o) (hn : H it = none) (hL : it ≠ X.env.locals)
    (h1 : it ∈ X.ex ∨ X.s₀.heap.objs.size ≤ it) (h2 : ∀ x c, X.env.cells.lookup x = some c → c ≠ it) (h3 : ∀ p ∈ X.pn ++ pins, p.1 ≠ it) : Inv X pins σ H { s with heap := h', toks := t' } := by
  have nit : ∀ b u, H b = some u → b ≠ it := fun b u e z => by rw [z, hn] at e; cases e
  refine I.step (g' := s.gens) (d' := s.drawn) (ch := [it]) (fun b hb => ?_) (fun b o _ _ hc e _ => k b o (fun z => hc (by simp [z])) e) (fun b o _ _ hc e _ => ⟨o.slots, k b o (fun z => hc (by simp [z])) e⟩) (fun _ _ _ _ n => n)
    (fun b o hc e => ⟨o, k b o (fun z => hc (by simp [z])) e⟩) (fun _ _ e => e) (fun _ _ _ e => e) (fun b ps e => ⟨#[], by rw [e]; simp⟩) (fun m hm => ?_) (fun b u e => ?_) I.bare
  · have e : b = it := by simpa using hb
    subst e
    exact ⟨h1, hL, h2, h3⟩
  · obtain ⟨o, es, ep, ho, r⟩ := hm
    exact ⟨o, es, ep, k _ o (Ne.symm hL) ho, r⟩
  · refine (I.hok b u e).stay (fun c v hc q => k c v ?_ q) (fun _ q => q) fun _ _ q => q
    rcases hc with z | z
    · rw [z]; exact nit b u e
    · exact nit c _ z
theorem Inv.tok (I : Inv X pins σ H s) (t : Nat) : Inv X pins σ H { s with toks := t } := I.un (h' := s.heap) (t' := t) Un.refl I.hok
/-- all objects kept -/
theorem Inv.kept {t' : Nat} (I : Inv X pins σ H s) (k : ∀ b u, s.heap.get? b = some u → h'.get? b = some u) : Inv X pins σ H { s with heap := h', toks := t' } := I.un (Un.kept k) (I.hok.kept k)
/-- a new object laid and tracked -/
theorem Inv.laid {a : Addr} {o : HO} {t' : Nat} (I : Inv X pins σ H s) (k : ∀ b u, s.heap.get? b = some u → h'.get? b = some u) (hp : s.heap.objs.size ≤ a) (new : ObjOk X.prog X.w (upd H a o) h' a o) :
    Inv X pins σ (upd H a o) { s with heap := h', toks := t' } := I.un (Un.laid k hp (I.hok.fresh hp)) (I.hok.laid k hp new)
/-- an object written -/
theorem Inv.write {x e : Addr} {o : HO} {t' : Nat} (I : Inv X pins σ H s) (mu : Mut (H x)) (he : e = x ∨ H e = some (.own x)) (k : ∀ b u, b ≠ e → s.heap.get? b = some u → h'.get? b = some u) (heo : ∃ u, h'.get? e = some u)
    (new : ObjOk X.prog X.w (upd H x o) h' x o) : Inv X pins σ (upd H x o) { s with heap := h', toks := t' } := I.un (Un.write mu he k heo) (I.hok.write mu he k heo new)
/-- forgetting slots, pins -/
theorem Inv.weak {σ' : List (Option V)} (I : Inv X pins σ H s) (hl : σ'.length = σ.length) (w : ∀ (i : Nat) v, σ'[i]? = some (some v) → σ[i]? = some (some v)) : Inv X pins σ' H s :=
  ⟨I.ok, I.os, I.bare, I.base, let ⟨m, hn, hl'⟩ := I.loc; ⟨m, hn, fun i x v e1 e2 e3 => hl' i x v e1 (w i v e2) e3⟩, I.cell, I.free, I.freeC, I.pin, I.hok, hl.trans I.len⟩
theorem Inv.pins_of {pins' : List (Addr × Obj)} (I : Inv X pins σ H s) (h : ∀ p ∈ pins', s.heap.get? p.1 = some p.2 ∧ H p.1 = none ∧ p.1 ≠ X.env.locals ∧ p.1 ∉ X.fs ∧ ∀ v, p.2.data ≠ .cell v) : Inv X pins' σ H s :=
  ⟨I.ok, I.os, I.bare, I.base, I.loc, I.cell, I.free, I.freeC, fun p hp => (List.mem_append.mp hp).elim (fun z => I.pin p (List.mem_append_left _ z)) (h p), I.hok, I.len⟩

theorem nodup_ix {N : List Str} (hN : N.Nodup) {i j : Nat} {x : Str} (a : N[i]? = some x) (b : N[j]? = some x) : i = j := by
  obtain ⟨h1, e1⟩ := List.getElem?_eq_some_iff.mp a
  obtain ⟨h2, e2⟩ := List.getElem?_eq_some_iff.mp b
  exact (List.getElem_inj hN).mp (e1.trans e2.symm)

/-- a name is stored; what changed -/
theorem store_ok2 {M : Model} {A : Around} {E : Value → Shared → Prop} {i : Nat} {x : Str} {v : V} {u : Value} {Q : Unit → Shared → Prop} (I : Inv X pins σ H s) (hN : X.N.Nodup) (hi : X.N[i]? = some x) (hx : Loc X.env.scope x) (r : RelV v u)
    (h : ∀ s', Inv X pins (σ.set i (some v)) H s' → (∃ a, Heap.SameBut a s.heap s'.heap ∧ (a = X.env.locals ∨ X.env.cells.lookup x = some a)) → Q () s') (hf : X.fn x = true ∨ X.env.scope.names.lookup x = some .local := by first | exact .inl rfl | exact .inr rfl | assumption) : wpAny M A (storeName X.env x u) Q E s := by
  obtain ⟨m, hn, hl⟩ := id I.loc
  have hcls : (X.env.scope.kind == .class || (X.env.scope.kind == .module && X.env.locals != X.env.globals)) = false := by rw [I.ok.kind]; rfl
  have hiσ : i < σ.length := by rw [I.len]; exact (List.getElem?_eq_some_iff.mp hi).1
  have cne := I.cne
  have tracked : ∀ {a : Addr} {h' : Heap}, (∃ o, s.heap.get? a = some o ∧ H a = none) → Heap.SameBut a s.heap h' → HOk X.prog X.w H h' := fun {a h'} ha hs b ob e => by
    obtain ⟨_, _, hfree⟩ := ha
    refine (I.hok b ob e).stay (fun c w' hc q => (hs.2 c ?_).trans q) (fun _ q => q) fun _ _ q => q
    rintro rfl
    rcases hc with rfl | hc
    · rw [hfree] at e; cases e
    · rw [hfree] at hc; cases hc
  rcases hx with hk | hk
  · refine wpAny_storeName_local hk hn (fun h' hn' hs => ?_) hcls
    obtain ⟨oL, _, _, hoL, _⟩ := id hn
    refine h _ ⟨I.ok, I.os, I.bare, ⟨fun b o e n hb hx => ?_, fun b o e n hb hx => ?_, I.base.free, fun b o e hx => ?_, I.base.tups, I.base.frzs, I.base.tbls⟩, ⟨_, hn', fun j y v' e1 e2 e3 => ?_⟩, fun y c e => ?_, I.free, I.freeC, fun p hp => ?_, tracked ⟨oL, hoL, I.free⟩ hs, by simpa using I.len⟩ ⟨_, hs, .inl rfl⟩
    · exact (hs.2 b (Nat.ne_of_lt (Nat.lt_of_lt_of_le (Heap.lt_size e) I.ok.above))).trans (I.base.keep b o e n hb hx)
    · obtain ⟨sl, e1⟩ := I.base.slot b o e n hb hx
      exact ⟨sl, (hs.2 b (Nat.ne_of_lt (Nat.lt_of_lt_of_le (Heap.lt_size e) I.ok.above))).trans e1⟩
    · obtain ⟨o', e1⟩ := I.base.there b o e hx
      exact ⟨o', (hs.2 b (Nat.ne_of_lt (Nat.lt_of_lt_of_le (Heap.lt_size e) I.ok.above))).trans e1⟩
    · by_cases hj : j = i
      · subst hj
        rw [hi] at e1; cases e1
        rw [List.getElem?_set_self hiσ] at e2
        cases e2
        exact ⟨u, r, .inl ⟨hk, by simp⟩⟩
      · rw [List.getElem?_set_ne (Ne.symm hj)] at e2
        obtain ⟨u', r', q⟩ := hl j y v' e1 e2 e3
        refine ⟨u', r', ?_⟩
        rcases q with ⟨k, e⟩ | ⟨k, c, e, z⟩
        · refine .inl ⟨k, ?_⟩
          have : y ≠ x := fun e => hj (nodup_ix hN e1 (e ▸ hi))
          simp [this, e]
        · exact .inr ⟨k, c, e, z.sameBut hs (cne y c e)⟩
    · obtain ⟨w', z⟩ := I.cell y c e
      exact ⟨w', z.sameBut hs (cne y c e)⟩
    · obtain ⟨e, n, ne, nf, d⟩ := I.pin p hp
      exact ⟨(hs.2 p.1 ne).trans e, n, ne, nf, d⟩
  · have hfn : X.fn x = true := by
      rcases hf with z | z
      · exact z
      · rw [z] at hk; cases hk
    obtain ⟨c, hc⟩ := I.ok.has x (.inl hk)
    obtain ⟨w', z⟩ := I.cell x c hc
    refine wpAny_storeName_cell I.ok.kind hk hc z (fun h' hc' hs => ?_)
    obtain ⟨oc, hoc, hocd⟩ := id z
    refine h { s with heap := h' } ⟨I.ok, I.os, I.bare, ⟨fun b o e n hb hx => ?_, fun b o e n hb hx => ?_, I.base.free, fun b o e hx => ?_, I.base.tups, I.base.frzs, I.base.tbls⟩, ⟨m, hn.sameBut hs (Ne.symm (cne x c hc)), fun j y v' e1 e2 e3 => ?_⟩, fun y c' e => ?_, I.free, I.freeC, fun p hp => ?_, tracked ⟨oc, hoc, I.freeC x c hc⟩ hs, by simpa using I.len⟩ ⟨c, hs, .inr hc⟩
    · exact (hs.2 b (Nat.ne_of_lt (Nat.lt_of_lt_of_le (Heap.lt_size e) (I.ok.cab x c hfn hc)))).trans (I.base.keep b o e n hb hx)
    · obtain ⟨sl, e1⟩ := I.base.slot b o e n hb hx
      exact ⟨sl, (hs.2 b (Nat.ne_of_lt (Nat.lt_of_lt_of_le (Heap.lt_size e) (I.ok.cab x c hfn hc)))).trans e1⟩
    · obtain ⟨o', e1⟩ := I.base.there b o e hx
      exact ⟨o', (hs.2 b (Nat.ne_of_lt (Nat.lt_of_lt_of_le (Heap.lt_size e) (I.ok.cab x c hfn hc)))).trans e1⟩
    · by_cases hj : j = i
      · subst hj
        rw [hi] at e1; cases e1
        rw [List.getElem?_set_self hiσ] at e2
        cases e2
        exact ⟨u, r, .inr ⟨.inl hk, c, hc, hc'⟩⟩
      · rw [List.getElem?_set_ne (Ne.symm hj)] at e2
        obtain ⟨u', r', q⟩ := hl j y v' e1 e2 e3
        refine ⟨u', r', ?_⟩
        rcases q with q | ⟨k, c', e, z'⟩
        · exact .inl q
        · refine .inr ⟨k, c', e, z'.sameBut hs ?_⟩
          rintro rfl
          exact hj (nodup_ix hN e1 (I.ok.inj _ _ _ e hc ▸ hi))
    · by_cases hcc : c' = c
      · subst hcc; exact ⟨_, hc'⟩
      · obtain ⟨w2, z2⟩ := I.cell y c' e
        exact ⟨w2, z2.sameBut hs hcc⟩
    · obtain ⟨e, n, ne, nf, d⟩ := I.pin p hp
      refine ⟨(hs.2 p.1 ?_).trans e, n, ne, nf, d⟩
      intro q
      rw [q, hoc] at e
      have q' : oc = p.2 := Option.some.inj e
      exact d w' (by rw [← q']; exact hocd)
theorem store_ok {M : Model} {A : Around} {E : Value → Shared → Prop} {i : Nat} {x : Str} {v : V} {u : Value} {Q : Unit → Shared → Prop} (I : Inv X pins σ H s) (hN : X.N.Nodup) (hi : X.N[i]? = some x) (hx : Loc X.env.scope x) (r : RelV v u)
    (h : ∀ s', Inv X pins (σ.set i (some v)) H s' → Q () s') (hf : X.fn x = true ∨ X.env.scope.names.lookup x = some .local := by first | exact .inl rfl | exact .inr rfl | assumption) : wpAny M A (storeName X.env x u) Q E s :=
  store_ok2 I hN hi hx r (fun s' I' _ => h s' I') hf
/-- behind a call or a block, the state as it is -/
theorem Inv.call' {s' : Shared} {ch : List Addr} (I : Inv X pins σ H s) (ho : s'.os = s.os) (u : Un (frs X.stack) ch H H' s.heap s'.heap) (hok : HOk X.prog X.w H' s'.heap) (hg : AllBare s'.gens)
    (hch : ∀ b ∈ ch, (b ∈ X.ex ∨ X.s₀.heap.objs.size ≤ b) ∧ b ≠ X.env.locals ∧ (∀ x c, X.env.cells.lookup x = some c → c ≠ b) ∧ ∀ p ∈ X.pn ++ pins, p.1 ≠ b) : Inv X pins σ H' s' := by
  obtain ⟨h', g', d', t', o'⟩ := s'
  have e : o' = s.os := ho
  subst e
  exact I.call (g' := g') (t' := t') (d' := d') u hok hg hch
end

/-! ### the judgements -/
/-- an exception: its class, its own dict's address (where it has one), the abstract heap behind it -/
abbrev XK := Value → Option Addr → Hp → Prop
abbrev St := List (Option V)
abbrev VK := V → Hp → Prop
/-- an expression's reading; a test's; an argument list's -/
abbrev TE := St → Hp → VK → Prop
abbrev TT := St → Hp → (Bool → Hp → Prop) → Prop
abbrev TA := St → Hp → (List V → Hp → Prop) → Prop
/-- what is wanted behind a statement -/
structure Ends where
  nx : St → Hp → Prop
  rt : VK
  bk : St → Hp → Prop := fun _ _ => False
  ct : St → Hp → Prop := fun _ _ => False
abbrev TS := Ends → St → Hp → Prop

def EP (X : Cx) (pins : List (Addr × Obj)) (σ : St) (Q : VK) (u : Value) (s' : Shared) : Prop := ∃ v H', Inv X pins σ H' s' ∧ RelV v u ∧ Q v H'
def TP (X : Cx) (pins : List (Addr × Obj)) (σ : St) (Q : Bool → Hp → Prop) (b : Bool) (s' : Shared) : Prop := ∃ H', Inv X pins σ H' s' ∧ Q b H'
def AP (X : Cx) (pins : List (Addr × Obj)) (σ : St) (Q : List V → Hp → Prop) (us : List Value) (s' : Shared) : Prop := ∃ vs H', Inv X pins σ H' s' ∧ Vals vs us ∧ Q vs H'
def SP (X : Cx) (pins : List (Addr × Obj)) (D : Ends) (f : Flow) (s' : Shared) : Prop :=
  match f with
  | .next => ∃ σ' H', Inv X pins σ' H' s' ∧ D.nx σ' H'
  | .brk => ∃ σ' H', Inv X pins σ' H' s' ∧ D.bk σ' H'
  | .cont => ∃ σ' H', Inv X pins σ' H' s' ∧ D.ct σ' H'
  | .ret u => ∃ v σ' H', Inv X pins σ' H' s' ∧ RelV v u ∧ D.rt v H'

def PE (X : Cx) (e : Expr) (t : TE) : Prop :=
  ∀ (pins : List (Addr × Obj)) (s : Shared) (σ : St) (H : Hp) (Q : VK), Inv X pins σ H s → t σ H Q → wpAny (model X.prog X.w) X.A (eval e X.env) (EP X pins σ Q) X.xe s
def PT (X : Cx) (e : Expr) (t : TT) : Prop :=
  ∀ (pins : List (Addr × Obj)) (s : Shared) (σ : St) (H : Hp) (Q : Bool → Hp → Prop), Inv X pins σ H s → t σ H Q → wpAny (model X.prog X.w) X.A (isTrue e X.env (eval e X.env)) (TP X pins σ Q) X.xe s
/-- a test whatever its 'whole' is (and, or) -/
def PW (X : Cx) (e : Expr) (t : TT) : Prop :=
  ∀ (whole : Sem Value) (pins : List (Addr × Obj)) (s : Shared) (σ : St) (H : Hp) (Q : Bool → Hp → Prop), Inv X pins σ H s → t σ H Q → wpAny (model X.prog X.w) X.A (isTrue e X.env whole) (TP X pins σ Q) X.xe s
theorem PW.pt {X : Cx} {e : Expr} {t : TT} (h : PW X e t) : PT X e t := h _
/-- an argument list (no star), from the left -/
def PA (X : Cx) (es : List Expr) (t : TA) : Prop :=
  ∀ (pos : Pos) (pins : List (Addr × Obj)) (s : Shared) (σ : St) (H : Hp) (Q : List V → Hp → Prop), Inv X pins σ H s → t σ H Q → wpAny (model X.prog X.w) X.A (spliced (backTo pos (starEach es X.env))) (AP X pins σ Q) X.xe s
def PS (X : Cx) (st : Stmt) (t : TS) : Prop :=
  ∀ (pins : List (Addr × Obj)) (s : Shared) (σ : St) (H : Hp) (D : Ends), Inv X pins σ H s → t D σ H → wpAny (model X.prog X.w) X.A (exec st X.env) (SP X pins D) X.xe s
def PSs (X : Cx) (st : List Stmt) (t : TS) : Prop :=
  ∀ (pins : List (Addr × Obj)) (s : Shared) (σ : St) (H : Hp) (D : Ends), Inv X pins σ H s → t D σ H → wpAny (model X.prog X.w) X.A (execs st X.env) (SP X pins D) X.xe s
/-- weaken the end -/
theorem thn {α : Type} {t : Sem α} {Q Q' : α → Shared → Prop} {M : Model} {A : Around} {E : Value → Shared → Prop} {s : Shared} (h : wpAny M A t Q E s) (hQ : ∀ a s, Q a s → Q' a s) : wpAny M A t Q' E s := wpAny_mono h hQ fun _ _ x => x
end L2

namespace L2
open PySem PySem.Spec PyProof.Rows
section
variable {X : Cx}

/-! ### names and constants -/
def tVar (i : Nat) : TE := fun σ H Q => ∃ v, σ[i]? = some (some v) ∧ Q v H
def tC (v : V) : TE := fun _ H Q => Q v H
theorem pe_var {i : Nat} {x : Str} {pos : Pos} (hN : X.N[i]? = some x) (hv : Vis X.env.scope x) (hd : (x == ("__debug__" : Str)) = false := by decide) (hcd : (x == ("__classdict__" : Str)) = false := by decide) : PE X (.Name x pos) (tVar i) := by
  intro pins s σ H Q I h
  obtain ⟨v, e, h⟩ := h
  obtain ⟨m, hn, hl⟩ := I.loc
  obtain ⟨u, r, l⟩ := hl i x v hN e hv
  have fin : EP X pins σ Q u s := ⟨v, H, I, r, h⟩
  rcases l with ⟨hk, hm⟩ | ⟨hk, c, hc, hcell⟩
  · exact wpAny_Name (wpAny_loadName_local I.ok.kind hk hn hm fin) hd
  · rcases hk with hk | hk
    · exact wpAny_Name (wpAny_loadName_cell I.ok.kind hk hc hcell fin) hd
    · exact wpAny_Name (wpAny_loadName_free I.ok.kind hk hc hcell fin hcd) hd
theorem pe_int {i j pos} : PE X (.Constant (.int i) j pos) (tC (.int i)) := fun _ _ _ H _ I h => wpAny_Constant_int ⟨.int i, H, I.tok _, ⟨_, rfl⟩, h⟩
theorem pe_bl {b j pos} : PE X (.Constant (.bool b) j pos) (tC (.bl b)) := fun _ _ _ H _ I h => Constant_bool ⟨.bl b, H, I, rfl, h⟩
theorem pe_non {j pos} : PE X (.Constant .none j pos) (tC .non) := fun _ _ _ H _ I h => Constant_none ⟨.non, H, I, rfl, h⟩
theorem pe_str {x j pos} : PE X (.Constant (.str x) j pos) (tC (.str x)) := fun _ _ _ H _ I h => Calls.Constant_str ⟨.str x, H, I.tok _, ⟨_, rfl⟩, h⟩

/-- a global name of the def -/
def Gl (X : Cx) (x : Str) : Prop := X.env.kindOf x = some .globalImplicit
theorem ld_glob {E : Value → Shared → Prop} {pins : List (Addr × Obj)} {s : Shared} {σ : St} {H : Hp} {x : Str} {u : Value} {pos : Pos} {Q : Value → Shared → Prop} (I : Inv X pins σ H s) (hg : Gl X x) (hm : X.mg x = some u) (h : Q u s)
    (hd : (x == ("__debug__" : Str)) = false := by decide) : wpAny (model X.prog X.w) X.A (eval (.Name x pos) X.env) Q E s :=
  Calls.Name_function_global I.ok.kind hg (Calls.loadGlobal_global (by rw [I.ok.glob]; exact I.mod.glob.keeps I.bk) hm h) hd
theorem ld_blt {E : Value → Shared → Prop} {pins : List (Addr × Obj)} {s : Shared} {σ : St} {H : Hp} {x : Str} {u : Value} {pos : Pos} {Q : Value → Shared → Prop} (I : Inv X pins σ H s) (hg : Gl X x) (hm : X.mg x = none) (hv : bootBuiltins x = some u) (h : Q u s)
    (hn : x ≠ "__name__" := by decide) (hd : (x == ("__debug__" : Str)) = false := by decide) : wpAny (model X.prog X.w) X.A (eval (.Name x pos) X.env) Q E s := by
  obtain ⟨mb, h1, h2⟩ := I.mod.blt
  exact Calls.Name_function_global I.ok.kind hg (Calls.loadGlobal_builtin (by rw [I.ok.glob]; exact I.mod.glob.keeps I.bk) hm (by rw [I.ok.blt]; exact h1.keeps I.bk) ((h2 x hn).trans hv) h) hd
theorem pe_bltn {x : Str} {v : V} {u : Value} {pos : Pos} (hg : Gl X x) (hm : X.mg x = none) (hv : bootBuiltins x = some u) (r : RelV v u) (hn : x ≠ "__name__" := by decide) (hd : (x == ("__debug__" : Str)) = false := by decide) : PE X (.Name x pos) (tC v) :=
  fun _ _ _ H _ I h => ld_blt I hg hm hv ⟨v, H, I, r, h⟩ hn hd

/-! ### arithmetic -/
variable {a b : Expr} {ta tb : TE} {pos : Pos}
/-! ### comparisons -/
def PC (X : Cx) (op : CmpOp) (a b : Expr) (t : TE) : Prop :=
  ∀ (pins : List (Addr × Obj)) (s : Shared) (σ : St) (H : Hp) (Q : VK), Inv X pins σ H s → t σ H Q →
    wpAny (model X.prog X.w) X.A (eval a X.env) (fun v s₁ => wpAny (model X.prog X.w) X.A (eval b X.env) (fun u s₂ => wpAny (model X.prog X.w) X.A (compareOp op v u) (EP X pins σ Q) X.xe s₂) X.xe s₁) X.xe s
/-- a comparison as a value, as a test -/
def tB (t : TE) : TT := fun σ H Q => t σ H fun x H1 => ∃ c, x = .bl c ∧ Q c H1
/-- an expression whose value is a bool, as a test -/
theorem pt_val {e : Expr} {t : TE} (h : PE X e t) (he : ∀ whole, isTrue e X.env whole = (do let v ← whole; standAt e.pos; holding [v] (truthy v)) := by intro _; rfl) : PT X e (tB t) := by
  intro pins s σ H Q I hw
  refine isTrue_plain (thn (h pins s σ H _ I hw) fun v s1 ⟨x, H1, I1, r1, q1⟩ => ?_) (he _)
  obtain ⟨d, rfl, q⟩ := q1
  cases r1
  exact wpAny_truthy_bool ⟨H1, I1, q⟩

/-! ### and, or, not -/
variable {tA tB' : TT} {rest : List Expr}
def tOr (t u : TT) : TT := fun σ H Q => t σ H fun c H1 => if c = true then Q true H1 else u σ H1 Q
def tNot (t : TT) : TT := fun σ H Q => t σ H fun c H1 => Q (!c) H1
theorem pw_or1 (ha : PT X a tA) : PW X (.BoolOp .Or [a] pos) tA := by
  intro wh pins s σ H Q I h
  refine isTrue_or (thn (ha pins s σ H Q I h) fun c s1 e => ?_)
  cases c with
  | false => exact isTrue_or_nil e
  | true => exact e
theorem pw_or (ha : PT X a tA) (hb : PW X (.BoolOp .Or (b :: rest) pos) tB') : PW X (.BoolOp .Or (a :: b :: rest) pos) (tOr tA tB') := by
  intro wh pins s σ H Q I h
  refine isTrue_or (thn (ha pins s σ H _ I h) fun c s1 ⟨H1, I1, q1⟩ => ?_)
  cases c with
  | true => exact ⟨H1, I1, q1⟩
  | false => exact hb wh pins s1 σ H1 Q I1 q1
theorem pt_not (ha : PT X a tA) : PT X (.UnaryOp .Not a pos) (tNot tA) := by
  intro pins s σ H Q I h
  exact isTrue_not (ha pins s σ H (fun c H1 => Q (!c) H1) I h)
/-- .. as values (bools) -/
def tAndV (ta tb : TE) : TE := fun σ H Q => ta σ H fun x H1 => ∃ c, x = .bl c ∧ if c = true then tb σ H1 Q else Q (.bl false) H1
def tNotV (ta : TE) : TE := fun σ H Q => ta σ H fun x H1 => ∃ c, x = .bl c ∧ Q (.bl (!c)) H1
theorem pe_one {op} {t : TE} (h : PE X a t) : PE X (.BoolOp op [a] pos) t := fun pins s σ H Q I hw => BoolOp_one (h pins s σ H Q I hw)
theorem pe_and (ha : PE X a ta) (hb : PE X (.BoolOp .And (b :: rest) pos) tb) : PE X (.BoolOp .And (a :: b :: rest) pos) (tAndV ta tb) := by
  intro pins s σ H Q I h
  refine BoolOp_and (thn (ha pins s σ H _ I h) fun v s1 ⟨x, H1, I1, r1, q1⟩ => ?_)
  obtain ⟨c, rfl, q1⟩ := q1
  cases r1
  refine wpAny_truthy_bool ?_
  cases c with
  | true => exact hb pins s1 σ H1 Q I1 q1
  | false => exact ⟨.bl false, H1, I1, rfl, q1⟩
theorem pe_not (ha : PE X a ta) : PE X (.UnaryOp .Not a pos) (tNotV ta) := by
  intro pins s σ H Q I h
  refine UnaryOp_ (thn (ha pins s σ H _ I h) fun v s1 ⟨x, H1, I1, r1, q1⟩ => ?_)
  obtain ⟨c, rfl, q1⟩ := q1
  cases r1
  exact not_of (wpAny_truthy_bool ⟨.bl (!c), H1, I1, rfl, q1⟩)
/-- a if t else b -/
def tIf (t : TT) (ta tb : TE) : TE := fun σ H Q => t σ H fun c H1 => if c = true then ta σ H1 Q else tb σ H1 Q
theorem pe_ifExp {c : Expr} (hc : PT X c tA) (ha : PE X a ta) (hb : PE X b tb) : PE X (.IfExp c a b pos) (tIf tA ta tb) := by
  intro pins s σ H Q I h
  refine wpAny_IfExp (thn (hc pins s σ H _ I h) fun d s1 ⟨H1, I1, q1⟩ => ?_)
  cases d with
  | true => exact ha pins s1 σ H1 Q I1 q1
  | false => exact hb pins s1 σ H1 Q I1 q1
end
end L2

namespace L2
open PySem PySem.Spec PyProof.Rows

/-! ### a list, a tuple that is read: tracked, frozen, or an object of the module -/
def SqL (K : PySem.W.Frag) (H : Hp) (a : Addr) (xs : List V) : Prop :=
  Rd H a (.lst xs) ∨
    ∃ (o : Obj) (its : Array Value) (n : Nat), K.lookup a = some o ∧ o.cls = .type "list" ∧ o.dict = none ∧ o.data = .seq its n ∧ its.size ≤ sizeLine ∧ Vals xs its.toList
def SqT (K : PySem.W.Frag) (H : Hp) (a : Addr) (xs : List V) : Prop :=
  Rd H a (.tup xs) ∨
    ∃ (o : Obj) (its : Array Value) (n : Nat), K.lookup a = some o ∧ o.cls = .type "tuple" ∧ o.data = .seq its n ∧ its.size ≤ sizeLine ∧ Vals xs its.toList
def absV : Value → Option V
  | .none => some .non
  | .bool b => some (.bl b)
  | .int i _ => some (.int i)
  | .str x _ => some (.str x)
  | .bytes b _ => some (.byt b)
  | .float b _ => some (.flt b)
  | .ref a => some (.ref a)
  | .type n => some (.ty n)
  | _ => none
theorem RelV.abs {x : V} {u : Value} (r : RelV x u) : absV u = some x := by
  cases x with
  | non => cases r; rfl
  | bl _ => cases r; rfl
  | int _ => obtain ⟨t, rfl⟩ := r; rfl
  | str _ => obtain ⟨t, rfl⟩ := r; rfl
  | byt _ => obtain ⟨t, rfl⟩ := r; rfl
  | flt _ => obtain ⟨t, rfl⟩ := r; rfl
  | ref _ => cases r; rfl
  | ty _ => cases r; rfl
theorem RelV.inj {x y : V} {u : Value} (r : RelV x u) (q : RelV y u) : x = y := Option.some.inj (r.abs.symm.trans q.abs)
theorem Vals.inj : ∀ {xs ys : List V} {us : List Value}, Vals xs us → Vals ys us → xs = ys
  | _, _, _, .nil, .nil => rfl
  | _, _, _, .cons r t, .cons r' t' => by rw [r.inj r', Vals.inj t t']
section
variable {X : Cx} {pins : List (Addr × Obj)} {σ : St} {H : Hp} {s : Shared} {a : Addr} {xs ys : List V}
theorem SqL.of {K : PySem.W.Frag} (h : H a = some (.lst xs)) : SqL K H a xs := .inl (.inl h)
theorem SqT.of {K : PySem.W.Frag} (h : H a = some (.tup xs)) : SqT K H a xs := .inl (.inl h)
theorem Inv.list (I : Inv X pins σ H s) (h : SqL X.K H a xs) : ∃ its : List Value, Vals xs its ∧ PlainL s.heap a its.toArray ∧ xs.length ≤ sizeLine := by
  rcases h with h | ⟨o, its, n, hk, hc, hd, hs, hz, r⟩
  · obtain ⟨z, its, n, r, e⟩ := h.ok I.hok
    exact ⟨its, r, ⟨_, n, e, rfl, rfl, rfl⟩, z⟩
  · refine ⟨its.toList, r, ⟨o, n, I.kIn a o hk, hc, hd, by simpa using hs⟩, ?_⟩
    have e := r.length
    simp only [Array.length_toList] at e
    omega
theorem Inv.tuple (I : Inv X pins σ H s) (h : SqT X.K H a xs) : ∃ its : List Value, Vals xs its ∧ IsTup s.heap a its.toArray ∧ xs.length ≤ sizeLine := by
  rcases h with h | ⟨o, its, n, hk, hc, hs, hz, r⟩
  · obtain ⟨z, its, r, p⟩ := h.ok I.hok
    exact ⟨its, r, p, z⟩
  · refine ⟨its.toList, r, ⟨o, I.kIn a o hk, hc, n, by simpa using hs⟩, ?_⟩
    have e := r.length
    simp only [Array.length_toList] at e
    omega
theorem Inv.list_inj (I : Inv X pins σ H s) (h : SqL X.K H a xs) (h' : SqL X.K H a ys) : xs = ys := by
  obtain ⟨its, r, ⟨o, n, e, _, _, d⟩, _⟩ := I.list h
  obtain ⟨its', r', ⟨o', n', e', _, _, d'⟩, _⟩ := I.list h'
  rw [e] at e'; cases e'
  rw [d] at d'
  injection d' with d1 _
  have : its = its' := by simpa using congrArg Array.toList d1
  subst this
  exact r.inj r'
end

/-! ### another wish about exceptions -/
abbrev Cx.wish (X : Cx) (E : Value → Shared → Prop) : Cx := { X with xe := E }
/-- no exception leaves -/
abbrev Cx.nox (X : Cx) : Cx := X.wish fun _ _ => False
theorem Cx.Ok.wish {X : Cx} (ok : X.Ok) (E : Value → Shared → Prop) : (X.wish E).Ok :=
  ⟨ok.mod, ok.kind, ok.glob, ok.blt, ok.above, ok.inj, ok.has, ok.cab, ok.hd, ok.frames, ok.stk, ok.exf, ok.bs, ok.bsz, ok.noex, ok.exfs, ok.funs, ok.frf⟩
theorem Cx.Ok.unwish {X : Cx} {E : Value → Shared → Prop} (ok : (X.wish E).Ok) : X.Ok :=
  ⟨ok.mod, ok.kind, ok.glob, ok.blt, ok.above, ok.inj, ok.has, ok.cab, ok.hd, ok.frames, ok.stk, ok.exf, ok.bs, ok.bsz, ok.noex, ok.exfs, ok.funs, ok.frf⟩
section
variable {X : Cx} {pins : List (Addr × Obj)} {σ : St} {H : Hp} {s : Shared} {E : Value → Shared → Prop}
theorem Inv.wish (I : Inv X pins σ H s) (E : Value → Shared → Prop) : Inv (X.wish E) pins σ H s := ⟨I.ok.wish E, I.os, I.bare, I.base, I.loc, I.cell, I.free, I.freeC, I.pin, I.hok, I.len⟩
theorem Inv.unwish (I : Inv (X.wish E) pins σ H s) : Inv X pins σ H s := ⟨I.ok.unwish, I.os, I.bare, I.base, I.loc, I.cell, I.free, I.freeC, I.pin, I.hok, I.len⟩
theorem SP.unwish {D : Ends} {f : Flow} {s' : Shared} (h : SP (X.wish E) pins D f s') : SP X pins D f s' := by
  cases f with
  | next => obtain ⟨σ', H', I, q⟩ := h; exact ⟨σ', H', I.unwish, q⟩
  | brk => obtain ⟨σ', H', I, q⟩ := h; exact ⟨σ', H', I.unwish, q⟩
  | cont => obtain ⟨σ', H', I, q⟩ := h; exact ⟨σ', H', I.unwish, q⟩
  | ret u => obtain ⟨v, σ', H', I, r, q⟩ := h; exact ⟨v, σ', H', I.unwish, r, q⟩
theorem PE.nox {e : Expr} {t : TE} (h : PE X.nox e t) : PE X e t := fun pins s σ H Q I hw =>
  wpAny_mono (h pins s σ H Q (I.wish _) hw) (fun _ _ ⟨v, H', I', r, q⟩ => ⟨v, H', I'.unwish, r, q⟩) fun _ _ z => False.elim z
theorem PT.nox {e : Expr} {t : TT} (h : PT X.nox e t) : PT X e t := fun pins s σ H Q I hw =>
  wpAny_mono (h pins s σ H Q (I.wish _) hw) (fun _ _ ⟨H', I', q⟩ => ⟨H', I'.unwish, q⟩) fun _ _ z => False.elim z
theorem PSs.nox {st : List Stmt} {t : TS} (h : PSs X.nox st t) : PSs X st t := fun pins s σ H D I hw =>
  wpAny_mono (h pins s σ H D (I.wish _) hw) (fun _ _ q => q.unwish) fun _ _ z => False.elim z
end

/-! ### blocks and small statements -/
section
variable {X : Cx} {st : Stmt} {rest : List Stmt} {t u : TS} {e : Expr} {te : TE} {pos : Pos}
def tNext : TS := fun D σ H => D.nx σ H
def tSeq (t u : TS) : TS := fun D σ H => t { D with nx := u D } σ H
theorem pss_nil : PSs X [] tNext := fun _ _ σ H _ I h => wpAny_execs_nil ⟨σ, H, I, h⟩
theorem pss_cons (h1 : PS X st t) (h2 : PSs X rest u) : PSs X (st :: rest) (tSeq t u) := by
  intro pins s σ H D I h
  refine wpAny_execs_cons (thn (h1 pins s σ H { D with nx := u D } I h) fun f s1 q => ?_)
  cases f with
  | next =>
    obtain ⟨σ', H', I', q⟩ := q
    exact h2 pins s1 σ' H' D I' q
  | ret v => exact q
  | brk => exact q
  | cont => exact q
theorem pss_one (h1 : PS X st t) : PSs X [st] t := by
  intro pins s σ H D I h
  refine wpAny_execs_cons (thn (h1 pins s σ H D I h) fun f s1 q => ?_)
  cases f with
  | next => exact wpAny_execs_nil q
  | ret v => exact q
  | brk => exact q
  | cont => exact q
/-- in a def's body nothing is shown -/
theorem Inv.quiet {pins : List (Addr × Obj)} {σ : St} {H : Hp} {s : Shared} (I : Inv X pins σ H s) : interactive X.env = false := by simp [interactive, I.ok.kind]
/-- an expression whose value is dropped -/
def tDrop (te : TE) : TS := fun D σ H => te σ H fun _ H1 => D.nx σ H1
theorem ps_expr (he : PE X e te) (hs : swapsWith e none pos.line X.env = pure false := by rfl) : PS X (.Expr e pos) (tDrop te) := by
  intro pins s σ H D I h
  exact wpAny_Expr_any (thn (he pins s σ H _ I h) fun v s1 ⟨x, H1, I1, r1, q1⟩ => ⟨σ, H1, I1, q1⟩) I.quiet hs
def tRet (te : TE) : TS := fun D σ H => te σ H D.rt
theorem ps_ret (he : PE X e te) : PS X (.Return (some e) pos) (tRet te) := by
  intro pins s σ H D I h
  exact wpAny_Return_some (thn (he pins s σ H _ I h) fun v s1 ⟨x, H1, I1, r1, q1⟩ => ⟨x, σ, H1, I1, r1, q1⟩)
def tIfS (c : TT) (t u : TS) : TS := fun D σ H => c σ H fun b H1 => if b = true then t D σ H1 else u D σ H1
theorem ps_if {c : Expr} {a b : List Stmt} {tc : TT} (hc : PT X c tc) (ha : PSs X a t) (hb : PSs X b u) : PS X (.If c a b pos) (tIfS tc t u) := by
  intro pins s σ H D I h
  refine wpAny_If (thn (hc pins s σ H _ I h) fun d s1 ⟨H1, I1, q1⟩ => ?_)
  cases d with
  | true => exact ha pins s1 σ H1 D I1 q1
  | false => exact hb pins s1 σ H1 D I1 q1
end

/-! ### targets -/
abbrev TG := V → St → Hp → (St → Hp → Prop) → Prop
abbrev TGs := List V → St → Hp → (St → Hp → Prop) → Prop
def PG (X : Cx) (target : Expr) (t : TG) : Prop :=
  ∀ (pins : List (Addr × Obj)) (s : Shared) (σ : St) (H : Hp) (v : V) (u : Value) (Q : St → Hp → Prop), Inv X pins σ H s → RelV v u → t v σ H Q →
    wpAny (model X.prog X.w) X.A (assign target X.env u) (fun _ s' => ∃ σ' H', Inv X pins σ' H' s' ∧ Q σ' H') X.xe s
/-- several targets, one after another -/
def PGs (X : Cx) (ts : List Expr) (t : TGs) : Prop :=
  ∀ (pins : List (Addr × Obj)) (s : Shared) (σ : St) (H : Hp) (vs : List V) (us : List Value) (Q : St → Hp → Prop), Inv X pins σ H s → Vals vs us → t vs σ H Q →
    wpAny (model X.prog X.w) X.A (assignInOrder ((assignEach ts X.env).map (·.2)) us) (fun _ s' => ∃ σ' H', Inv X pins σ' H' s' ∧ Q σ' H') X.xe s
/-- o[i] = v, by values -/
abbrev TSet := V → V → V → Hp → (Hp → Prop) → Prop
def PSet (X : Cx) (t : TSet) : Prop :=
  ∀ (pins : List (Addr × Obj)) (s : Shared) (σ : St) (H : Hp) (o i v : V) (ov iv u : Value) (Q : Hp → Prop), Inv X pins σ H s → RelV o ov → RelV i iv → RelV v u → t o i v H Q →
    wpAny (model X.prog X.w) X.A (setItem ov iv u) (fun _ s' => ∃ H', Inv X pins σ H' s' ∧ Q H') X.xe s
section
variable {X : Cx} {pos : Pos}
def gName (i : Nat) : TG := fun v σ H Q => Q (σ.set i (some v)) H
theorem pg_name {i : Nat} {x : Str} (hN : X.N.Nodup) (hi : X.N[i]? = some x) (hx : Loc X.env.scope x) (hf : X.fn x = true ∨ X.env.scope.names.lookup x = some .local := by first | exact .inl rfl | exact .inr rfl | assumption) : PG X (.Name x pos) (gName i) := by
  intro pins s σ H v u Q I r h
  exact wpAny_assign_Name (store_ok I hN hi hx r (fun s' I' => ⟨_, H, I', h⟩) hf)
def gNil : TGs := fun vs σ H Q => vs = [] ∧ Q σ H
def gCons (t : TG) (u : TGs) : TGs := fun vs σ H Q => ∃ v r, vs = v :: r ∧ t v σ H fun σ' H' => u r σ' H' Q
theorem pgs_nil : PGs X [] gNil := by
  intro pins s σ H vs us Q I r h
  obtain ⟨e, h⟩ := h
  subst e
  cases r
  exact assignInOrder_nil ⟨σ, H, I, h⟩
theorem pgs_cons {e : Expr} {es : List Expr} {t : TG} {u : TGs} (h1 : PG X e t) (h2 : PGs X es u)
    (hs : (assignEach (e :: es) X.env).map (·.2) = assign e X.env :: (assignEach es X.env).map (·.2) := by rfl) : PGs X (e :: es) (gCons t u) := by
  intro pins s σ H vs us Q I r h
  obtain ⟨v, vr, e1, h⟩ := h
  subst e1
  cases r with
  | cons r rr =>
    rw [hs]
    refine assignInOrder_cons (thn (h1 pins s σ H _ _ _ I r h) fun _ s1 ⟨σ1, H1, I1, q1⟩ => ?_)
    exact h2 pins s1 σ1 H1 _ _ Q I1 rr q1
/-- (a, b, ..) = a tuple of that length -/
def gTup (K : PySem.W.Frag) (n : Nat) (t : TGs) : TG := fun v σ H Q => ∃ a xs, v = .ref a ∧ SqT K H a xs ∧ xs.length = n ∧ t xs σ H Q
theorem pg_tup {es : List Expr} {k : Nat} {t : TGs} {n : Nat} (hc : X.calm = true) (h : PGs X es t)
    (hn : (assignEach es X.env).length = n := by rfl) (hst : (assignEach es X.env).findIdx? (·.1) = none := by rfl) : PG X (.Tuple es k pos) (gTup X.K n t) := by
  intro pins s σ H v u Q I r hw
  obtain ⟨a, xs, e1, hq, hl, hw⟩ := hw
  subst e1
  cases r
  obtain ⟨its, rv, ht, hz⟩ := I.tuple hq
  refine assign_Tuple_tuple (I.ok.hd hc) ht (by simp [hn, ← hl, rv.length]) hst fun h' hx => ?_
  have I1 : Inv X pins σ H { s with heap := h' } := I.kept (t' := s.toks) fun b o e => hx b o (Nat.ne_of_lt (Heap.lt_size e)) e
  exact h pins _ σ H xs _ Q I1 (by simpa using rv) hw
/-- target = value -/
def tAsg (te : TE) (g : TG) : TS := fun D σ H => te σ H fun x H1 => g x σ H1 D.nx
/-- name = value -/
theorem ps_set {i : Nat} {x : Str} {e : Expr} {te : TE} {pos' : Pos} (hN : X.N.Nodup) (hi : X.N[i]? = some x) (hx : Loc X.env.scope x) (he : PE X e te) (hs : swapsWith e (some (.Name x pos')) pos.line X.env = pure false := by rfl) (hf : X.fn x = true ∨ X.env.scope.names.lookup x = some .local := by first | exact .inl rfl | exact .inr rfl | assumption) :
    PS X (.Assign [.Name x pos'] e pos) (tAsg te (gName i)) := by
  intro pins s σ H D I h
  refine wpAny_Assign_Name (thn (he pins s σ H _ I h) fun v s1 ⟨y, H1, I1, r1, q1⟩ => ?_) hs
  exact store_ok I1 hN hi hx r1 (fun s2 I2 => ⟨_, H1, I2, q1⟩) hf
end

/-! ### while -/
section
variable {X : Cx} {pos : Pos}
/-- the invariant W with its measure -/
def tWhile (c : TT) (tb : TS) : TS := fun D σ H => ∃ W : Nat → St → Hp → Prop, (∃ m, W m σ H) ∧ ∀ m σ H, W m σ H →
  c σ H fun b H1 => if b = true then ∃ N : St → Hp → Prop, (∀ σ' H', N σ' H' → ∃ m', m' < m ∧ W m' σ' H') ∧ tb { D with nx := N, ct := N, bk := D.nx } σ H1 else D.nx σ H1
end

/-! ### what a loop or a comprehension walks -/
/-- at turn i: it yields x (the heap may grow), or it stops -/
structure It where
  go : Nat → Hp → Prop
  yld : Nat → Hp → V → Hp → Prop
  stop : Nat → Hp → Prop
/-- the iterator's own objects may turn: they are not the frame's, not pinned, younger than the entry (or a comprehension's own) -/
def FpOk (X : Cx) (pins : List (Addr × Obj)) (H : Hp) (b : Addr) : Prop :=
  H b = none ∧ b ≠ X.env.locals ∧ b ∉ X.fs ∧ (b ∈ X.ex ∨ X.s₀.heap.objs.size ≤ b) ∧ (∀ x c, X.env.cells.lookup x = some c → c ≠ b) ∧ ∀ p ∈ X.pn ++ pins, p.1 ≠ b
theorem Inv.fpOk {X : Cx} {pins : List (Addr × Obj)} {σ : St} {H H' : Hp} {s : Shared} {b : Addr} (I : Inv X pins σ H s) (hb : s.heap.objs.size ≤ b) (hn : H' b = none) : FpOk X pins H' b := by
  refine ⟨hn, Nat.ne_of_gt (Nat.lt_of_lt_of_le I.lt hb), I.nofs hb, .inr (Nat.le_trans I.sz hb), fun x c e z => ?_, fun p hp z => ?_⟩
  · obtain ⟨v, q⟩ := I.cell x c e
    exact absurd (Nat.lt_of_lt_of_le q.lt (by rw [z]; exact hb)) (Nat.lt_irrefl _)
  · exact absurd (Nat.lt_of_lt_of_le (Heap.lt_size (I.pin p hp).1) (by rw [z]; exact hb)) (Nat.lt_irrefl _)
structure Turn (P : Program) (w : World) (K : PySem.W.Frag) (tg : Expr) (J : It) (fp : List Addr) (it : Addr) (tn : Nat → Heap → Prop) : Prop where
  mem : it ∈ fp
  obj : ∀ i h, tn i h → ∀ b ∈ fp, ∃ o, h.get? b = some o ∧ ∀ v, o.data ≠ .cell v
  keep : ∀ i h h', tn i h → (∀ b ∈ fp, ∀ o, h.get? b = some o → h'.get? b = some o) → tn i h'
  item : ∀ (X : Cx), X.prog = P → X.w = w → X.K = K → X.calm = true → ∀ (i : Nat) (pins : List (Addr × Obj)) (s : Shared) (σ : St) (H : Hp) (E : Value → Shared → Prop), Inv X pins σ H s → (∀ b ∈ fp, FpOk X pins H b) → tn i s.heap → J.go i H →
    wpAny (model P w) X.A (pyNext (.ref it)) (fun r s1 => ∃ u, r = some u ∧
      wpAny (model P w) X.A (letOwnedTupleGo tg (.ref it) u) (fun _ s2 => ∃ x H', Inv X pins σ H' s2 ∧ RelV x u ∧ J.yld i H x H' ∧ tn (i + 1) s2.heap ∧ ∀ b ∈ fp, H' b = none) E s1) E s
  done : ∀ (X : Cx), X.prog = P → X.w = w → X.K = K → X.calm = true → ∀ (i : Nat) (pins : List (Addr × Obj)) (s : Shared) (σ : St) (H : Hp) (E : Value → Shared → Prop), Inv X pins σ H s → (∀ b ∈ fp, FpOk X pins H b) → tn i s.heap → J.stop i H →
    wpAny (model P w) X.A (pyNext (.ref it)) (fun r s1 => r = none ∧ Inv X pins σ H s1) E s
  self : ∀ (A : Around) (i : Nat) (s : Shared) (Q : Value → Shared → Prop) (E : Value → Shared → Prop), tn i s.heap → Q (.ref it) s → wpAny (model P w) A (pyIter (.ref it)) Q E s
abbrev TI := St → Hp → (It → Hp → Prop) → Prop
/-- an iterator has come -/
def PIE (X : Cx) (pins : List (Addr × Obj)) (σ : St) (tg : Expr) (R : It → Hp → Prop) (itv : Value) (s2 : Shared) : Prop :=
  ∃ (it : Addr) (fp : List Addr) (tn : Nat → Heap → Prop) (J : It) (H' : Hp), itv = .ref it ∧ Inv X pins σ H' s2 ∧ Turn X.prog X.w X.K tg J fp it tn ∧ tn 0 s2.heap ∧ (∀ b ∈ fp, FpOk X pins H' b) ∧ R J H'
def PI (X : Cx) (tg iter : Expr) (wi : TI) : Prop :=
  ∀ (pins : List (Addr × Obj)) (s : Shared) (σ : St) (H : Hp) (R : It → Hp → Prop), Inv X pins σ H s → wi σ H R →
    wpAny (model X.prog X.w) X.A (eval iter X.env) (fun v s1 => wpAny (model X.prog X.w) X.A (pyIter v) (PIE X pins σ tg R) X.xe s1) X.xe s

/-- the step ahead of the store is nothing for an iterator that keeps no tuple -/
theorem go_of {M : Model} {A : Around} {E : Value → Shared → Prop} {s : Shared} {tg : Expr} {it : Addr} {u : Value} {o : Obj} {n : String} {vs : Array Value} {Q : Unit → Shared → Prop} (ho : s.heap.get? it = some o) (hc : o.cls = .type n) (hd : o.data = .fields vs)
    (hn : ["enumerate", "zip", "dict_itemiterator", "dict_reverseitemiterator", "odict_iterator", "itertools.zip_longest", "itertools.pairwise"].contains n = false) (hQ : Q () s) : wpAny M A (letOwnedTupleGo tg (.ref it) u) Q E s := by
  unfold letOwnedTupleGo
  cases tg <;> first
    | exact wpAny_pure hQ
    | (cases u <;> first
        | exact wpAny_pure hQ
        | (refine wpAny_bind (wpAny_load ho ?_)
           rw [hc, hd]
           show wpAny M A (if (["enumerate", "zip", "dict_itemiterator", "dict_reverseitemiterator", "odict_iterator", "itertools.zip_longest", "itertools.pairwise"].contains n && vs[0]? == some (rawInt _)) = true then _ else _) Q E s
           rw [if_neg (by intro h; rw [hn, Bool.false_and] at h; cases h)]
           exact wpAny_pure hQ))

/-- the list at a, as it stands at each turn (a loop may append to it) -/
def Itl (K : PySem.W.Frag) (a : Addr) : It :=
  ⟨fun i H => ∃ xs x, SqL K H a xs ∧ xs[i]? = some x, fun i H x H' => H' = H ∧ ∀ xs, SqL K H a xs → xs[i]? = some x, fun i H => ∃ xs, SqL K H a xs ∧ xs.length ≤ i⟩
/-- lo, lo + 1, .. (n of them) -/
def Itr (lo : Int) (n : Nat) : It := ⟨fun i _ => i < n, fun i H x H' => H' = H ∧ x = .int (lo + i), fun i _ => n ≤ i⟩
theorem turn_list {P : Program} {w : World} {K : PySem.W.Frag} {tg : Expr} (a it : Addr) : Turn P w K tg (Itl K a) [it] it (fun i h => h.IsListIter it a i) where
  mem := by simp
  obj := fun i h st b hb => by
    have e : b = it := by simpa using hb
    subst e
    obtain ⟨o, e, c, d⟩ := st
    exact ⟨o, e, fun v z => by rw [d] at z; cases z⟩
  keep := fun i h h' st k => st.at fun o e => k it (by simp) o e
  item := by
    intro X hP hw hK hc i pins s σ H E I hf st hg
    subst hP hw hK
    obtain ⟨xs, x, hq, hx⟩ := hg
    obtain ⟨its, rv, p, hz⟩ := I.list hq
    obtain ⟨u, hu, ru⟩ := rv.get hx
    obtain ⟨f0, f1, f2, f3, f4, f5⟩ := hf it (by simp)
    refine wpAny_pyNext_list_item st p.isList (x := u) (by simpa using hu) fun h' st' sb => ?_
    have I1 : Inv X pins σ H { s with heap := h' } := I.turned (t' := s.toks) (fun b o hb e => (sb.2 b hb).trans e) f0 f1 f3 f4 f5
    obtain ⟨o, e, c, d⟩ := id st'
    exact ⟨u, rfl, go_of (s := { s with heap := h' }) e c d (by decide) ⟨x, H, I1, ru, ⟨rfl, fun ys hy => by rw [I.list_inj hy hq]; exact hx⟩, st', fun b hb => (hf b hb).1⟩⟩
  done := by
    intro X hP hw hK hc i pins s σ H E I hf st hg
    subst hP hw hK
    obtain ⟨xs, hq, hx⟩ := hg
    obtain ⟨its, rv, p, hz⟩ := I.list hq
    obtain ⟨f0, f1, f2, f3, f4, f5⟩ := hf it (by simp)
    have hl := rv.length
    exact wpAny_pyNext_list_end (I.ok.hd hc) st p.isList (by simp; omega) fun h' eb => ⟨rfl, I.turned (t' := s.toks) (fun b o hb e => eb b o hb e) f0 f1 f3 f4 f5⟩
  self := fun _ _ _ _ _ st h => wpAny_pyIter_listiter st h
theorem turn_range {P : Program} {w : World} {K : PySem.W.Frag} {tg : Expr} (it : Addr) (lo : Int) (n : Nat) : Turn P w K tg (Itr lo n) [it] it (fun i h => IsRangeIter h it (lo + (i : Nat) * 1) ((n : Int) - (i : Nat)) 1) where
  mem := by simp
  obj := fun i h st b hb => by
    have e : b = it := by simpa using hb
    subst e
    exact ⟨_, st, fun v z => by
      have z' : Data.fields _ = Data.cell v := z
      cases z'⟩
  keep := fun i h h' st k => k it (by simp) _ st
  item := by
    intro X hP hw hK hc i pins s σ H E I hf st hg
    subst hP hw hK
    obtain ⟨f0, f1, f2, f3, f4, f5⟩ := hf it (by simp)
    have W := Walks.range (prog := X.prog) (w := X.w) (I.ok.hd hc) it lo 1 n
    refine W.item i s _ _ hg st fun v h' tk hv st' kk => ?_
    obtain ⟨t, rfl⟩ := hv
    have I1 : Inv X pins σ H { s with heap := h', toks := tk } := I.turned (fun b o hb e => kk b o (by simpa using hb) e) f0 f1 f3 f4 f5
    refine ⟨_, rfl, go_of (s := { s with heap := h', toks := tk }) (n := "range_iterator") st' rfl rfl (by decide) ⟨.int (lo + i), H, I1, ⟨t, ?_⟩, ⟨rfl, rfl⟩, st', fun b hb => (hf b hb).1⟩⟩
    rw [Int.mul_one]
  done := by
    intro X hP hw hK hc i pins s σ H E I hf st hg
    subst hP hw hK
    obtain ⟨f0, f1, f2, f3, f4, f5⟩ := hf it (by simp)
    exact wpAny_pyNext_range_end (I.ok.hd hc) st (by have : n ≤ i := hg; omega) fun h' eb => ⟨rfl, I.turned (t' := s.toks) (fun b o hb e => eb b o hb e) f0 f1 f3 f4 f5⟩
  self := fun _ _ _ _ _ st h => wpAny_pyIter_rangeiter st h
end L2

namespace L2
open PySem PySem.Spec PyProof.Rows
section
variable {X : Cx} {tg : Expr}
def iList (K : PySem.W.Frag) (tl : TE) : TI := fun σ H R => tl σ H fun x H1 => ∃ a, x = .ref a ∧ (∃ xs, SqL K H1 a xs) ∧ R (Itl K a) H1
theorem pi_list {l : Expr} {tl : TE} (hl : PE X l tl) : PI X tg l (iList X.K tl) := by
  intro pins s σ H R I h
  refine thn (hl pins s σ H _ I h) fun v s1 ⟨x, H1, I1, r1, q1⟩ => ?_
  obtain ⟨a, e, ⟨xs, hq⟩, q⟩ := q1
  subst e
  cases r1
  obtain ⟨its, rv, p, hz⟩ := I1.list hq
  refine wpAny_pyIter_list p.isList ?_
  refine ⟨s1.heap.objs.size, [s1.heap.objs.size], _, _, H1, rfl, I1.kept (t' := s1.toks) fun b o e => Heap.get?_push_of_some _ e, turn_list a _, ⟨_, Heap.get?_push_size _ rfl, rfl, rfl⟩, fun b hb => ?_, q⟩
  have e : b = s1.heap.objs.size := by simpa using hb
  subst e
  exact I1.fpOk (Nat.le_refl _) (I1.hok.fresh (Nat.le_refl _))
/-- a range object just made, walked -/
theorem range_it {pins : List (Addr × Obj)} {σ : St} {H : Hp} {s : Shared} {R : It → Hp → Prop} {E : Value → Shared → Prop} {lo hi : Int} {t u v : Tok} {tk : Nat} (I : Inv X pins σ H s) (h1 : -(2 ^ 62) ≤ lo) (h2 : lo < 2 ^ 62) (h3 : -(2 ^ 62) ≤ hi) (h4 : hi < 2 ^ 62)
    (q : R (Itr lo (hi - lo).toNat) H) : wpAny (model X.prog X.w) X.A (pyIter (.ref s.heap.objs.size)) (PIE X pins σ tg R) E { s with heap := s.heap.push { cls := .type "range", data := .fields #[.int lo t, .int hi u, .int 1 v] }, toks := tk } := by
  refine wpAny_pyIter_range (IsRange.new ..) (small_one h1 h2 h3 h4) ?_
  have I1 : Inv X pins σ H { s with heap := s.heap.push { cls := .type "range", data := .fields #[.int lo t, .int hi u, .int 1 v] }, toks := tk } := I.kept fun b o e => Heap.get?_push_of_some _ e
  refine ⟨(s.heap.push { cls := .type "range", data := .fields #[.int lo t, .int hi u, .int 1 v] }).objs.size, [(s.heap.push { cls := .type "range", data := .fields #[.int lo t, .int hi u, .int 1 v] }).objs.size], _, _, H, rfl,
    I1.kept (t' := tk) fun b o e => Heap.get?_push_of_some _ e, turn_range _ lo (hi - lo).toNat, ?_, fun b hb => ?_, q⟩
  · have e1 : lo + ((0 : Nat) : Int) * 1 = lo := by simp
    have e2 : (((hi - lo).toNat : Nat) : Int) - ((0 : Nat) : Int) = Builtin.Range.rangeSize lo hi 1 := by rw [rangeSize_one]; split <;> omega
    show IsRangeIter _ _ (lo + ((0 : Nat) : Int) * 1) ((((hi - lo).toNat : Nat) : Int) - ((0 : Nat) : Int)) 1
    rw [e1, e2]
    exact Heap.get?_push_size _ rfl
  · have e : b = (s.heap.push { cls := .type "range", data := .fields #[.int lo t, .int hi u, .int 1 v] }).objs.size := by simpa using hb
    subst e
    exact I1.fpOk (Nat.le_refl _) (I1.hok.fresh (Nat.le_refl _))
def iRng1 (ta : TA) : TI := fun σ H R => ta σ H fun vs H1 => ∃ j : Int, vs = [.int j] ∧ -(2 ^ 62) ≤ j ∧ j < 2 ^ 62 ∧ R (Itr 0 j.toNat) H1
theorem pi_range1 {a : Expr} {ta : TA} {p pos : Pos} (hg : Gl X "range") (hm : X.mg "range" = none) (ha : PA X [a] ta) (hs : starEach [a] X.env = [(false, eval a X.env)] := by rfl) : PI X tg (.Call (.Name "range" p) [a] [] pos) (iRng1 ta) := by
  intro pins s σ H R I h
  refine Call_ (ld_blt I hg hm boot_range (PyProof.Rows.callWith_type1 (thn (ha pos pins s σ H _ I h) fun us s1 ⟨vs, H1, I1, r1, q1⟩ => ?_) hs rfl))
  obtain ⟨j, e, q1, q2, q⟩ := q1
  subst e
  cases r1 with
  | cons r rr =>
    cases rr
    obtain ⟨t, rfl⟩ := r
    exact call_range_1 (range_it I1 (by omega) (by omega) q1 q2 (by simpa using q))
/-! ### for -/
/-- W: the invariant by the turn and a measure; N: what the body is to reach -/
def tFor (wi : TI) (g : TG) (tb : TS) : TS := fun D σ H => wi σ H fun J H1 => ∃ W : Nat → Nat → St → Hp → Prop, (∃ m, W 0 m σ H1) ∧ ∀ i m σ H, W i m σ H →
  (J.stop i H ∧ D.nx σ H) ∨ (J.go i H ∧ ∃ N : St → Hp → Prop, (∀ σ' H', N σ' H' → ∃ m', m' < m ∧ W (i + 1) m' σ' H') ∧ ∀ x H', J.yld i H x H' → g x σ H' fun σ2 H2 => tb { D with nx := N, ct := N, bk := D.nx } σ2 H2)
/-- the records at fp as they stand -/
def pinsAt (fp : List Addr) (h : Heap) : List (Addr × Obj) := fp.filterMap fun b => (h.get? b).map fun o => (b, o)
theorem mem_pinsAt {fp : List Addr} {h : Heap} {b : Addr} {o : Obj} (hb : b ∈ fp) (e : h.get? b = some o) : (b, o) ∈ pinsAt fp h := List.mem_filterMap.mpr ⟨b, hb, by rw [e]; rfl⟩
theorem of_pinsAt {fp : List Addr} {h : Heap} {p : Addr × Obj} (hp : p ∈ pinsAt fp h) : p.1 ∈ fp ∧ h.get? p.1 = some p.2 := by
  obtain ⟨b, hb, e⟩ := List.mem_filterMap.mp hp
  cases q : h.get? b with
  | none => rw [q] at e; cases e
  | some o =>
    rw [q] at e
    have e' : (b, o) = p := Option.some.inj e
    subst e'
    exact ⟨hb, q⟩
theorem Inv.pinned {pins : List (Addr × Obj)} {σ : St} {H : Hp} {s : Shared} {fp : List Addr} (I : Inv X pins σ H s) (hf : ∀ b ∈ fp, FpOk X pins H b) (ho : ∀ b ∈ fp, ∃ o, s.heap.get? b = some o ∧ ∀ v, o.data ≠ .cell v) : Inv X (pins ++ pinsAt fp s.heap) σ H s :=
  I.pins_of fun p hp => (List.mem_append.mp hp).elim (fun z => I.pin p (List.mem_append_right _ z)) fun z => by
    obtain ⟨hb, e⟩ := of_pinsAt z
    obtain ⟨f0, f1, f2, _⟩ := hf p.1 hb
    obtain ⟨o, e', d⟩ := ho p.1 hb
    rw [e] at e'; cases e'
    exact ⟨e, f0, f1, f2, d⟩
theorem Inv.unpinned {pins pl : List (Addr × Obj)} {σ : St} {H : Hp} {s : Shared} (I : Inv X (pins ++ pl) σ H s) : Inv X pins σ H s := I.pins_of fun p hp => I.pin p (List.mem_append_right _ (List.mem_append_left _ hp))
theorem ps_for {iter : Expr} {body : List Stmt} {wi : TI} {g : TG} {tb : TS} {pos : Pos} (hp : PassesOwn (model X.prog X.w) X.A X.env X.xe) (hc : X.calm = true) (hi : PI X tg iter wi) (hg : PG X tg g) (hb : PSs X body tb)
    (hs : ∀ x, foldedSetIterable iter X.env x = pure x := by intro _; rfl) : PS X (.For tg iter body [] pos) (tFor wi g tb) := by
  intro pins s σ H D I h
  refine wpAny_For (thn (hi pins s σ H _ I h) fun v s1 h1 => thn h1 fun itv s2 h2 => ?_) hs
  obtain ⟨it, fp, tn, J, H2, e, I2, T, st2, f2, W, ⟨m0, w0⟩, turn⟩ := h2
  subst e
  -- what stays true of the iterator's objects through the loop
  have stat : ∀ {H' : Hp}, (∀ b ∈ fp, H' b = none) → ∀ b ∈ fp, FpOk X pins H' b := fun hn b hb => ⟨hn b hb, (f2 b hb).2⟩
  refine codeAny_forLoop_any (fun n s' => ∃ i σ' H', Inv X pins σ' H' s' ∧ tn i s'.heap ∧ (∀ b ∈ fp, H' b = none) ∧ W i n σ' H') ?_ m0 ⟨0, σ, H2, I2, st2, fun b hb => (f2 b hb).1, w0⟩
  rintro n s3 ⟨i, σ3, H3, I3, st3, fr3, w3⟩
  rcases turn i n σ3 H3 w3 with ⟨stop, qn⟩ | ⟨go, N, hN, step⟩
  · refine wpAny_passesOwn hp (thn (T.done X rfl rfl rfl hc i pins s3 σ3 H3 X.xe I3 (stat fr3) st3 stop) fun r s4 ⟨hr, I4⟩ => ?_)
    subst hr
    exact wpAny_execs_nil ⟨σ3, H3, I4, qn⟩
  · refine wpAny_passesOwn hp (thn (T.item X rfl rfl rfl hc i pins s3 σ3 H3 X.xe I3 (stat fr3) st3 go) fun r s4 ⟨u, hr, h4⟩ => ?_)
    subst hr
    refine wpAny_passesOwn hp (thn h4 fun _ s5 ⟨x, H5, I5, r5, y5, st5, fr5⟩ => ?_)
    have I5' := I5.pinned (stat fr5) (T.obj _ _ st5)
    refine wpAny_passesOwn hp (thn (hg _ s5 σ3 H5 x u _ I5' r5 (step x H5 y5)) fun _ s6 ⟨σ6, H6, I6, q6⟩ => ?_)
    refine wpAny_passesOwn hp (thn (hb _ s6 σ6 H6 _ I6 q6) fun f s7 q7 => ?_)
    have again : ∀ {σ7 : St} {H7 : Hp}, Inv X (pins ++ pinsAt fp s5.heap) σ7 H7 s7 → N σ7 H7 → ∃ m, m < n ∧ ∃ i σ' H', Inv X pins σ' H' s7 ∧ tn i s7.heap ∧ (∀ b ∈ fp, H' b = none) ∧ W i m σ' H' := fun {σ7 H7} I7 n7 => by
      obtain ⟨m', hm, w7⟩ := hN σ7 H7 n7
      refine ⟨m', hm, i + 1, σ7, H7, I7.unpinned, T.keep _ _ _ st5 fun b hb o e => (I7.pin (b, o) (List.mem_append_right _ (List.mem_append_right _ (mem_pinsAt hb e)))).1, fun b hb => ?_, w7⟩
      obtain ⟨o, e, d⟩ := T.obj _ _ st5 b hb
      exact (I7.pin (b, o) (List.mem_append_right _ (List.mem_append_right _ (mem_pinsAt hb e)))).2.1
    cases f with
    | next => obtain ⟨σ7, H7, I7, n7⟩ := q7; exact again I7 n7
    | cont => obtain ⟨σ7, H7, I7, n7⟩ := q7; exact again I7 n7
    | brk => obtain ⟨σ7, H7, I7, q7⟩ := q7; exact ⟨σ7, H7, I7.unpinned, q7⟩
    | ret v => obtain ⟨x7, σ7, H7, I7, r7, q7⟩ := q7; exact ⟨x7, σ7, H7, I7.unpinned, r7, q7⟩
end

/-! ### the forms one uses -/
/-- over a list that the body leaves as it is -/
theorem for_list {K : PySem.W.Frag} {a : Addr} {xs : List V} {g : TG} {tb : TS} {D : Ends} {σ : St} {H : Hp} (Pv : Nat → St → Hp → Prop) (h0 : Pv 0 σ H) (hl : ∀ i σ H, i ≤ xs.length → Pv i σ H → SqL K H a xs)
    (hs : ∀ i x σ H, xs[i]? = some x → Pv i σ H → g x σ H fun σ2 H2 => tb { D with nx := Pv (i + 1), ct := Pv (i + 1), bk := D.nx } σ2 H2) (hd : ∀ σ H, Pv xs.length σ H → D.nx σ H) :
    ∃ W : Nat → Nat → St → Hp → Prop, (∃ m, W 0 m σ H) ∧ ∀ i m σ H, W i m σ H →
      ((Itl K a).stop i H ∧ D.nx σ H) ∨ ((Itl K a).go i H ∧ ∃ N : St → Hp → Prop, (∀ σ' H', N σ' H' → ∃ m', m' < m ∧ W (i + 1) m' σ' H') ∧ ∀ x H', (Itl K a).yld i H x H' → g x σ H' fun σ2 H2 => tb { D with nx := N, ct := N, bk := D.nx } σ2 H2) := by
  refine ⟨fun i m σ H => m = xs.length - i ∧ i ≤ xs.length ∧ Pv i σ H, ⟨xs.length, by simp, Nat.zero_le _, h0⟩, ?_⟩
  rintro i m σ H ⟨rfl, hi, p⟩
  have q := hl i σ H hi p
  by_cases hlt : i < xs.length
  · refine .inr ⟨⟨xs, xs[i], q, by simp [hlt]⟩, Pv (i + 1), fun σ' H' p' => ⟨xs.length - (i + 1), by omega, rfl, hlt, p'⟩, fun x H' y => ?_⟩
    obtain ⟨e, y⟩ := y
    subst e
    exact hs i x σ _ (y xs q) p
  · have e : i = xs.length := by omega
    subst e
    exact .inl ⟨⟨xs, q, Nat.le_refl _⟩, hd σ H p⟩
theorem for_range {lo : Int} {n : Nat} {g : TG} {tb : TS} {D : Ends} {σ : St} {H : Hp} (Pv : Nat → St → Hp → Prop) (h0 : Pv 0 σ H)
    (hs : ∀ i σ H, i < n → Pv i σ H → g (.int (lo + i)) σ H fun σ2 H2 => tb { D with nx := Pv (i + 1), ct := Pv (i + 1), bk := D.nx } σ2 H2) (hd : ∀ σ H, Pv n σ H → D.nx σ H) :
    ∃ W : Nat → Nat → St → Hp → Prop, (∃ m, W 0 m σ H) ∧ ∀ i m σ H, W i m σ H →
      ((Itr lo n).stop i H ∧ D.nx σ H) ∨ ((Itr lo n).go i H ∧ ∃ N : St → Hp → Prop, (∀ σ' H', N σ' H' → ∃ m', m' < m ∧ W (i + 1) m' σ' H') ∧ ∀ x H', (Itr lo n).yld i H x H' → g x σ H' fun σ2 H2 => tb { D with nx := N, ct := N, bk := D.nx } σ2 H2) := by
  refine ⟨fun i m σ H => m = n - i ∧ i ≤ n ∧ Pv i σ H, ⟨n, by simp, Nat.zero_le _, h0⟩, ?_⟩
  rintro i m σ H ⟨rfl, hi, p⟩
  by_cases hlt : i < n
  · refine .inr ⟨hlt, Pv (i + 1), fun σ' H' p' => ⟨n - (i + 1), by omega, rfl, hlt, p'⟩, fun x H' y => ?_⟩
    obtain ⟨e, y⟩ := y
    subst e y
    exact hs i σ _ hlt p
  · have e : i = n := by omega
    subst e
    exact .inl ⟨Nat.le_refl _, hd σ H p⟩
end L2

namespace L2
open PySem PySem.Spec PyProof.Rows

abbrev R2 := V → V → Hp → VK → Prop
/-- a two-place operation on values: f is binaryOp op, inplaceOp op or compareOp op -/
def OpR (X : Cx) (f : Value → Value → Sem Value) (r : R2) : Prop :=
  ∀ (pins : List (Addr × Obj)) (s : Shared) (σ : St) (H : Hp) (x y : V) (v u : Value) (Q : VK), Inv X pins σ H s → RelV x v → RelV y u → r x y H Q →
    wpAny (model X.prog X.w) X.A (f v u) (EP X pins σ Q) X.xe s
/-- a one-place operation -/
def UnR (X : Cx) (f : Value → Sem Value) (r : V → Hp → VK → Prop) : Prop :=
  ∀ (pins : List (Addr × Obj)) (s : Shared) (σ : St) (H : Hp) (x : V) (v : Value) (Q : VK), Inv X pins σ H s → RelV x v → r x H Q →
    wpAny (model X.prog X.w) X.A (f v) (EP X pins σ Q) X.xe s
/-- a call of a value that is known (a builtin, a type) with values -/
def CallR (X : Cx) (f : Value) (r : List V → Hp → VK → Prop) : Prop :=
  ∀ (pins : List (Addr × Obj)) (s : Shared) (σ : St) (H : Hp) (xs : List V) (us : List Value) (Q : VK), Inv X pins σ H s → Vals xs us → r xs H Q →
    wpAny (model X.prog X.w) X.A (call f us) (EP X pins σ Q) X.xe s
/-- a value's truth -/
def TruR (X : Cx) (r : V → Hp → (Bool → Hp → Prop) → Prop) : Prop :=
  ∀ (pins : List (Addr × Obj)) (s : Shared) (σ : St) (H : Hp) (x : V) (v : Value) (Q : Bool → Hp → Prop), Inv X pins σ H s → RelV x v → r x H Q →
    wpAny (model X.prog X.w) X.A (truthy v) (TP X pins σ Q) X.xe s

def tOp (r : R2) (ta tb : TE) : TE := fun σ H Q => ta σ H fun x H1 => tb σ H1 fun y H2 => r x y H2 Q
/-- ints in, under C, and a value out -/
def rI (C : Int → Int → Prop) (g : Int → Int → V) : R2 := fun x y H Q => ∃ i j, x = .int i ∧ y = .int j ∧ C i j ∧ Q (g i j) H
def rI0 (g : Int → Int → V) : R2 := fun x y H Q => ∃ i j, x = .int i ∧ y = .int j ∧ Q (g i j) H
section
variable {X : Cx} {a b c : Expr} {ta tb tc : TE} {pos : Pos}

theorem binT (ha : PE X a ta) (hb : PE X b tb) {pins : List (Addr × Obj)} {s : Shared} {σ : St} {H : Hp} {R : V → V → Hp → Prop} (I : Inv X pins σ H s)
    (h : ta σ H fun x H1 => tb σ H1 fun y H2 => R x y H2) {Q : Value → Shared → Prop} {f : Value → Value → Sem Value}
    (hf : ∀ v u s2 x y H2, Inv X pins σ H2 s2 → RelV x v → RelV y u → R x y H2 → wpAny (model X.prog X.w) X.A (f v u) Q X.xe s2) :
    wpAny (model X.prog X.w) X.A (eval a X.env) (fun v s₁ => wpAny (model X.prog X.w) X.A (eval b X.env) (fun u s₂ => wpAny (model X.prog X.w) X.A (f v u) Q X.xe s₂) X.xe s₁) X.xe s := by
  refine thn (ha pins s σ H _ I h) fun v s1 ⟨x, H1, I1, r1, q1⟩ => ?_
  refine thn (hb pins s1 σ H1 _ I1 q1) fun u s2 ⟨y, H2, I2, r2, q2⟩ => ?_
  exact hf v u s2 x y H2 I2 r1 r2 q2

theorem pe_op {op : Operator} {r : R2} (ho : OpR X (binaryOp op) r) (ha : PE X a ta) (hb : PE X b tb) : PE X (.BinOp a op b pos) (tOp r ta tb) := by
  intro pins s σ H Q I h
  exact wpAny_BinOp (binT ha hb I h fun v u s2 x y H2 I2 rx ry q => ho pins s2 σ H2 x y v u Q I2 rx ry q)
/-! ### ints -/
theorem opI {f : Value → Value → Sem Value} {C : Int → Int → Prop} {g : Int → Int → Int}
    (rule : ∀ (i j : Int) (t u : Tok) (s : Shared) (Q : Value → Shared → Prop) (E : Value → Shared → Prop), C i j → Q (.int (g i j) s.toks) { s with toks := s.toks + 1 } → wpAny (model X.prog X.w) X.A (f (.int i t) (.int j u)) Q E s) :
    OpR X f (rI C fun i j => .int (g i j)) := by
  intro pins s σ H x y v u Q I rx ry h
  obtain ⟨i, j, rfl, rfl, hc, q⟩ := h
  obtain ⟨t, rfl⟩ := rx
  obtain ⟨t', rfl⟩ := ry
  exact rule i j t t' s _ _ hc ⟨.int (g i j), H, I.tok _, ⟨_, rfl⟩, q⟩
theorem opI0 {f : Value → Value → Sem Value} {g : Int → Int → Int}
    (rule : ∀ (i j : Int) (t u : Tok) (s : Shared) (Q : Value → Shared → Prop) (E : Value → Shared → Prop), Q (.int (g i j) s.toks) { s with toks := s.toks + 1 } → wpAny (model X.prog X.w) X.A (f (.int i t) (.int j u)) Q E s) :
    OpR X f (rI0 fun i j => .int (g i j)) := by
  intro pins s σ H x y v u Q I rx ry h
  obtain ⟨i, j, rfl, rfl, q⟩ := h
  obtain ⟨t, rfl⟩ := rx
  obtain ⟨t', rfl⟩ := ry
  exact rule i j t t' s _ _ ⟨.int (g i j), H, I.tok _, ⟨_, rfl⟩, q⟩
theorem opB0 {f : Value → Value → Sem Value} {g : Int → Int → Bool}
    (rule : ∀ (i j : Int) (t u : Tok) (s : Shared) (Q : Value → Shared → Prop) (E : Value → Shared → Prop), Q (.bool (g i j)) s → wpAny (model X.prog X.w) X.A (f (.int i t) (.int j u)) Q E s) :
    OpR X f (rI0 fun i j => .bl (g i j)) := by
  intro pins s σ H x y v u Q I rx ry h
  obtain ⟨i, j, rfl, rfl, q⟩ := h
  obtain ⟨t, rfl⟩ := rx
  obtain ⟨t', rfl⟩ := ry
  exact rule i j t t' s _ _ ⟨.bl (g i j), H, I, rfl, q⟩

def CDiv (i j : Int) : Prop := 0 < j ∧ j < 1073741824
def CPow (i j : Int) : Prop := 0 ≤ j ∧ j ≤ 1000000 ∧ i.natAbs < 2 ^ 64
def CMul (i j : Int) : Prop := (-(2 ^ 64) < i ∧ i < 2 ^ 64) ∨ (-(2 ^ 64) < j ∧ j < 2 ^ 64)
theorem CMul.ok {i j : Int} (h : CMul i j) : IntMulOk i j := by
  rcases h with ⟨h1, h2⟩ | ⟨h1, h2⟩
  · exact .of_left (intBits_le_64 h1 h2)
  · exact .of_right (intBits_le_64 h1 h2)
theorem op_add : OpR X (binaryOp .Add) (rI0 fun i j => .int (i + j)) := opI0 fun _ _ _ _ _ _ _ q => add_int q
theorem op_sub : OpR X (binaryOp .Sub) (rI0 fun i j => .int (i - j)) := opI0 fun _ _ _ _ _ _ _ q => sub_int q
/-- // by a positive divisor -/
theorem op_fdiv : OpR X (binaryOp .FloorDiv) (rI CDiv fun i j => .int (i / j)) := opI fun i j _ _ _ _ _ hc q => by
  have h1 : (0 : Int) < j := hc.1
  have h2 : j < 1073741824 := hc.2
  exact floordiv_int (by omega) (by rw [Int.fdiv_eq_ediv_of_nonneg i (by omega)]; exact q) (.inl (PyProof.noPylong_small (by omega)))
/-- % by a positive divisor of any size -/
theorem op_mod : OpR X (binaryOp .Mod) (rI (fun _ j => 0 < j) fun i j => .int (i % j)) := opI fun i j _ _ _ _ _ hc q => by
  have h1 : (0 : Int) < j := hc
  exact mod_int' (by omega) (by rw [Int.fmod_eq_emod_of_nonneg i (by omega)]; exact q)
theorem op_pow : OpR X (binaryOp .Pow) (rI CPow fun i j => .int (i ^ j.toNat)) := opI fun _ _ _ _ _ _ _ hc q => pow_int_small hc.1 hc.2.1 hc.2.2 q
/-! ### bools among ints: n += (a < b) -/
end

/-! ### comparisons -/
/-- the scalars that == tells apart as data does -/
def scal : V → V → Bool
  | .non, .non => true | .non, .int _ => true | .int _, .non => true | .non, .bl _ => true | .bl _, .non => true | .non, .str _ => true | .str _, .non => true
  | .int _, .int _ => true | .bl _, .bl _ => true | .str _, .str _ => true | .byt _, .byt _ => true
  | .int _, .str _ => true | .str _, .int _ => true | .bl _, .str _ => true | .str _, .bl _ => true
  | _, _ => false
def rEq : R2 := fun x y H Q => scal x y = true ∧ Q (.bl (decide (x = y))) H
def rNe : R2 := fun x y H Q => scal x y = true ∧ Q (.bl (!decide (x = y))) H

theorem dec_int {i j : Int} : decide (V.int i = V.int j) = (i == j) := by
  rw [Bool.eq_iff_iff]
  simp
theorem dec_bl {i j : Bool} : decide (V.bl i = V.bl j) = (i == j) := by
  rw [Bool.eq_iff_iff]
  simp
theorem dec_str {i j : Str} : decide (V.str i = V.str j) = (i == j) := by
  rw [Bool.eq_iff_iff]
  simp
theorem dec_byt {i j : Array UInt8} : decide (V.byt i = V.byt j) = (i.toList == j.toList) := by
  rw [Bool.eq_iff_iff]
  cases i
  cases j
  simp

section
variable {X : Cx} {a b c : Expr} {ta tb tc : TE} {pos : Pos}
theorem fin_bl {pins : List (Addr × Obj)} {σ : St} {H : Hp} {s : Shared} {Q : VK} {k k' : Bool} (I : Inv X pins σ H s) (q : Q (.bl k) H) (e : k = k') : EP X pins σ Q (.bool k') s := by
  subst e
  exact ⟨.bl k, H, I, rfl, q⟩
theorem op_eq : OpR X (compareOp .Eq) rEq := by
  intro pins s σ H x y v u Q I rx ry h
  obtain ⟨hs, q⟩ := h
  cases x with
  | non =>
    cases rx
    cases y with
    | non => cases ry; exact PySem.EqNone.eq_none_none (fin_bl I q (by simp))
    | bl j => cases ry; exact PySem.EqNone.eq_none_bool (fin_bl I q (by simp))
    | int j => obtain ⟨t', rfl⟩ := ry; exact PySem.EqNone.eq_none_int (fin_bl I q (by simp))
    | str j => obtain ⟨t', rfl⟩ := ry; exact PySem.EqNone.eq_none_str (fin_bl I q (by simp))
    | _ => exact absurd (show false = true from hs) Bool.false_ne_true
  | bl i =>
    cases rx
    cases y with
    | non => cases ry; exact PySem.EqNone.eq_bool_none (fin_bl I q (by simp))
    | bl j => cases ry; exact eq_bool (fin_bl I q dec_bl)
    | str j => obtain ⟨t', rfl⟩ := ry; exact PySem.EqMixed.eq_bool_str (fin_bl I q (by simp))
    | _ => exact absurd (show false = true from hs) Bool.false_ne_true
  | int i =>
    obtain ⟨t, rfl⟩ := rx
    cases y with
    | non => cases ry; exact PySem.EqNone.eq_int_none (fin_bl I q (by simp))
    | int j => obtain ⟨t', rfl⟩ := ry; exact eq_int (fin_bl I q dec_int)
    | str j => obtain ⟨t', rfl⟩ := ry; exact PySem.EqMixed.eq_int_str (fin_bl I q (by simp))
    | _ => exact absurd (show false = true from hs) Bool.false_ne_true
  | str i =>
    obtain ⟨t, rfl⟩ := rx
    cases y with
    | non => cases ry; exact PySem.EqNone.eq_str_none (fin_bl I q (by simp))
    | bl j => cases ry; exact PySem.EqMixed.eq_str_bool (fin_bl I q (by simp))
    | int j => obtain ⟨t', rfl⟩ := ry; exact PySem.EqMixed.eq_str_int (fin_bl I q (by simp))
    | str j => obtain ⟨t', rfl⟩ := ry; exact eq_str (fin_bl I q dec_str)
    | _ => exact absurd (show false = true from hs) Bool.false_ne_true
  | byt i =>
    obtain ⟨t, rfl⟩ := rx
    cases y with
    | byt j => obtain ⟨t', rfl⟩ := ry; exact PySem.W.eq_bytes (fin_bl I q dec_byt)
    | _ => exact absurd (show false = true from hs) Bool.false_ne_true
  | _ => cases y <;> exact absurd (show false = true from hs) Bool.false_ne_true
theorem op_ne : OpR X (compareOp .NotEq) rNe := by
  intro pins s σ H x y v u Q I rx ry h
  obtain ⟨hs, q⟩ := h
  cases x with
  | non =>
    cases rx
    cases y with
    | non => cases ry; exact PySem.EqNone.ne_none_none (fin_bl I q (by simp))
    | bl j => cases ry; exact PySem.EqNone.ne_none_bool (fin_bl I q (by simp))
    | int j => obtain ⟨t', rfl⟩ := ry; exact PySem.EqNone.ne_none_int (fin_bl I q (by simp))
    | str j => obtain ⟨t', rfl⟩ := ry; exact PySem.EqNone.ne_none_str (fin_bl I q (by simp))
    | _ => exact absurd (show false = true from hs) Bool.false_ne_true
  | bl i =>
    cases rx
    cases y with
    | non => cases ry; exact PySem.EqNone.ne_bool_none (fin_bl I q (by simp))
    | bl j => cases ry; exact ne_bool (fin_bl I q (congrArg not dec_bl))
    | str j => obtain ⟨t', rfl⟩ := ry; exact PySem.EqMixed.ne_bool_str (fin_bl I q (by simp))
    | _ => exact absurd (show false = true from hs) Bool.false_ne_true
  | int i =>
    obtain ⟨t, rfl⟩ := rx
    cases y with
    | non => cases ry; exact PySem.EqNone.ne_int_none (fin_bl I q (by simp))
    | int j => obtain ⟨t', rfl⟩ := ry; exact ne_int (fin_bl I q (congrArg not dec_int))
    | str j => obtain ⟨t', rfl⟩ := ry; exact PySem.EqMixed.ne_int_str (fin_bl I q (by simp))
    | _ => exact absurd (show false = true from hs) Bool.false_ne_true
  | str i =>
    obtain ⟨t, rfl⟩ := rx
    cases y with
    | non => cases ry; exact PySem.EqNone.ne_str_none (fin_bl I q (by simp))
    | bl j => cases ry; exact PySem.EqMixed.ne_str_bool (fin_bl I q (by simp))
    | int j => obtain ⟨t', rfl⟩ := ry; exact PySem.EqMixed.ne_str_int (fin_bl I q (by simp))
    | str j => obtain ⟨t', rfl⟩ := ry; exact ne_str (fin_bl I q (congrArg not dec_str))
    | _ => exact absurd (show false = true from hs) Bool.false_ne_true
  | byt i =>
    obtain ⟨t, rfl⟩ := rx
    cases y with
    | byt j => obtain ⟨t', rfl⟩ := ry; exact PySem.W.ne_bytes (fin_bl I q (congrArg not dec_byt))
    | _ => exact absurd (show false = true from hs) Bool.false_ne_true
  | _ => cases y <;> exact absurd (show false = true from hs) Bool.false_ne_true

theorem op_lt : OpR X (compareOp .Lt) (rI0 fun i j => .bl (decide (i < j))) := opB0 fun _ _ _ _ _ _ _ q => lt_int q
/-- is None, is not None: the right side a value none -/
theorem op_isN : OpR X (compareOp .Is) (fun x y H Q => y = .non ∧ Q (.bl (decide (x = .non))) H) := by
  intro pins s σ H x y v u Q I rx ry h
  obtain ⟨rfl, q⟩ := h
  cases ry
  refine is_none_gen (fin_bl I q ?_)
  cases x <;> first
    | (cases rx; rfl)
    | (obtain ⟨t, rfl⟩ := rx; rfl)
/-- two rules for one operation: by cases -/
theorem OpR.or {f : Value → Value → Sem Value} {r r' : R2} (h : OpR X f r) (h' : OpR X f r') : OpR X f (fun x y H Q => r x y H Q ∨ r' x y H Q) := by
  intro pins s σ H x y v u Q I rx ry q
  rcases q with q | q
  · exact h pins s σ H x y v u Q I rx ry q
  · exact h' pins s σ H x y v u Q I rx ry q

theorem nomark (b : Expr) {op : CmpOp} (h : op ≠ .In := by decide) (h2 : op ≠ .NotIn := by decide) : behindInMarks op b = false := by
  have e1 : (op == CmpOp.In) = false := by cases op <;> first | rfl | exact absurd rfl h
  have e2 : (op == CmpOp.NotIn) = false := by cases op <;> first | rfl | exact absurd rfl h2
  cases b <;> simp [behindInMarks, e1, e2]
/-- a comparison as a value; hm: nomark b, or (for in, not in) by with_unfolding_all rfl -/
theorem pe_cmpR {op : CmpOp} {r : R2} (ho : OpR X (compareOp op) r) (ha : PE X a ta) (hb : PE X b tb) (hm : behindInMarks op b = false) : PE X (.Compare a [op] [b] pos) (tOp r ta tb) := by
  intro pins s σ H Q I h
  exact wpAny_Compare1 (binT ha hb I h fun v u s2 x y H2 I2 rx ry q => ho pins s2 σ H2 x y v u Q I2 rx ry q) hm
/-- a reading of a value as a test -/
def tTest (t : TE) : TT := fun σ H Q => t σ H fun x H' => ∃ k, x = .bl k ∧ Q k H'
theorem pt_cmpR {op : CmpOp} {r : R2} (ho : OpR X (compareOp op) r) (ha : PE X a ta) (hb : PE X b tb) (hm : behindInMarks op b = false) : PT X (.Compare a [op] [b] pos) (tTest (tOp r ta tb)) := by
  intro pins s σ H Q I h
  refine wpAny_isTrue_Compare1 (thn (ha pins s σ H _ I h) fun v s1 ⟨x, H1, I1, r1, q1⟩ => thn (hb pins s1 σ H1 _ I1 q1) fun u s2 ⟨y, H2, I2, r2, q2⟩ =>
    thn (ho pins s2 σ H2 x y v u _ I2 r1 r2 q2) fun c s3 ⟨z, H3, I3, r3, k, e, q3⟩ => ?_) hm
  subst e
  cases r3
  exact wpAny_truthy_bool ⟨H3, I3, q3⟩
/-- a op1 b op2 c -/
def tChain (r r' : R2) (ta tb tc : TE) : TE := fun σ H Q => ta σ H fun x H1 => tb σ H1 fun y H2 => r x y H2 fun z H3 => ∃ k, z = .bl k ∧
  (if k = true then tc σ H3 fun w' H4 => r' y w' H4 Q else Q (.bl false) H3)
theorem pt_chain {op op' : CmpOp} {r r' : R2} (ho : OpR X (compareOp op) r) (ho' : OpR X (compareOp op') r') (ha : PE X a ta) (hb : PE X b tb) (hc : PE X c tc)
    (hm : lastMarks [op, op'] [b, c] = false := by with_unfolding_all rfl) : PT X (.Compare a [op, op'] [b, c] pos) (tTest (tChain r r' ta tb tc)) := by
  intro pins s σ H Q I h
  refine isTrue_chain (thn (ha pins s σ H _ I h) fun v s1 ⟨x, H1, I1, r1, q1⟩ => test_link (thn (hb pins s1 σ H1 _ I1 q1) fun u s2 ⟨y, H2, I2, r2, q2⟩ =>
    thn (ho pins s2 σ H2 x y v u _ I2 r1 r2 q2) fun d s3 ⟨z, H3, I3, r3, k, e, q3⟩ => ?_)) hm
  subst e
  cases r3
  refine wpAny_truthy_bool ?_
  cases k with
  | false =>
    obtain ⟨k', e', q'⟩ := q3
    cases e'
    exact ite_ff ⟨H3, I3, q'⟩
  | true =>
    refine ite_tt (test_last (thn (hc pins s3 σ H3 _ I3 q3) fun w' s4 ⟨z', H4, I4, r4, q4⟩ => thn (ho' pins s4 σ H4 y z' u w' _ I4 r2 r4 q4) fun d' s5 ⟨z2, H5, I5, r5, k2, e2, q5⟩ => ?_))
    subst e2
    cases r5
    exact wpAny_truthy_bool ⟨H5, I5, q5⟩

/-! ### truth -/
theorem line63 : (sizeLine : Nat) < 2 ^ 63 := by rw [sizeLine_eq]; decide
/-! ### strs and bytes -/
theorem op_add_str : OpR X (binaryOp .Add) (fun x y H Q => ∃ i j, x = .str i ∧ y = .str j ∧ i.length + j.length ≤ sizeLine ∧ Q (.str (i ++ j)) H) := by
  intro pins s σ H x y v u Q I rx ry h
  obtain ⟨i, j, rfl, rfl, hz, q⟩ := h
  obtain ⟨t, rfl⟩ := rx
  obtain ⟨t', rfl⟩ := ry
  exact add_str (fun t' tk => ⟨.str (i ++ j), H, I.tok _, ⟨_, rfl⟩, q⟩) hz
/-! ### scalar builtins, by CallR -/
theorem vals1 {x : V} {us : List Value} (r : Vals [x] us) : ∃ u, us = [u] ∧ RelV x u := by
  cases r with
  | cons r1 r2 => cases r2; exact ⟨_, rfl, r1⟩
theorem vals2 {x y : V} {us : List Value} (r : Vals [x, y] us) : ∃ u w', us = [u, w'] ∧ RelV x u ∧ RelV y w' := by
  cases r with
  | cons r1 r2 =>
    cases r2 with
    | cons r3 r4 => cases r4; exact ⟨_, _, rfl, r1, r3⟩
theorem call_int1 : CallR X (.type "int") (fun xs H Q => (∃ i, xs = [.int i] ∧ Q (.int i) H) ∨ ∃ k, xs = [.bl k] ∧ Q (.int (if k then 1 else 0)) H) := by
  intro pins s σ H xs us Q I r h
  rcases h with ⟨i, rfl, q⟩ | ⟨k, rfl, q⟩
  · obtain ⟨u, rfl, t, rfl⟩ := vals1 r
    exact call_int_int ⟨.int i, H, I, ⟨_, rfl⟩, q⟩
  · obtain ⟨u, rfl, r1⟩ := vals1 r
    cases r1
    exact call_int_bool ⟨.int (if k then 1 else 0), H, I.tok _, ⟨_, rfl⟩, q⟩
end
end L2

namespace L2
open PySem PySem.Spec PyProof.Rows

/-! ### an instance, its attributes a map -/
structure ObjM (h : Heap) (x dx C : Addr) (mA : Str → Option Value) : Prop where
  obj : h.get? x = some (PySem.W.instObj C dx)
  ns : h.Ns1 dx mA
  ne : dx ≠ x

theorem lookIn_ns {h : Heap} {dx : Addr} {mA : Str → Option Value} (n : h.Ns1 dx mA) : ∃ od, h.get? dx = some od ∧ ∀ name, PySem.W.lookIn name od = some (mA name) := by
  obtain ⟨o, es, ep, ho, hd, hk, _, hm⟩ := n
  refine ⟨o, ho, fun name => ?_⟩
  have e := hm name
  unfold nsFind findBy at e
  rw [← Array.find?_toList] at e
  unfold PySem.W.lookIn
  rw [hd]
  dsimp only
  split
  · rename_i y q
    rw [q] at e
    exact congrArg some e
  · rename_i q
    rw [q] at e
    have a : es.toList.any (·.refKey) = false := by
      rw [List.any_eq_false]
      intro y hy
      obtain ⟨z, t, hkey⟩ := hk y (Array.mem_toList_iff.mp hy)
      simp [DictEntry.refKey, hkey]
    have a' : ¬ es.toList.any (·.refKey) = true := by rw [a]; exact Bool.false_ne_true
    rw [if_neg a']
    exact congrArg some e

theorem ObjM.look {h : Heap} {x dx C : Addr} {mA : Str → Option Value} (I : ObjM h x dx C mA) : ∃ od, PySem.W.InstAt h x (PySem.W.instObj C dx) C (some od) ∧ ∀ name, PySem.W.lookIn name od = some (mA name) :=
  let ⟨od, ho, hl⟩ := lookIn_ns I.ns
  ⟨od, ⟨I.obj, rfl, rfl, ho⟩, hl⟩

section
variable {prog : Program} {w : World} {A : Around} {E : Value → Shared → Prop} {s : Shared} {K : PySem.W.Frag} {x dx C f : Addr} {mA : Str → Option Value} {name : Str} {v : Value}

end

/-! ### the attributes as a list of pairs -/
theorem RelO.some_of {v : V} {o : Option Value} (r : RelO (some v) o) : ∃ u, o = some u ∧ RelV v u := by
  cases o with
  | none => exact (show False from r).elim
  | some u => exact ⟨u, rfl, r⟩
section
variable {P : Program} {w : World} {H H' : Hp} {h h' : Heap} {a C dx : Addr} {fs fs' : List (Str × V)}
theorem ins_get (hok : HOk P w H h) (e : H a = some (.ins C dx fs)) : ∃ mA, ObjM h a dx C mA ∧ (∀ f, RelO (fs.lookup f) (mA f)) ∧ PySem.Within mA (fs.map (·.1)) ∧ fs.length ≤ 1000 ∧ H dx = some (.own a) := by
  obtain ⟨d, z, ne, ob, mA, n, r, q⟩ := (show ObjOk P w H h a (.ins C dx fs) from hok a _ e)
  exact ⟨mA, ⟨ob, n, ne⟩, r, q, z, d⟩
end

/-! ### what of the text a class must have -/
structure Cls (K : PySem.W.Frag) (C : Addr) : Prop where
  pg : PySem.W.plainGet K C Str.empty = true
  hd : PySem.W.hasDictIn K C = true
  po : PySem.W.plainOver K C = true
  sa : PySem.W.findIn K (.ref C) "__setattr__" = some (some (.builtin "object.__setattr__"))
theorem Cls.get {K : PySem.W.Frag} {C : Addr} (c : Cls K C) (f : Str) : PySem.W.plainGet K C f = true := c.pg
/-- a constant of the class -/
structure Con (K : PySem.W.Frag) (C : Addr) (f : Str) (v : V) (u : Value) : Prop where
  at_ : PySem.W.findIn K (.ref C) f = some (some u)
  rel : RelV v u
  get : PySem.W.specialIn K u "__get__" = some none
  cp : PySem.W.copiedNames.contains f = false
/-- a method: a plain def of the class or of one above it -/
structure Meth (K : PySem.W.Frag) (C : Addr) (m : Str) (f : Addr) : Prop where
  at_ : PySem.W.findIn K (.ref C) m = some (some (.ref f))
  fn : PySem.W.isFn K (.ref f) = true
  kp : PySem.W.keepIn K (.ref f) = true

section
variable {X : Cx} {pins : List (Addr × Obj)} {σ : St} {H : Hp} {s : Shared} {a C dx : Addr} {fs : List (Str × V)} {f : Str} {v : V} {A : Around} {E : Value → Shared → Prop}

end

/-! ### readings and rules -/
section
variable {X : Cx} {o e value : Expr} {f : Str} {pos pos' tpos : Pos} {ta tv : TE}
end

/-! ### isinstance -/
section
variable {X : Cx} {pins : List (Addr × Obj)} {σ : St} {H : Hp} {s : Shared} {A : Around} {E : Value → Shared → Prop} {Q : Value → Shared → Prop} {c : Value} {b : Bool}
/-- the type of a value, as the fragment's deciders take it; for an instance its class -/
inductive TyOf (K : PySem.W.Frag) (H : Hp) : V → Value → Prop where
  | non : TyOf K H .non (.type "NoneType")
  | bl (x : Bool) : TyOf K H (.bl x) (.type "bool")
  | int (i : Int) : TyOf K H (.int i) (.type "int")
  | str (x : Str) : TyOf K H (.str x) (.type "str")
  | flt (x : UInt64) : TyOf K H (.flt x) (.type "float")
  | lst {a : Addr} {xs : List V} (e : H a = some (.lst xs)) : TyOf K H (.ref a) (.type "list")
  | frz {a : Addr} {o : Obj} {xs : List V} (e : H a = some (.frz o (.lst xs))) : TyOf K H (.ref a) (.type "list")
  | tup {a : Addr} {xs : List V} (e : H a = some (.tup xs)) : TyOf K H (.ref a) (.type "tuple")
  | dK {a : Addr} {kvs : List (Key × V)} (e : H a = some (.dK kvs)) : TyOf K H (.ref a) (.type "dict")
  | dT {a : Addr} {kvs : List (List Key × V)} (e : H a = some (.dT kvs)) : TyOf K H (.ref a) (.type "dict")
  | ins {a C dx : Addr} {fs : List (Str × V)} (e : H a = some (.ins C dx fs)) (cl : Cls K C) (ha : PySem.W.findIn K (.ref C) "__class__" = some (some (.builtin "object.__class__")))
      (hn : PySem.W.specialIn K (.builtin "object.__class__") "__get__" = some (some (.builtin "getset_descriptor.__get__"))) (htk : PySem.W.takesIn K (.builtin "object.__class__") = some true)
      (hm : PySem.W.mroIn K C (.type "object") = some true) : TyOf K H (.ref a) (.ref C)
end
end L2

namespace L2
open PySem PySem.Spec PyProof.Rows

/-! ### room -/
structure Room (k : Nat) (A : Around) : Prop where
  hd : A.handled = none
  dp : A.depth + 3 * k + 5 < recursionLimit
  un : A.units + 16 * k + 200 < cLine
theorem Room.mono {j k : Nat} {A : Around} (r : Room k A) (h : j ≤ k) : Room j A := ⟨r.hd, by have := r.dp; omega, by have := r.un; omega⟩
theorem Room.deeper {k : Nat} {A : Around} (r : Room (k + 1) A) (env : Env) : Room k (A.deeper env) :=
  ⟨r.hd, by have := r.dp; show A.depth + 1 + 3 * k + 5 < _; omega, by have := r.un; show A.units + 3 + 16 * k + 200 < _; omega⟩
theorem Room.in1 {k : Nat} {A : Around} (r : Room (k + 1) A) : Room k A.in1 :=
  ⟨r.hd, by have := r.dp; show A.depth + 3 * k + 5 < _; omega, by have := r.un; show A.units + 1 + 16 * k + 200 < _; omega⟩
theorem Room.depth {k : Nat} {A : Around} (r : Room k A) : A.depth < recursionLimit := by have := r.dp; omega
theorem Room.units {k : Nat} {A : Around} (r : Room k A) : A.units + 64 < cLine := by have := r.un; omega
/-! ### argument lists and displays -/
def tNil : TA := fun _ H Q => Q [] H
def tCons (ta : TE) (tr : TA) : TA := fun σ H Q => ta σ H fun x H1 => tr σ H1 fun xs H2 => Q (x :: xs) H2
section
variable {X : Cx} {e : Expr} {es : List Expr} {te : TE} {t : TA} {pos : Pos}
theorem pa_nil : PA X [] tNil := fun _ _ _ _ H Q I h => Calls.spliced_nil ⟨[], H, I, .nil, h⟩
theorem pa_cons (ha : PE X e te) (hr : PA X es t) (hs : starEach (e :: es) X.env = (false, eval e X.env) :: starEach es X.env := by rfl) : PA X (e :: es) (tCons te t) := by
  intro pos pins s σ H Q I h
  rw [hs]
  show wpAny _ _ (spliced ((false, eval e X.env) :: backTo pos (starEach es X.env))) _ _ s
  refine Calls.spliced_cons (thn (ha pins s σ H _ I h) fun u s1 ⟨x, H1, I1, r1, q1⟩ => ?_)
  exact thn (hr pos pins s1 σ H1 _ I1 q1) fun us s2 ⟨xs, H2, I2, r2, q2⟩ => ⟨x :: xs, H2, I2, .cons r1 r2, q2⟩

/-- a tuple, a list of written items -/
def tTup (t : TA) : TE := fun σ H Q => t σ H fun xs H1 => xs.length ≤ sizeLine ∧ ∀ p, H1 p = none → Q (.ref p) (upd H1 p (.tup xs))
def tLst (t : TA) : TE := fun σ H Q => t σ H fun xs H1 => xs.length ≤ sizeLine ∧ ∀ p, H1 p = none → Q (.ref p) (upd H1 p (.lst xs))
theorem pe_tup {x1} (h : PA X es t) : PE X (.Tuple es x1 pos) (tTup t) := by
  intro pins s σ H Q I hq
  refine wpAny_Tuple_spliced (thn (h pos pins s σ H _ I hq) fun us s1 ⟨xs, H1, I1, r, z, q⟩ => ⟨by rw [← r.length]; exact z, ?_⟩)
  have hf : H1 s1.heap.objs.size = none := I1.hok.fresh (Nat.le_refl _)
  refine ⟨.ref s1.heap.objs.size, upd H1 s1.heap.objs.size (.tup xs), I1.laid (t' := s1.toks) (fun b u e => Heap.get?_push_of_some _ e) (Nat.le_refl _) ?_, rfl, q _ hf⟩
  exact ⟨z, us, r, ⟨_, Heap.get?_push_size _ rfl, rfl, _, rfl⟩⟩
theorem pe_lst (h : PA X es t) : PE X (.List es pos) (tLst t) := by
  intro pins s σ H Q I hq
  refine wpAny_List_spliced (thn (h pos pins s σ H _ I hq) fun us s1 ⟨xs, H1, I1, r, z, q⟩ => ⟨by rw [← r.length]; exact z, ?_⟩)
  have hf : H1 s1.heap.objs.size = none := I1.hok.fresh (Nat.le_refl _)
  refine ⟨.ref s1.heap.objs.size, upd H1 s1.heap.objs.size (.lst xs), I1.laid (t' := s1.toks) (fun b u e => Heap.get?_push_of_some _ e) (Nat.le_refl _) ?_, rfl, q _ hf⟩
  exact ⟨z, us, 0, r, Heap.get?_push_size _ rfl⟩
end

/-! ### what a def promises -/
/-- a def's promise: the bound arguments in the parameters' order, the heap, the wanted end, the wanted exception -/
abbrev Sp := List V → Hp → VK → XK → Prop
/-- how an exception lies behind a call (file 08 gives it): the callers' frames, abstract heap and state ahead of the call, the wish, the exception, the state -/
abbrev CXT := List Env → Hp → Shared → XK → Value → Shared → Prop

/-- the state at a call -/
structure Env0 (P : Program) (w : World) (K : PySem.W.Frag) (mg : Str → Option Value) (base : Heap) (A : Around) (outer : List Env) (s : Shared) (H : Hp) : Prop where
  frames : A.frames = some outer
  mod : Mod K mg base
  bs : ∀ b o, base.get? b = some o → s.heap.get? b = some o ∧ H b = none
  bsz : base.objs.size ≤ s.heap.objs.size
  funs : s.heap.FunFrames base outer
  frf : ∀ b ∈ frs outer, H b = none
  hok : HOk P w H s.heap
  bare : AllBare s.gens
/-- a call's end -/
def CE (outer : List Env) (P : Program) (w : World) (H : Hp) (s : Shared) (Q : VK) (u : Value) (s' : Shared) : Prop :=
  ∃ v H', s'.os = s.os ∧ AllBare s'.gens ∧ Un (frs outer) [] H H' s.heap s'.heap ∧ HOk P w H' s'.heap ∧ RelV v u ∧ Q v H'
def CR (CX : CXT) (outer : List Env) (P : Program) (w : World) (H : Hp) (s : Shared) (Q : VK) (E : XK) (r : Result) (s' : Shared) : Prop :=
  match r with
  | .ok (.ret u) => CE outer P w H s Q u s'
  | .ok _ => False
  | .error e => CX outer H s E e s'
structure FnOk (P : Program) (w : World) (K : PySem.W.Frag) (mg : Str → Option Value) (base : Heap) (CX : CXT) (k : Nat) (f : Addr) (fd : FuncData) (ps : List Str) (sp : Sp) : Prop where
  len : ∀ vs H Q E, sp vs H Q E → vs.length = ps.length
  run : ∀ (A : Around) (outer : List Env) (s : Shared) (H : Hp) (args : Args) (us : List Value) (vs : List V) (Q : VK) (E : XK), Room k A → Env0 P w K mg base A outer s H → BindsTo s fd args (ps.zip us) → Vals vs us → sp vs H Q E →
    codeAny (model P w) A (.call (.ref f) args) (CR CX outer P w H s Q E) s
theorem FnOk.mono {P : Program} {w : World} {K : PySem.W.Frag} {mg : Str → Option Value} {base : Heap} {CX : CXT} {j k : Nat} {f : Addr} {fd : FuncData} {ps : List Str} {sp : Sp} (F : FnOk P w K mg base CX j f fd ps sp) (h : j ≤ k) :
    FnOk P w K mg base CX k f fd ps sp := ⟨F.len, fun A outer s H args us vs Q E hr => F.run A outer s H args us vs Q E (hr.mono h)⟩
/-- a weaker promise -/
theorem FnOk.imp {P : Program} {w : World} {K : PySem.W.Frag} {mg : Str → Option Value} {base : Heap} {CX : CXT} {k : Nat} {f : Addr} {fd : FuncData} {ps : List Str} {sp sp' : Sp} (F : FnOk P w K mg base CX k f fd ps sp)
    (h : ∀ vs H Q E, sp' vs H Q E → sp vs H Q E) : FnOk P w K mg base CX k f fd ps sp' :=
  ⟨fun vs H Q E q => F.len vs H Q E (h _ _ _ _ q), fun A outer s H args us vs Q E hr he hb hv hs => F.run A outer s H args us vs Q E hr he hb hv (h _ _ _ _ hs)⟩

theorem Env0.in1 {P : Program} {w : World} {K : PySem.W.Frag} {mg : Str → Option Value} {base : Heap} {A : Around} {outer : List Env} {s : Shared} {H : Hp} (e : Env0 P w K mg base A outer s H) :
    Env0 P w K mg base A.in1 outer s H := ⟨e.frames, e.mod, e.bs, e.bsz, e.funs, e.frf, e.hok, e.bare⟩

section
variable {X : Cx} {pins : List (Addr × Obj)} {σ : St} {H : Hp} {s s' : Shared}
/-- from a body: what a callee wants -/
theorem Inv.env0 (I : Inv X pins σ H s) : Env0 X.prog X.w X.K X.mg X.base X.A X.stack s H :=
  ⟨I.ok.frames, I.ok.mod, I.bs, Nat.le_trans I.ok.bsz I.sz, I.stack, I.stkFree, I.hok, I.bare⟩
/-- behind a call -/
theorem Inv.after {Q : VK} {u : Value} (I : Inv X pins σ H s) (h : CE X.stack X.prog X.w H s Q u s') : EP X pins σ Q u s' := by
  obtain ⟨v, H', os, bare, un, hok, r, q⟩ := h
  obtain ⟨hh, g, d, t, os'⟩ := s'
  obtain rfl : os' = s.os := os
  exact ⟨v, H', I.call (h' := hh) (g' := g) (d' := d) (t' := t) (ch := []) un hok bare (fun b z => absurd z (by simp)), r, q⟩
end

/-! ### calls -/
/-- f(..): the written arguments, then the defaults dvs; E: what is wanted of an exception -/
def tCall (sp : Sp) (dvs : List V) (E : XK) (t : TA) : TE := fun σ H Q => t σ H fun vs H1 => sp (vs ++ dvs) H1 Q E
/-- how the parameters are bound: us the positional arguments, kw the keywords' values by name, ds the defaults that fill up -/
def Binds (K : PySem.W.Frag) (fd : FuncData) (ps : List Str) (ds : List Value) : Prop :=
  ∀ (s : Shared) (us : List Value), K.In s.heap → (us ++ ds).length = ps.length → BindsTo s fd ⟨us, []⟩ (ps.zip (us ++ ds))
/-- every parameter is given -/
theorem Binds.all {K : PySem.W.Frag} {fd : FuncData} {ps : List Str} (h : ∀ us : List Value, us.length = ps.length → bindArgs fd ⟨us, []⟩ = pure (ps.zip us)) : Binds K fd ps [] := fun s us _ hl => by
  rw [List.append_nil] at hl ⊢
  exact .of_eq (h us hl)

/-- an exception of a callee reaches what this body wants of exceptions -/
def Passes (CX : CXT) (X : Cx) (E : XK) : Prop := ∀ (pins : List (Addr × Obj)) (σ : St) (H : Hp) (s : Shared) (e : Value) (s' : Shared), Inv X pins σ H s → CX X.stack H s E e s' → X.xe e s'

section
variable {X : Cx} {CX : CXT} {k : Nat} {f C : Addr} {fd : FuncData} {ps : List Str} {sp : Sp} {dvs : List V} {ds : List Value} {E : XK} {x m : Str} {p pos apos : Pos} {e o : Expr} {es : List Expr} {ta : TE} {t : TA}

/-- the callee runs -/
theorem run_fn {pins : List (Addr × Obj)} {σ : St} {H : Hp} {s : Shared} {Q : VK} {us : List Value} {vs : List V} (F : FnOk X.prog X.w X.K X.mg X.base CX k f fd ps sp) (hr : Room k X.A) (hb : Binds X.K fd ps ds) (hd : Vals dvs ds) (hx : Passes CX X E)
    (I : Inv X pins σ H s) (r : Vals vs us) (h : sp (vs ++ dvs) H Q E) : wpAny (model X.prog X.w) X.A (call (.ref f) us) (EP X pins σ Q) X.xe s := by
  have r2 : Vals (vs ++ dvs) (us ++ ds) := r.append hd
  have hl : (us ++ ds).length = ps.length := by rw [← r2.length]; exact F.len _ _ _ _ h
  refine wpAny_call (codeAny_mono (F.run X.A X.stack s H ⟨us, []⟩ (us ++ ds) (vs ++ dvs) Q E hr I.env0 (hb s us I.kIn hl) r2 h) fun r s' hq => ?_)
  cases r with
  | error e => exact hx pins σ H s e s' I hq
  | ok fl =>
    cases fl with
    | ret u => exact I.after hq
    | next => exact False.elim hq
    | brk => exact False.elim hq
    | cont => exact False.elim hq

theorem pe_call (F : FnOk X.prog X.w X.K X.mg X.base CX k f fd ps sp) (hr : Room k X.A) (hg : Gl X x) (hm : X.mg x = some (.ref f)) (hk : PySem.W.keepIn X.K (.ref f) = true) (hb : Binds X.K fd ps ds) (hd : Vals dvs ds) (hx : Passes CX X E)
    (ha : PA X (e :: es) t) (hdb : (x == ("__debug__" : Str)) = false := by decide) (he : starEach (e :: es) X.env = (false, eval e X.env) :: starEach es X.env := by rfl) (hpl : (backTo pos (starEach es X.env)).any (·.1) = false := by rfl) :
    PE X (.Call (.Name x p) (e :: es) [] pos) (tCall sp dvs E t) := by
  intro pins s σ H Q I h
  refine wpAny_Call_Name_kw (ld_glob I hg hm ?_ hdb)
  refine PySem.W.callWith_K (h₀ := X.base) I.ok.mod.kin hk (thn (ha pos pins s σ H _ I h) fun us s1 ⟨vs, H1, I1, r, q⟩ => ⟨I1.kIn, ?_⟩) he hpl
  exact run_fn F hr hb hd hx I1 r q
/-- what a class must have to be made -/
structure Mk (K : PySem.W.Frag) (C f : Addr) : Prop where
  makes : PySem.W.makesIn K C = true
  init : PySem.W.findIn K (.ref C) "__init__" = some (some (.ref f))
  fn : PySem.W.isFn K (.ref f) = true
  kp : PySem.W.keepIn K (.ref C) = true

end

/-! ### keywords -/
section
variable {X : Cx} {CX : CXT} {k : Nat} {f C : Addr} {fd : FuncData} {ps ks : List Str} {sp : Sp} {E : XK} {x m : Str} {p pos apos kpos : Pos} {e o : Expr} {es : List Expr} {kws : List Keyword} {te ta : TE} {t tk : TA} {nm : Option Str}
/-- how a call with keywords binds: g puts the positional values us and the keywords' values ws (names ks) in the parameters' order, defaults among them -/
structure KBinds (K : PySem.W.Frag) (fd : FuncData) (ps ks : List Str) (g : List Value → List Value → List Value) (gV : List V → List V → List V) : Prop where
  to : ∀ (s : Shared) (us ws : List Value), K.In s.heap → (g us ws).length = ps.length → BindsTo s fd ⟨us, ks.zip ws⟩ (ps.zip (g us ws))
  rel : ∀ {vs : List V} {us : List Value} {zs : List V} {ws : List Value}, Vals vs us → Vals zs ws → Vals (gV vs zs) (g us ws)
variable {g : List Value → List Value → List Value} {gV : List V → List V → List V}
end

/-! ### a def's body keeps its promise -/
/-- names: the parameters first -/
structure FnScope (N P : List Str) (sc : Scope) : Prop where
  kind : sc.kind = .function
  co : sc.isCoroutine = false
  gen : sc.isGenerator = false
  nd : N.Nodup
  pre : N.take P.length = P
  par : ∀ x ∈ P, sc.names.lookup x = some .local ∨ sc.names.lookup x = some .cell
  nofree : ∀ y ∈ sc.names, y.2 ≠ .free

theorem bindL_out {kindOf : Str → Option NameKind} {x : Str} : ∀ {binds : List (Str × Value)} {m : Str → Option Value}, (∀ v, (x, v) ∉ binds) → bindL kindOf binds m x = m x
  | [], _, _ => rfl
  | (n, v) :: r, m, h => by
    unfold bindL
    rw [bindL_out fun w hw => h w (List.mem_cons_of_mem _ hw)]
    split
    · have : x ≠ n := by rintro rfl; exact h v List.mem_cons_self
      simp [this]
    · rfl
theorem bindC_out {kindOf : Str → Option NameKind} {x : Str} : ∀ {binds : List (Str × Value)} {m : Str → Option Value}, (∀ v, (x, v) ∉ binds) → bindC kindOf binds m x = m x
  | [], _, _ => rfl
  | (n, v) :: r, m, h => by
    unfold bindC
    rw [bindC_out fun w hw => h w (List.mem_cons_of_mem _ hw)]
    split
    · rfl
    · have : x ≠ n := by rintro rfl; exact h v List.mem_cons_self
      simp [this]
theorem bindL_get {kindOf : Str → Option NameKind} {x : Str} {v : Value} : ∀ {P : List Str} {vs : List Value} {i : Nat} {m : Str → Option Value}, P.Nodup → P[i]? = some x → vs[i]? = some v → kindOf x = some .local →
    bindL kindOf (P.zip vs) m x = some v
  | [], _, _, _, _, h, _, _ => by simp at h
  | _ :: _, [], _, _, _, _, h, _ => by simp at h
  | p :: P, w :: vs, 0, m, nd, h1, h2, hk => by
    simp at h1 h2; subst h1; subst h2
    show bindL kindOf ((p, w) :: P.zip vs) m p = _
    unfold bindL
    rw [bindL_out fun v hv => (List.nodup_cons.mp nd).1 (List.of_mem_zip hv).1, if_pos hk]
    simp
  | p :: P, w :: vs, i + 1, m, nd, h1, h2, hk => by
    show bindL kindOf ((p, w) :: P.zip vs) m x = _
    unfold bindL
    exact bindL_get (i := i) (List.nodup_cons.mp nd).2 (by simpa using h1) (by simpa using h2) hk
theorem bindC_get {kindOf : Str → Option NameKind} {x : Str} {v : Value} : ∀ {P : List Str} {vs : List Value} {i : Nat} {m : Str → Option Value}, P.Nodup → P[i]? = some x → vs[i]? = some v → kindOf x ≠ some .local →
    bindC kindOf (P.zip vs) m x = some v
  | [], _, _, _, _, h, _, _ => by simp at h
  | _ :: _, [], _, _, _, _, h, _ => by simp at h
  | p :: P, w :: vs, 0, m, nd, h1, h2, hk => by
    simp at h1 h2; subst h1; subst h2
    show bindC kindOf ((p, w) :: P.zip vs) m p = _
    unfold bindC
    rw [bindC_out fun v hv => (List.nodup_cons.mp nd).1 (List.of_mem_zip hv).1, if_neg hk]
    simp
  | p :: P, w :: vs, i + 1, m, nd, h1, h2, hk => by
    show bindC kindOf ((p, w) :: P.zip vs) m x = _
    unfold bindC
    exact bindC_get (i := i) (List.nodup_cons.mp nd).2 (by simpa using h1) (by simpa using h2) hk

/-- the names' values at the entry -/
def start (N : List Str) (vs : List V) : St := vs.map some ++ List.replicate (N.length - vs.length) none

/-- the context of a def's body, at its entry; an exception leaves the frame, then lies as CX says -/
def cxOf (CX : CXT) (P : Program) (w : World) (K : PySem.W.Frag) (mg : Str → Option Value) (base : Heap) (N : List Str) (qual : Str) (scope : Scope) (f : Addr) (cd : Value) (A : Around) (outer : List Env) (s : Shared) (H : Hp) (E : XK) : Cx where
  prog := P
  w := w
  K := K
  mg := mg
  base := base
  A := A.deeper (envOfC qual scope s.heap.objs.size f cd)
  N := N
  s₀ := s
  H₀ := H
  env := envOfC qual scope s.heap.objs.size f cd
  outer := outer
  stack := envOfC qual scope s.heap.objs.size f cd :: outer
  ex := []
  calm := true
  fn := fun _ => true
  pn := []
  xe := fun e s' => wpAny (model P w) (A.deeper (envOfC qual scope s.heap.objs.size f cd)) (leaving (envOfC qual scope s.heap.objs.size f cd) e) (fun _ s'' => CX outer H s E e s'') (fun e' s'' => CX outer H s E e' s'') s'

theorem cell_has {sc : Scope} {n : Nat} {x : Str} (h : sc.names.lookup x = some .cell) : ∃ c, (cellsFrom n sc.names []).lookup x = some c := by
  have q := PySem.W.cellsFrom_some sc.names n [] (.inl h)
  exact Option.isSome_iff_exists.mp q

theorem inv_start {CX : CXT} {P : Program} {w : World} {K : PySem.W.Frag} {mg : Str → Option Value} {base : Heap} {N ps : List Str} {qual : Str} {scope : Scope} {f : Addr} {cd : Value} {A : Around} {outer : List Env} {s s1 : Shared} {H : Hp} {E : XK} {us : List Value} {vs : List V}
    (S : FnScope N ps scope) (hd : A.handled = none) (e0 : Env0 P w K mg base A outer s H) (hl : vs.length = ps.length) (r : Vals vs us)
    (x : InCallC s s.heap.objs.size (bindL (envOfC qual scope s.heap.objs.size f cd).kindOf (ps.zip us) fun _ => none) (cellsFrom (s.heap.objs.size + 1) scope.names []) (bindC (envOfC qual scope s.heap.objs.size f cd).kindOf (ps.zip us) fun _ => none) s1) :
    Inv (cxOf CX P w K mg base N qual scope f cd A outer s H E) [] (start N vs) H s1 := by
  have hpl : ps.length ≤ N.length := by have := congrArg List.length S.pre; rw [List.length_take] at this; omega
  obtain ⟨h1, tk, rfl, hk⟩ := x.done
  have noA : ∀ b : Addr, b ∉ (cxOf CX P w K mg base N qual scope f cd A outer s H E).ex := fun b z => absurd (show b ∈ ([] : List Addr) from z) (by simp)
  refine ⟨⟨e0.mod, S.kind, rfl, rfl, Nat.le_refl _, fun y z c h1 h2 => ?_, fun y hy => ?_, fun y c _ h => ?_, fun _ => hd, Around.frames_deeper e0.frames, .inr ⟨rfl, rfl⟩, fun b z => absurd z (noA b), e0.bs, e0.bsz, fun b _ _ => noA b, fun b z => absurd z (noA b), e0.funs, e0.frf⟩,
    rfl, e0.bare, Un.kept hk, ⟨_, x.toInCall.ns, fun i y v h1 h2 h3 => ?_⟩, fun y c h => ⟨_, x.cell y c h⟩, e0.hok.fresh (Nat.le_refl _), fun y c h => ?_, fun p hp => absurd (show p ∈ ([] : List (Addr × Obj)) from hp) (by simp), e0.hok.kept hk, ?_⟩
  · exact name_of_addr x.apart (PySem.mem_of_lookup h1) (PySem.mem_of_lookup h2)
  · have hy : scope.names.lookup y = some .cell ∨ scope.names.lookup y = some .free := hy
    rcases hy with hy | hy
    · exact cell_has hy
    · exact absurd rfl (S.nofree _ (PySem.mem_of_lookup hy))
  · exact Nat.le_of_lt (x.above y c (PySem.mem_of_lookup h))
  · have hi : i < vs.length := by
      unfold start at h2
      by_cases hi : i < vs.length
      · exact hi
      · rw [List.getElem?_append_right (by simpa using hi)] at h2
        rw [List.getElem?_replicate] at h2
        split at h2 <;> cases h2
    have ha : vs[i]? = some v := by
      unfold start at h2
      rw [List.getElem?_append_left (by simpa using hi), List.getElem?_map] at h2
      cases e : vs[i]? with
      | none => rw [e] at h2; cases h2
      | some a => rw [e] at h2; cases h2; rfl
    obtain ⟨u, hu, rv⟩ := r.get ha
    have hp : ps[i]? = some y := by
      rw [← S.pre, List.getElem?_take_of_lt (by omega)]; exact h1
    have ndP : ps.Nodup := by rw [← S.pre]; exact S.nd.sublist (List.take_sublist _ _)
    refine ⟨u, rv, ?_⟩
    rcases S.par y (List.mem_of_getElem? hp) with k | k
    · exact .inl ⟨k, bindL_get ndP hp hu k⟩
    · obtain ⟨c, e⟩ := cell_has (n := s.heap.objs.size + 1) k
      refine .inr ⟨.inl k, c, e, ?_⟩
      have q := x.cell y c e
      rw [bindC_get ndP hp hu (by show scope.names.lookup y ≠ _; rw [k]; decide)] at q
      exact q
  · exact e0.hok.fresh (Nat.le_of_lt (x.above y c (PySem.mem_of_lookup h)))
  · unfold start
    show _ = N.length
    rw [List.length_append, List.length_map, List.length_replicate]
    omega

/-- THE RULE: a def (or a method) of the text, by its body. The body's reading t is chosen for each entry; it is run at the parameters' values -/
theorem fn_of {CX : CXT} {P : Program} {w : World} {K : PySem.W.Frag} {mg : Str → Option Value} {base : Heap} {k : Nat} {f : Addr} {name qual : Str} {params : Arguments} {body : List Stmt} {scope : Scope} {dV kV doc pm cdv ct oc : Value} {an od : Option Addr}
    {osl : Array (Option Value)} {N ps : List Str} {sp : Sp} (lk : K.lookup f = some ⟨oc, od, .func (PySem.W.fnOf name qual params body scope dV kV doc pm an cdv ct), osl⟩) (hcd : PySem.W.codeIn K cdv qual = true) (S : FnScope N ps scope)
    (len : ∀ vs H Q E, sp vs H Q E → vs.length = ps.length)
    (hbody : ∀ (A : Around) (outer : List Env) (s : Shared) (H : Hp) (vs : List V) (Q : VK) (E : XK), Room k (A.deeper (envOfC qual scope s.heap.objs.size f cdv)) → sp vs H Q E →
      ∃ t, PSs (cxOf CX P w K mg base N qual scope f cdv A outer s H E) body t ∧ t { nx := fun _ H' => Q .non H', rt := Q } (start N vs) H) :
    FnOk P w K mg base CX (k + 1) f (PySem.W.fnOf name qual params body scope dV kV doc pm an cdv ct) ps sp := by
  refine ⟨len, fun A outer s H args us vs Q E hr e0 hb r hsp => ?_⟩
  have hl := len _ _ _ _ hsp
  have KX : K.In s.heap := e0.mod.kin.keeps fun b o e => (e0.bs b o e).1
  have lim : s.heap.NoLimit := e0.mod.nolimit.keeps fun b o e => (e0.bs b o e).1
  have hkind : ∀ y ∈ ps.zip us, scope.names.lookup y.1 = some .local ∨ (scope.names.lookup y.1 = some .cell ∧ ((cellsFrom (s.heap.objs.size + 1) scope.names []).lookup y.1).isSome = true) := fun ⟨n, v⟩ hy => by
    rcases S.par n (List.of_mem_zip hy).1 with q | q
    · exact .inl q
    · exact .inr ⟨q, PySem.W.cellsFrom_some _ _ _ (.inl q)⟩
  refine codeAny_call_function hr.depth (KX _ _ lk) rfl S.co S.gen rfl (PySem.W.codeRec_of KX hcd) (hb _ _ _ _ ?_)
  refine wpAny_newFunctionEnv_cells S.kind hkind fun env he s1 x => ?_
  subst he
  refine ⟨lim.keeps x.toInCall.keep, codeAny_func ?_⟩
  obtain ⟨t, ht, hq⟩ := hbody A outer s H vs Q E (hr.deeper _) hsp
  have I : Inv (cxOf CX P w K mg base N qual scope f cdv A outer s H E) [] (start N vs) H s1 := inv_start S hr.hd e0 hl r x
  refine wpAny_mono (ht [] s1 (start N vs) H _ I hq) (fun fl s' hs => ?_) fun e s' hs => hs
  have fin : ∀ {σ' : St} {H' : Hp} {v : V} {u : Value}, Inv (cxOf CX P w K mg base N qual scope f cdv A outer s H E) [] σ' H' s' → RelV v u → Q v H' → CE outer P w H s Q u s' :=
    fun {σ' H' v u} J rv q => ⟨v, H', J.os, J.bare, J.base, J.hok, rv, q⟩
  cases fl with
  | ret u =>
    obtain ⟨v, σ', H', J, rv, q⟩ := hs
    exact fin J rv q
  | next =>
    obtain ⟨σ', H', J, q⟩ := hs
    exact fin (v := V.non) (u := Value.none) J rfl q
  | brk =>
    obtain ⟨_, _, _, q⟩ := hs
    exact False.elim q
  | cont =>
    obtain ⟨_, _, _, q⟩ := hs
    exact False.elim q
end L2

namespace L2
open PySem PySem.Spec PyProof.Rows
section
variable {X : Cx} {x : Str} {p pos : Pos} {e : Expr} {es : List Expr} {t : TA} {id T : String} {r : List V → Hp → VK → Prop}

def tCB (r : List V → Hp → VK → Prop) (t : TA) : TE := fun σ H Q => t σ H fun vs H1 => r vs H1 Q
/-- f(e, ..), f a built-in function -/
theorem pe_callB (hc : CallR X (.builtin id) r) (hg : Gl X x) (hm : X.mg x = none) (hv : bootBuiltins x = some (.builtin id)) (ha : PA X (e :: es) t) (hn : x ≠ "__name__" := by decide) (hdb : (x == ("__debug__" : Str)) = false := by decide)
    (he : starEach (e :: es) X.env = (false, eval e X.env) :: starEach es X.env := by rfl) (hpl : (backTo pos (starEach es X.env)).any (·.1) = false := by rfl) : PE X (.Call (.Name x p) (e :: es) [] pos) (tCB r t) := by
  intro pins s σ H Q I h
  refine wpAny_Call_Name_kw (ld_blt I hg hm hv ?_ hn hdb)
  exact PyProof.Rows.callWith_builtin1 (thn (ha pos pins s σ H _ I h) fun us s1 ⟨vs, H1, I1, r1, q1⟩ => hc pins s1 σ H1 vs us Q I1 r1 q1) he hpl
/-- T(e, ..), T a built-in type -/
theorem pe_callTy (hc : CallR X (.type T) r) (hg : Gl X x) (hm : X.mg x = none) (hv : bootBuiltins x = some (.type T)) (ha : PA X (e :: es) t) (hn : x ≠ "__name__" := by decide) (hdb : (x == ("__debug__" : Str)) = false := by decide)
    (he : starEach (e :: es) X.env = (false, eval e X.env) :: starEach es X.env := by rfl) (hpl : (backTo pos (starEach es X.env)).any (·.1) = false := by rfl) : PE X (.Call (.Name x p) (e :: es) [] pos) (tCB r t) := by
  intro pins s σ H Q I h
  refine wpAny_Call_Name_kw (ld_blt I hg hm hv ?_ hn hdb)
  exact PyProof.Rows.callWith_type1 (thn (ha pos pins s σ H _ I h) fun us s1 ⟨vs, H1, I1, r1, q1⟩ => hc pins s1 σ H1 vs us Q I1 r1 q1) he hpl
end
end L2

namespace HT
open PySem PyProof.Rows

section
open PySem.SeqAt
open PySem.AutoSeq1 (wpAny_loadPart')
open PySem.MeetsSeq PySem.MeetsSeq2 PySem.MeetsSeq3

end

section
variable {prog : Program} {w : World} {A : Around} {E : Value → Shared → Prop} {s : Shared}

/-! ### t[a:b], not the whole -/
/-- a slice's bound as a place among n (d where it is left out) -/
def sIx (n d : Nat) : Option Int → Nat
  | none => d
  | some v => if v < 0 then (v + (n : Int)).toNat else min v.toNat n
end
end HT

namespace L2
open PySem PySem.Spec PyProof.Rows

/-! ### the parts of a slice -/
abbrev TO := St → Hp → (Option Int → Hp → Prop) → Prop
/-- a slice's part (left out, or an int) -/
def PO (X : Cx) (e : Option Expr) (t : TO) : Prop :=
  ∀ (pins : List (Addr × Obj)) (s : Shared) (σ : St) (H : Hp) (Q : Option Int → Hp → Prop), Inv X pins σ H s → t σ H Q →
    wpAny (model X.prog X.w) X.A (evalPart e X.env) (fun u s' => ∃ o H', Inv X pins σ H' s' ∧ IsPart u o ∧ Q o H') X.xe s
def tNoPart : TO := fun _ H Q => Q none H
def tPart (t : TE) : TO := fun σ H Q => t σ H fun x H1 => ∃ i, x = .int i ∧ Q (some i) H1

theorem intsAre_of {ns : List Int} : ∀ {us : List Value}, Vals (ns.map V.int) us → IntsAre us ns := by
  induction ns with
  | nil => intro us r; rw [List.map_nil] at r; cases r; exact .nil
  | cons n ns ih =>
    intro us r
    rw [List.map_cons] at r
    cases r with
    | cons r1 r2 =>
      obtain ⟨t, e⟩ := r1
      subst e
      exact .cons n t (ih r2)

section
variable {X : Cx} {e : Expr} {te : TE} {lo hi : Option Expr} {tl th : TO} {pos p2 : Pos}

theorem po_none : PO X none tNoPart := by
  intro pins s σ H Q I h
  rw [evalPart_none]
  exact wpAny_pure ⟨none, H, I, .none, h⟩
theorem po_some (h : PE X e te) : PO X (some e) (tPart te) := by
  intro pins s σ H Q I hw
  rw [evalPart_some]
  refine thn (h pins s σ H _ I hw) fun u s1 ⟨x, H1, I1, r1, q1⟩ => ?_
  obtain ⟨i, rfl, q⟩ := q1
  obtain ⟨t, rfl⟩ := r1
  exact ⟨some i, H1, I1, .int i t, q⟩

/-- what a slice of a value is, by values: the slice object stands at sl -/
def SlR (X : Cx) (r : V → Option Int → Option Int → Hp → VK → Prop) : Prop :=
  ∀ (pins : List (Addr × Obj)) (s : Shared) (σ : St) (H : Hp) (x : V) (v vl vu : Value) (lo hi : Option Int) (sl : Addr) (Q : VK), Inv X pins σ H s → RelV x v → s.heap.IsSliceOf sl vl vu .none → IsPart vl lo → IsPart vu hi → r x lo hi H Q →
    ∃ T id, typeLookup (.type T) "__getitem__" = pure (some (.builtin id)) ∧ s.TypeIs v T ∧ wpAny (model X.prog X.w) X.A (getItem v (.ref sl)) (EP X pins σ Q) X.xe s
theorem SlR.or {r r' : V → Option Int → Option Int → Hp → VK → Prop} (h : SlR X r) (h' : SlR X r') : SlR X (fun x lo hi H Q => r x lo hi H Q ∨ r' x lo hi H Q) := by
  intro pins s σ H x v vl vu lo hi sl Q I rx hs pl pu q
  rcases q with q | q
  · exact h pins s σ H x v vl vu lo hi sl Q I rx hs pl pu q
  · exact h' pins s σ H x v vl vu lo hi sl Q I rx hs pl pu q
def tSl (r : V → Option Int → Option Int → Hp → VK → Prop) (te : TE) (tl th : TO) : TE := fun σ H Q => te σ H fun x H1 => tl σ H1 fun l H2 => th σ H2 fun u H3 => r x l u H3 Q
/-- a[lo:hi], any a -/
theorem pe_slice {r : V → Option Int → Option Int → Hp → VK → Prop} (hr : SlR X r) (he : PE X e te) (hl : PO X lo tl) (hu : PO X hi th) : PE X (.Subscript e (.Slice lo hi none p2) pos) (tSl r te tl th) := by
  intro pins s σ H Q I h
  refine Subscript_ (thn (he pins s σ H _ I h) fun v s1 ⟨x, H1, I1, r1, q1⟩ => ?_)
  refine wpAny_Slice (thn (hl pins s1 σ H1 _ I1 q1) fun vl s2 ⟨l, H2, I2, pl, q2⟩ => thn (hu pins s2 σ H2 _ I2 q2) fun vu s3 ⟨u, H3, I3, pu, q3⟩ => ?_)
  rw [evalPart_none]
  refine wpAny_pure ?_
  have I4 : Inv X pins σ H3 { s3 with heap := s3.heap.push { cls := .type "slice", data := .fields #[vl, vu, .none] } } := I3.kept (t' := s3.toks) fun b ob q => Heap.get?_push_of_some _ q
  obtain ⟨T, id, hT, ht, hg⟩ := hr pins { s3 with heap := s3.heap.push { cls := .type "slice", data := .fields #[vl, vu, .none] } } σ H3 x v vl vu l u s3.heap.objs.size Q I4 r1 (Heap.IsSliceOf.new ..) pl pu q3
  show wpAny (model X.prog X.w) X.A (subscriptTail e (.Slice lo hi none p2) v (.ref s3.heap.objs.size)) (EP X pins σ Q) X.xe { s3 with heap := s3.heap.push { cls := .type "slice", data := .fields #[vl, vu, .none] } }
  exact tail_any (ops := [.ref s3.heap.objs.size, v]) ht hT hg (by with_unfolding_all rfl)

/-- the items of xs[lo:hi] -/
def cutV (xs : List V) (lo hi : Option Int) : List V := (xs.drop (HT.sIx xs.length 0 lo)).take (HT.sIx xs.length xs.length hi - HT.sIx xs.length 0 lo)
theorem cutV_length (xs : List V) (lo hi : Option Int) : (cutV xs lo hi).length ≤ xs.length := by
  unfold cutV
  rw [List.length_take, List.length_drop]
  omega
/-! ### t < u, t + u -/
end
end L2

namespace L2
open PySem PySem.Spec PyProof.Rows

/-! ### places -/
/-- the place that an index of any sign means -/
def ixN (n : Nat) (i : Int) : Option Nat := if 0 ≤ i then (if i < n then some i.toNat else none) else if -(n : Int) ≤ i then some (i + n).toNat else none
def atI {α : Type} (xs : List α) (i : Int) : Option α := (ixN xs.length i).bind fun j => xs[j]?
theorem ixN_seq {n : Nat} {i : Int} {j : Nat} (h : ixN n i = some j) : seqIndex? i n = some j ∧ j < n ∧ -(n : Int) ≤ i ∧ i < n := by
  unfold ixN at h
  by_cases h0 : 0 ≤ i
  · rw [if_pos h0] at h
    by_cases h1 : i < n
    · rw [if_pos h1] at h
      have e : i.toNat = j := Option.some.inj h
      exact ⟨by rw [seqIndex_of h0 h1, e], by omega, by omega, h1⟩
    · rw [if_neg h1] at h; cases h
  · rw [if_neg h0] at h
    by_cases h1 : -(n : Int) ≤ i
    · rw [if_pos h1] at h
      have e : (i + n).toNat = j := Option.some.inj h
      exact ⟨by rw [seqIndex_neg (by omega) h1, e], by omega, h1, by omega⟩
    · rw [if_neg h1] at h; cases h
theorem atI_get {α : Type} {xs : List α} {i : Int} {v : α} (h : atI xs i = some v) : ∃ j, seqIndex? i xs.length = some j ∧ xs[j]? = some v ∧ j < xs.length ∧ -(xs.length : Int) ≤ i ∧ i < xs.length := by
  unfold atI at h
  cases e : ixN xs.length i with
  | none => rw [e] at h; cases h
  | some j =>
    rw [e] at h
    obtain ⟨h1, h2, h3, h4⟩ := ixN_seq e
    exact ⟨j, h1, h, h2, h3, h4⟩
theorem atI_nat {α : Type} {xs : List α} {j : Nat} {v : α} (h : xs[j]? = some v) : atI xs (j : Int) = some v := by
  have hj : j < xs.length := (List.getElem?_eq_some_iff.mp h).1
  have e : ixN xs.length (j : Int) = some j := by
    unfold ixN
    rw [if_pos (by omega), if_pos (by omega)]; simp
  unfold atI; rw [e]; exact h
/-! ### what may be subscripted -/
/-- what stands as an index of a plain subscript -/
def PlainIx (b : Expr) : Prop := ∀ o i, subscripted b false o i = operate [o, i] (getItem o i)
/-- a subscript by values -/
def IxR (X : Cx) (r : R2) : Prop :=
  ∀ (value slice : Expr) (pins : List (Addr × Obj)) (s : Shared) (σ : St) (H : Hp) (x y : V) (v u : Value) (Q : VK), Inv X pins σ H s → RelV x v → RelV y u → r x y H Q →
    subscripted slice false v u = operate [v, u] (getItem v u) → wpAny (model X.prog X.w) X.A (subscriptTail value slice v u) (EP X pins σ Q) X.xe s
/-- a call of a builtin's method by values: the receiver, the arguments -/
def MtR (X : Cx) (id : String) (r : V → List V → Hp → VK → Prop) : Prop :=
  ∀ (pins : List (Addr × Obj)) (s : Shared) (σ : St) (H : Hp) (x : V) (xs : List V) (v : Value) (us : List Value) (Q : VK), Inv X pins σ H s → RelV x v → Vals xs us → r x xs H Q →
    wpAny (model X.prog X.w) X.A (call (.builtin id) (v :: us)) (EP X pins σ Q) X.xe s
section
variable {X : Cx} {a b : Expr} {ta tb : TE} {pos : Pos}
theorem IxR.or {r r' : R2} (h : IxR X r) (h' : IxR X r') : IxR X (fun x y H Q => r x y H Q ∨ r' x y H Q) := by
  intro value slice pins s σ H x y v u Q I rx ry q hs
  rcases q with q | q
  · exact h value slice pins s σ H x y v u Q I rx ry q hs
  · exact h' value slice pins s σ H x y v u Q I rx ry q hs
theorem MtR.or {id : String} {r r' : V → List V → Hp → VK → Prop} (h : MtR X id r) (h' : MtR X id r') : MtR X id (fun x xs H Q => r x xs H Q ∨ r' x xs H Q) := by
  intro pins s σ H x xs v us Q I rx rs q
  rcases q with q | q
  · exact h pins s σ H x xs v us Q I rx rs q
  · exact h' pins s σ H x xs v us Q I rx rs q
/-- a[b] -/
theorem pe_ix {r : R2} (hr : IxR X r) (ha : PE X a ta) (hb : PE X b tb) (hs : PlainIx b) : PE X (.Subscript a b pos) (tOp r ta tb) := by
  intro pins s σ H Q I h
  exact Subscript_ (binT ha hb I h fun v u s2 x y H2 I2 rx ry q => hr a b pins s2 σ H2 x y v u Q I2 rx ry q (hs _ _))

def rIxL (K : PySem.W.Frag) : R2 := fun x y H Q => ∃ p xs i v, x = .ref p ∧ y = .int i ∧ SqL K H p xs ∧ atI xs i = some v ∧ Q v H
def rIxS : R2 := fun x y H Q => ∃ z i c, x = .str z ∧ y = .int i ∧ z.length ≤ sizeLine ∧ atI z.cps.toList i = some c ∧ Q (.str ⟨#[c]⟩) H
theorem ix_list : IxR X (rIxL X.K) := by
  intro value slice pins s σ H x y v u Q I rx ry h hs
  obtain ⟨p, xs, i, z, rfl, rfl, hq, he, q⟩ := h
  cases rx
  obtain ⟨t, rfl⟩ := ry
  obtain ⟨its, r, pl, hz⟩ := I.list hq
  obtain ⟨j, h1, h2, h3, h4, h5⟩ := atI_get he
  obtain ⟨w, ew, rw'⟩ := r.get h2
  have hl := r.length
  have hn := line63
  have fin : EP X pins σ Q w s := ⟨z, H, I, rw', q⟩
  by_cases h0 : 0 ≤ i
  · have hj : i.toNat = j := by
      rw [seqIndex_of h0 h5] at h1
      exact Option.some.inj h1
    exact item_listR pl.isList h0 (by omega) (by rw [hj]; simpa using ew) fin hs
  · have hj : (i + (its.toArray.size : Int)).toNat = j := by
      rw [seqIndex_neg (by omega) h4] at h1
      rw [List.size_toArray, ← hl]
      exact Option.some.inj h1
    exact subscriptTail_builtinR (x := w) pl.isList.typeIs slot_list_getitem.lookup
      (wpAny_getItem_list_neg (Q := fun r s' => r = w ∧ EP X pins σ Q r s') pl.isList (by omega) (by rw [List.size_toArray] <;> omega) (by omega) (by rw [hj]; simpa using ew) ⟨rfl, fin⟩) hs
theorem ix_str : IxR X rIxS := by
  intro value slice pins s σ H x y v u Q I rx ry h hs
  obtain ⟨z, i, c, rfl, rfl, hz, he, q⟩ := h
  obtain ⟨t, rfl⟩ := rx
  obtain ⟨t', rfl⟩ := ry
  obtain ⟨j, h1, h2, h3, h4, h5⟩ := atI_get he
  have hl : z.cps.toList.length = z.length := by simp [Str.length]
  rw [hl] at h1 h4 h5
  have hn := line63
  exact tail_any (typeIs_str s z t) slot_str_getitem.lookup (getItem_str (c := c) (by
    have e1 : decide (i < -(2 ^ 63 : Int)) = false := decide_eq_false (by omega)
    have e2 : decide (i ≥ 2 ^ 63) = false := decide_eq_false (by omega)
    rw [e1, e2, Bool.or_false]) (by rw [h1]; simpa using h2) ⟨.str ⟨#[c]⟩, H, I.tok _, ⟨_, rfl⟩, q⟩) hs
/-! ### xs[i] = v, any sign -/
theorem Inv.lst {pins : List (Addr × Obj)} {σ : St} {H : Hp} {s : Shared} {p : Addr} {xs : List V} (I : Inv X pins σ H s) (h : H p = some (.lst xs)) :
    ∃ (its : List Value) (n : Nat), Vals xs its ∧ s.heap.get? p = some { cls := .type "list", data := .seq its.toArray n } ∧ xs.length ≤ sizeLine := by
  obtain ⟨z, its, n, r, e⟩ := I.hok p _ h
  exact ⟨its, n, r, e, z⟩
/-! ### slices -/
theorem slice_bounds (lo hi : Option Int) (n : Nat) : (sliceBounds lo hi none n).1 = ((HT.sIx n 0 lo : Nat) : Int) ∧ (sliceBounds lo hi none n).2.1 = ((HT.sIx n n hi : Nat) : Int) ∧ (sliceBounds lo hi none n).2.2 = 1 := by
  refine ⟨?_, ?_, rfl⟩
  · cases lo with
    | none => simp [sliceBounds, HT.sIx]
    | some i =>
      simp only [sliceBounds, HT.sIx, Option.getD_none, show (1 : Int) > 0 by decide, if_true]
      by_cases h : i < 0
      · simp only [h, if_true] <;> omega
      · simp only [h, if_false] <;> omega
  · cases hi with
    | none => simp [sliceBounds, HT.sIx]
    | some i =>
      simp only [sliceBounds, HT.sIx, Option.getD_none, show (1 : Int) > 0 by decide, if_true]
      by_cases h : i < 0
      · simp only [h, if_true] <;> omega
      · simp only [h, if_false] <;> omega
theorem slicePick_cut (its : List Value) (lo hi : Option Int) : slicePick its.toArray lo hi none = ((its.drop (HT.sIx its.length 0 lo)).take (HT.sIx its.length its.length hi - HT.sIx its.length 0 lo)).toArray := by
  obtain ⟨h1, h2, h3⟩ := slice_bounds lo hi its.toArray.size
  unfold slicePick
  rw [h1, h2, h3]
  simp only [sliceRange_one, pick_run, List.size_toArray] <;> rfl
/-- xs[lo:hi] of a list: a new list -/
def rSlL (K : PySem.W.Frag) : V → Option Int → Option Int → Hp → VK → Prop := fun x lo hi H Q => ∃ a xs, x = .ref a ∧ SqL K H a xs ∧ ∀ p, H p = none → Q (.ref p) (upd H p (.lst (cutV xs lo hi)))
theorem sl_list : SlR X (rSlL X.K) := by
  intro pins s σ H x v vl vu lo hi sl Q I rx hs pl pu h
  obtain ⟨a, xs, rfl, hx, q⟩ := h
  cases rx
  obtain ⟨its, r, ht, hz⟩ := I.list hx
  have hlen := r.length
  refine ⟨"list", _, slot_list_getitem.lookup, ht.isList.typeIs, ?_⟩
  refine wpAny_getItem_list_slice ht.isList hs pl pu .none (by simp) ?_ (by rw [List.size_toArray] <;> omega)
  rw [slicePick_cut, ← hlen]
  refine ⟨.ref s.heap.objs.size, _, I.laid (t' := s.toks) (o := .lst (cutV xs lo hi)) (fun b ob q => Heap.get?_push_of_some _ q) (Nat.le_refl _) ?_, rfl, q _ (I.hok.fresh (Nat.le_refl _))⟩
  exact ⟨Nat.le_trans (cutV_length xs lo hi) hz, _, 0, (r.drop (HT.sIx xs.length 0 lo)).take (HT.sIx xs.length xs.length hi - HT.sIx xs.length 0 lo), Heap.get?_push_size _ rfl⟩

/-! ### in, not in: flat items -/
def flatV : V → Bool
  | .non => true
  | .bl _ => true
  | .int _ => true
  | .str _ => true
  | _ => false
/-- == of flat values -/
def eqV : V → V → Bool
  | .non, .non => true
  | .bl a, .bl b => a == b
  | .bl a, .int b => (if a then 1 else 0) == b
  | .int a, .bl b => a == (if b then 1 else 0)
  | .int a, .int b => a == b
  | .str a, .str b => a == b
  | _, _ => false
theorem eqAt_V {A : Around} {s : Shared} {y x : V} {u v : Value} (ry : RelV y u) (rx : RelV x v) (fy : flatV y = true) (fx : flatV x = true) : SeqAt.EqAt A s u v (eqV y x) := by
  cases y with
  | non =>
    cases ry
    cases x with
    | non => cases rx; exact SeqAt.EqAt.same _
    | bl b => cases rx; exact SeqAt.EqAt.none_bool b
    | int b => obtain ⟨t, rfl⟩ := rx; exact SeqAt.EqAt.none_int b t
    | str b => obtain ⟨t, rfl⟩ := rx; exact SeqAt.EqAt.none_str b t
    | _ => exact absurd (show false = true from fx) Bool.false_ne_true
  | bl a =>
    cases ry
    cases x with
    | non => cases rx; exact SeqAt.EqAt.bool_none a
    | bl b => cases rx; exact SeqAt.EqAt.bool_bool a b
    | int b => obtain ⟨t, rfl⟩ := rx; exact SeqAt.EqAt.bool_int a b t
    | str b => obtain ⟨t, rfl⟩ := rx; exact SeqAt.EqAt.bool_str a b t
    | _ => exact absurd (show false = true from fx) Bool.false_ne_true
  | int a =>
    obtain ⟨t', rfl⟩ := ry
    cases x with
    | non => cases rx; exact SeqAt.EqAt.int_none a t'
    | bl b => cases rx; exact SeqAt.EqAt.int_bool a t' b
    | int b => obtain ⟨t, rfl⟩ := rx; exact SeqAt.EqAt.int_int a t' b t
    | str b => obtain ⟨t, rfl⟩ := rx; exact SeqAt.EqAt.int_str a t' b t
    | _ => exact absurd (show false = true from fx) Bool.false_ne_true
  | str a =>
    obtain ⟨t', rfl⟩ := ry
    cases x with
    | non => cases rx; exact SeqAt.EqAt.str_none a t'
    | bl b => cases rx; exact SeqAt.EqAt.str_bool a t' b
    | int b => obtain ⟨t, rfl⟩ := rx; exact SeqAt.EqAt.str_int a t' b t
    | str b => obtain ⟨t, rfl⟩ := rx; exact SeqAt.EqAt.str_str a t' b t
    | _ => exact absurd (show false = true from fx) Bool.false_ne_true
  | _ => exact absurd (show false = true from fy) Bool.false_ne_true
/-- the items' answers, read off the values (a value's own answer does not lean on its token) -/
def eqU (x : V) (u : Value) : Bool := match u with
  | .none => eqV .non x
  | .bool b => eqV (.bl b) x
  | .int i _ => eqV (.int i) x
  | .str z _ => eqV (.str z) x
  | _ => false
theorem eqU_of {x y : V} {u : Value} (r : RelV y u) (f : flatV y = true) : eqU x u = eqV y x := by
  cases y with
  | non => cases r; rfl
  | bl b => cases r; rfl
  | int i => obtain ⟨t, rfl⟩ := r; rfl
  | str z => obtain ⟨t, rfl⟩ := r; rfl
  | _ => exact absurd (show false = true from f) Bool.false_ne_true
theorem any_eqU {x : V} : ∀ {xs : List V} {us : List Value}, Vals xs us → xs.all flatV = true → us.any (eqU x) = xs.any fun y => eqV y x
  | _, _, .nil, _ => rfl
  | y :: xs, u :: us, .cons r t, f => by
    rw [List.all_cons, Bool.and_eq_true] at f
    rw [List.any_cons, List.any_cons, eqU_of r f.1, any_eqU t f.2]
theorem mem_eqAt {A : Around} {s : Shared} {x : V} {v : Value} (rx : RelV x v) (fx : flatV x = true) : ∀ {xs : List V} {us : List Value}, Vals xs us → xs.all flatV = true → ∀ u ∈ us, SeqAt.EqAt A s u v (eqU x u)
  | _, _, .nil, _ => fun u hu => by cases hu
  | y :: xs, u :: us, .cons r t, f => fun u' hu => by
    rw [List.all_cons, Bool.and_eq_true] at f
    rcases List.mem_cons.mp hu with rfl | hu
    · rw [eqU_of r f.1]; exact eqAt_V r rx f.1 fx
    · exact mem_eqAt rx fx t f.2 u' hu
def inV (x : V) (xs : List V) : Bool := xs.any fun y => eqV y x
/-- x in a list or tuple of flat items -/
def rIn (K : PySem.W.Frag) (neg : Bool) : R2 := fun x y H Q => ∃ p xs, y = .ref p ∧ (SqL K H p xs ∨ SqT K H p xs) ∧ flatV x = true ∧ xs.all flatV = true ∧ Q (.bl (if neg then !inV x xs else inV x xs)) H
theorem op_in_seq : OpR X (compareOp .In) (rIn X.K false) := by
  intro pins s σ H x y v u Q I rx ry h
  obtain ⟨p, xs, rfl, hq, fx, fs, q⟩ := h
  cases ry
  rcases hq with hq | hq
  · obtain ⟨its, r, pl, hz⟩ := I.list hq
    refine SeqAt.in_listAt (eqU x) pl.isList (fun w hw => mem_eqAt rx fx r fs w (by simpa using hw)) ⟨.bl _, H, I, rfl, ?_⟩
    rw [show its.toArray.any (eqU x) = its.any (eqU x) by simp, any_eqU r fs]
    exact q
  · obtain ⟨its, r, pl, hz⟩ := I.tuple hq
    refine SeqAt.in_tupleAt (eqU x) pl (fun w hw => mem_eqAt rx fx r fs w (by simpa using hw)) ⟨.bl _, H, I, rfl, ?_⟩
    rw [show its.toArray.any (eqU x) = its.any (eqU x) by simp, any_eqU r fs]
    exact q
/-! ### len, list(x), tuple(x) of any list or tuple that is read -/
theorem call_len_seq : CallR X (.builtin "len") (fun xs H Q => ∃ p ys, xs = [.ref p] ∧ (SqL X.K H p ys ∨ SqT X.K H p ys) ∧ Q (.int ys.length) H) := by
  intro pins s σ H xs us Q I r h
  obtain ⟨p, ys, rfl, hq, q⟩ := h
  obtain ⟨u, rfl, rx⟩ := vals1 r
  cases rx
  have hn := line63
  rcases hq with hq | hq
  · obtain ⟨its, r', pl, hz⟩ := I.list hq
    have hlen := r'.length
    exact Calls.call_len_list pl.isList (by simp only [List.size_toArray] <;> omega) ⟨.int ys.length, H, I.tok _, ⟨s.toks + 1, by rw [List.size_toArray, hlen]⟩, q⟩
  · obtain ⟨its, r', pl, hz⟩ := I.tuple hq
    have hlen := r'.length
    exact len_tuple pl (by simp only [List.size_toArray] <;> omega) ⟨.int ys.length, H, I.tok _, ⟨s.toks + 1, by rw [List.size_toArray, hlen]⟩, q⟩
theorem CallR.or {f : Value} {r r' : List V → Hp → VK → Prop} (h : CallR X f r) (h' : CallR X f r') : CallR X f (fun xs H Q => r xs H Q ∨ r' xs H Q) := by
  intro pins s σ H xs us Q I rs q
  rcases q with q | q
  · exact h pins s σ H xs us Q I rs q
  · exact h' pins s σ H xs us Q I rs q
theorem call_list_of : CallR X (.type "list") (fun xs H Q => ∃ p ys, xs = [.ref p] ∧ (SqL X.K H p ys ∨ SqT X.K H p ys) ∧ ∀ l, H l = none → Q (.ref l) (upd H l (.lst ys))) := by
  intro pins s σ H xs us Q I r h
  obtain ⟨p, ys, rfl, hq, q⟩ := h
  obtain ⟨u, rfl, rx⟩ := vals1 r
  cases rx
  have fin : ∀ (its : List Value), Vals ys its → ys.length ≤ sizeLine → ∀ (h' : Heap) (c' : Nat), (∀ b o', s.heap.get? b = some o' → h'.get? b = some o') →
      h'.get? s.heap.objs.size = some { cls := .type "list", dict := none, data := .seq its.toArray c', slots := #[] } → EP X pins σ Q (.ref s.heap.objs.size) { s with heap := h' } := fun its r' hz h' c' kp e =>
    ⟨.ref s.heap.objs.size, _, I.laid (t' := s.toks) kp (Nat.le_refl _) (show ObjOk X.prog X.w _ h' _ (.lst ys) from ⟨hz, its, c', r', e⟩), rfl, q _ (I.hok.fresh (Nat.le_refl _))⟩
  rcases hq with hq | hq
  · obtain ⟨its, r', pl, hz⟩ := I.list hq
    have hlen := r'.length
    obtain ⟨o, ho, hc, n, hd⟩ := pl.isList
    exact call_list_seq p (.inl rfl) ho hc hd (fun h' c' kp e => fin its r' hz h' c' kp e) (by simp only [List.size_toArray] <;> omega)
  · obtain ⟨its, r', pl, hz⟩ := I.tuple hq
    have hlen := r'.length
    obtain ⟨o, ho, hc, n, hd⟩ := pl
    exact call_list_seq p (.inr rfl) ho hc hd (fun h' c' kp e => fin its r' hz h' c' kp e) (by simp only [List.size_toArray] <;> omega)
/-! ### the call of a builtin's method: o.m(..) -/
/-- the value is of that builtin type -/
def tyV (K : PySem.W.Frag) (T : String) (x : V) (H : Hp) : Prop := match x with
  | .str _ => T = "str"
  | .int _ => T = "int"
  | .ref p => (T = "list" ∧ ∃ xs, SqL K H p xs) ∨ (T = "tuple" ∧ ∃ o, K.lookup p = some o ∧ o.cls = .type "tuple" ∧ o.dict = none) ∨
      (T = "dict" ∧ ((∃ kvs, H p = some (.dK kvs)) ∨ ∃ kvs, H p = some (.dT kvs))) ∨ (T = "set" ∧ ∃ S n, H p = some (.set S n))
  | _ => False
theorem tyV_is {pins : List (Addr × Obj)} {σ : St} {H : Hp} {s : Shared} {T : String} {x : V} {v : Value} (I : Inv X pins σ H s) (r : RelV x v) (ty : tyV X.K T x H) :
    s.TypeIs v T ∧ ∀ a, v = .ref a → ∃ ob, s.heap.get? a = some ob ∧ ob.dict = none := by
  cases x with
  | str z =>
    obtain ⟨t, rfl⟩ := r
    cases (show T = "str" from ty)
    exact ⟨typeIs_str s z t, fun _ e => nomatch e⟩
  | int i =>
    obtain ⟨t, rfl⟩ := r
    cases (show T = "int" from ty)
    exact ⟨typeIs_int s i t, fun _ e => nomatch e⟩
  | ref p =>
    cases r
    rcases ty with ⟨rfl, xs, hq⟩ | ⟨rfl, o, hk, hc, hd⟩ | ⟨rfl, hk⟩ | ⟨rfl, S, n, hk⟩
    · obtain ⟨its, _, pl, _⟩ := I.list hq
      refine ⟨pl.isList.typeIs, fun a e => ?_⟩
      cases e
      obtain ⟨o, n, e, c, hd, _⟩ := pl
      exact ⟨o, e, hd⟩
    · refine ⟨⟨o, I.kIn p o hk, hc⟩, fun a e => ?_⟩
      cases e
      exact ⟨o, I.kIn _ o hk, hd⟩
    · have z : ∃ o, s.heap.get? p = some o ∧ o.ExactDict := by
        rcases hk with ⟨kvs, hk⟩ | ⟨kvs, hk⟩
        · obtain ⟨_, _, _, _, o, _, _, e, ex, _⟩ := I.hok p _ hk
          exact ⟨o, e, ex⟩
        · obtain ⟨_, _, _, _, o, _, _, e, ex, _⟩ := I.hok p _ hk
          exact ⟨o, e, ex⟩
      obtain ⟨o, e, ex⟩ := z
      refine ⟨⟨o, e, ex.1⟩, fun a e2 => ?_⟩
      cases e2
      exact ⟨o, e, ex.2.1⟩
    · obtain ⟨o, _, _, _, e, ex, _⟩ := I.hok p _ hk
      refine ⟨⟨o, e, ex.1⟩, fun a e2 => ?_⟩
      cases e2
      exact ⟨o, e, ex.2.1⟩
  | _ => exact False.elim ty
def tBM (K : PySem.W.Frag) (T : String) (r : V → List V → Hp → VK → Prop) (to : TE) (t : TA) : TE := fun σ H Q => to σ H fun x H1 => tyV K T x H1 ∧ t σ H1 fun xs H2 => r x xs H2 Q
variable {o e : Expr} {es : List Expr} {to : TE} {t : TA} {name : Str} {apos cpos : Pos} {T id : String} {r : V → List V → Hp → VK → Prop}
theorem pe_bm (pa : PlainAttrs T) (slot : Slot T name id) (hty : typeOf (.builtin id) = pure (.type "method_descriptor")) (hm : MtR X id r) (ho : PE X o to) (ha : PA X (e :: es) t)
    (hbase : attributeBase o name X.env (eval o X.env) = eval o X.env := by rfl)
    (hfew : ((backTo cpos (starEach (e :: es) X.env)).all (fun x => !x.1) && (backToKw cpos (keywordEach [] X.env)).all (fun x => x.1.isSome)
      && decide ((e :: es).length + ([] : List Keyword).length + (if ([] : List Keyword).isEmpty then 0 else 1) < 30)) = true := by rfl)
    (hline : (apos.endLine == cpos.line) = true := by rfl) (hs : starEach (e :: es) X.env = (false, eval e X.env) :: starEach es X.env := by rfl) (hplain : (backTo cpos (starEach es X.env)).any (·.1) = false := by rfl) :
    PE X (.Call (.Attribute o name apos) (e :: es) [] cpos) (tBM X.K T r to t) := by
  intro pins s σ H Q I h
  refine wpAny_Call_method_late hbase hfew hline rfl (thn (ho pins s σ H _ I h) fun v s1 ⟨x, H1, I1, r1, ty, q1⟩ => ?_)
  obtain ⟨h1, h2⟩ := tyV_is I1 r1 ty
  refine ⟨T, id, pa, slot, hty, h1, h2, ?_⟩
  have hA := ha cpos pins s1 σ H1 _ I1 q1
  rw [hs] at hA ⊢
  refine Calls.callWith_builtin (by show (false || (backTo cpos (starEach es X.env)).any (·.1)) = false; rw [hplain] <;> rfl) (Calls.evalArgs_plain ?_)
  exact thn hA fun us s2 ⟨vs, H2, I2, r2, q2⟩ => hm pins s2 σ H2 x vs v us Q I2 r1 r2 q2
/- xs.append(e), list.index on a module's tuple .. are MtR facts of 06m -/
end
end L2

namespace L2
open PySem PySem.Spec PyProof.Rows

def MtM (X : Cx) (id : String) (r : V → List V → Hp → VK → Prop) : Prop :=
  ∀ (pins : List (Addr × Obj)) (s : Shared) (σ : St) (H : Hp) (x : V) (xs : List V) (v : Value) (us : List Value) (Q : VK), Inv X pins σ H s → RelV x v → Vals xs us → r x xs H Q →
    wpAny (model X.prog X.w) X.A (call (.builtin id) (v :: us)) (EP X pins σ Q) X.xe s

/-! ### lists of values -/
theorem Vals.one : ∀ {x : V} {us : List Value}, Vals [x] us → ∃ u, us = [u] ∧ RelV x u
  | _, _, .cons r .nil => ⟨_, rfl, r⟩
theorem Vals.zero : ∀ {us : List Value}, Vals [] us → us = []
  | _, .nil => rfl
section
variable {X : Cx} {pins : List (Addr × Obj)} {σ : St} {H : Hp} {s : Shared} {l b : Addr} {xs ys zs : List V}

/-! ### the two steps: a tracked list is rewritten, a new list is laid -/
theorem Inv.lset {its its' : List Value} {n : Nat} {f : Array Value → Array Value} {t' : Nat} (I : Inv X pins σ H s) (hH : H l = some (.lst xs))
    (e : s.heap.get? l = some { cls := .type "list", data := .seq its.toArray n }) (hf : f its.toArray = its'.toArray) (hv : Vals ys its') (hz : ys.length ≤ sizeLine) :
    Inv X pins σ (upd H l (.lst ys)) { s with heap := s.heap.update l (Obj.mapSeq f), toks := t' } := by
  have q := PySem.IsL.update e f
  rw [hf] at q
  refine I.write (x := l) (e := l) (by rw [hH]; exact trivial) (.inl rfl) (fun b' u hb hu => (Heap.get?_update_other s.heap (Obj.mapSeq f) (Ne.symm hb)).trans hu) ⟨_, q⟩ ?_
  exact ⟨hz, its', _, hv, q⟩
theorem Inv.fresh (I : Inv X pins σ H s) : H s.heap.objs.size = none := I.hok.fresh (Nat.le_refl _)
theorem Inv.lstM (I : Inv X pins σ H s) (hH : H l = some (.lst xs)) : xs.length ≤ sizeLine ∧ ∃ (its : List Value) (n : Nat), Vals xs its ∧ xs.length = its.length ∧ s.heap.get? l = some { cls := .type "list", data := .seq its.toArray n } := by
  obtain ⟨z, its, n, r, e⟩ := I.hok l _ hH
  exact ⟨z, its, n, r, r.length, e⟩

end

section
variable {X : Cx}

/-! ### methods -/
def rAppend : V → List V → Hp → VK → Prop := fun x vs H Q => ∃ l xs y, x = .ref l ∧ vs = [y] ∧ H l = some (.lst xs) ∧ xs.length < sizeLine ∧ Q .non (upd H l (.lst (xs ++ [y])))
theorem mt_append : MtM X "list.append" rAppend := by
  intro pins s σ H x vs v us Q I rx rv h
  obtain ⟨l, xs, y, rfl, rfl, hH, hz, q⟩ := h
  cases rx
  obtain ⟨u, rfl, ru⟩ := rv.one
  obtain ⟨z, its, n, r, hl, e⟩ := I.lstM hH
  refine call_meets F.slot_list_append ⟨_, e, rfl⟩ F.entry_list_append (F.args_list_append_2 _ _) (PySem.list_append l its.toArray n u (by rw [List.size_toArray]; omega)) ⟨e, ?_⟩
  refine ⟨.non, _, I.lset (its' := its ++ [u]) hH e (by simp) (r.append (.cons ru .nil)) ?_, rfl, q⟩
  rw [List.length_append, List.length_singleton]
  omega

/-! ### list + list, list += list, list * int -/
/-! ### del xs[i] -/
end

/-! ### xs[a:b] = ys -/
section
variable {prog : Program} {w : World} {A : Around} {E : Value → Shared → Prop} {s : Shared}
end

section
variable {X : Cx}
end
end L2

namespace Att
open PySem PySem.W PySem.Calls PyProof.Rows

/-! ### the script -/
theorem ints_of_wellAll {P : Params} {h : Heap} : ∀ (ns : List Int) (vs : List Value), WellAll P h vs (ns.map WData.int) → IntsAre vs ns := by
  intro ns
  induction ns with
  | nil =>
    intro vs w
    rw [List.map_nil] at w
    cases w
    exact .nil
  | cons n ns ih =>
    intro vs w
    rw [List.map_cons] at w
    cases w with
    | cons a b =>
      cases a
      exact .cons _ _ (ih _ b)

theorem script_of {l : OpenLaw} {n : Nat} (hn : l.most = some n) {P : Params} {h : Heap} {args : List WData} {vals : List Value}
    (hpre : l.row.toRowW.claim.pre args = true) (hwl : WellAll P h vals args) :
    ∃ a vs ns, vals = [Value.ref a] ∧ args = [WData.list (ns.map WData.int)] ∧ h.get? a = some { cls := .type "list", data := .seq vs.toArray } ∧ IntsAre vs ns ∧ ns.length ≤ n := by
  have hsh : WShape.hasAll [] args [.list .int] = true := (pre_splitW hpre).1
  have hc : l.pre.holds [] { args := args } = true := (pre_splitW hpre).2
  obtain ⟨d, r, rfl, h1, h2⟩ := hasAllW_cons hsh
  obtain rfl := hasAllW_nil h2
  obtain ⟨xs, rfl, h3⟩ := hasW_list h1
  obtain ⟨ns, rfl⟩ := items_int h3
  have hlen : ns.length ≤ n := by
    unfold OpenLaw.pre at hc
    have h4 : (WTm.not (.lt (.lit (.int (n : Int))) (.len (.arg 0)))).holds [] { args := [.list (ns.map .int)] } = true := by
      have h4 := (holds_andW hc).1
      rw [hn] at h4
      exact h4
    have h5 := condW_of h4 (w_not (w_lt w_lit (w_len_list (w_arg rfl))))
    rw [List.length_map] at h5
    refine Nat.le_of_not_lt fun q => ?_
    have q' : (n : Int) < ((ns.length : Nat) : Int) := by omega
    first
      | (rw [decide_eq_true q'] at h5; exact absurd h5 (by decide))
      | (simp at h5; omega)
  cases hwl with
  | cons w1 w2 =>
    cases w2
    cases w1 with
    | list ho hall => exact ⟨_, _, ns, rfl, rfl, ho, ints_of_wellAll ns _ hall, hlen⟩

theorem post_true (l : OpenLaw) (args : List WData) : l.row.toRowW.claim.post args (.bool true) args = true :=
  postW_of (r := l.row.toRowW) (X := (true == true))
    (show WShape.has [] (.bool true) .bool = true by first | rfl | decide | simp [WShape.has, WShape.arms, WShape.armsAll])
    (show (WTm.eq .res (.lit (.bool true))).value [] { args := args, res := some (.bool true), after := args } = some (.bool (true == true)) from w_eq_bool (w_res rfl) w_lit) rfl

/-! ### the attachment: holds_open's last premise (the goal 'hc' behind k_head) from a wpAny of the law's body -/
/-! ### rules over ANY heap (no ledger) from facts about the written part K: the library's own take a ledger (News) for what they write -/
section
variable {prog : Program} {w : World} {A : Around} {E : Value → Shared → Prop} {s : Shared} {K : Frag}

/-! the whole heap as the ledger: makes every rule that writes through a ledger a rule over any heap -/
end
end Att

namespace L2
open PySem PySem.Spec PyProof.Rows

theorem vals_ints : ∀ {vs : List Value} {ns : List Int}, IntsAre vs ns → Vals (ns.map V.int) vs
  | _, _, .nil => .nil
  | _, _, .cons n t h => .cons ⟨t, rfl⟩ (vals_ints h)

end L2

namespace L2
open PySem PySem.Spec PyProof.Rows

abbrev KOf {K : PySem.W.Frag} {h : Heap} (_ : K.In h) : PySem.W.Frag := K

end L2


/-! SHORT WORDS over the layer: a def of the text, its body, what a loop and a test want. -/
namespace L2
open PySem PySem.Spec PyProof.Rows

/-! ### the text by places -/
def defArgs (s : Stmt) : Arguments := match s with
  | .FunctionDef _ a _ _ _ _ _ _ _ _ => a
  | _ => { posonlyargs := [], args := [], vararg := none, kwonlyargs := [], kw_defaults := [], kwarg := none, defaults := [] }
def defBody (s : Stmt) : List Stmt := match s with
  | .FunctionDef _ _ b _ _ _ _ _ _ _ => b
  | _ => []
def defScope (s : Stmt) : Scope := match s with
  | .FunctionDef _ _ _ _ _ _ sc _ _ _ => sc
  | _ => { kind := .function, names := [], isGenerator := false, isCoroutine := false }

/-! ### no exception leaves a def -/
abbrev CX0 : CXT := fun _ _ _ _ _ _ => False
abbrev E0 : XK := fun _ _ _ => False
theorem pass0 {X : Cx} : Passes CX0 X E0 := fun _ _ _ _ _ _ _ h => h.elim

/-! ### a def (or method) of the text as it stands behind the top -/
structure Fun (K : PySem.W.Frag) (x qual : Str) (st : Stmt) (f : Addr) (fd : FuncData) : Prop where
  ex : ∃ (oc : Value) (od : Option Addr) (kV doc pm : Value) (an : Option Addr) (cdv ct : Value) (osl : Array (Option Value)),
    fd = PySem.W.fnOf x qual (defArgs st) (defBody st) (defScope st) .none kV doc pm an cdv ct ∧ K.lookup f = some ⟨oc, od, .func fd, osl⟩ ∧ PySem.W.codeIn K cdv qual = true
  kp : PySem.W.keepIn K (.ref f) = true
section
variable {P : Program} {w : World} {K : PySem.W.Frag} {mg : Str → Option Value} {base : Heap}
/-- THE RULE for a def: its body as a term of rules, and the reading of that term -/
theorem Fun.ok {x qual : Str} {st : Stmt} {f : Addr} {fd : FuncData} {N ps : List Str} {k : Nat} {sp : Sp} (F : Fun K x qual st f fd) (S : FnScope N ps (defScope st)) (len : ∀ vs H Q E, sp vs H Q E → vs.length = ps.length)
    (hbody : ∀ (cdv : Value) (A : Around) (outer : List Env) (s : Shared) (H : Hp) (vs : List V) (Q : VK) (E : XK), Room k (A.deeper (envOfC qual (defScope st) s.heap.objs.size f cdv)) → sp vs H Q E →
      ∃ t, PSs (cxOf CX0 P w K mg base N qual (defScope st) f cdv A outer s H E).nox (defBody st) t ∧ t { nx := fun _ H' => Q .non H', rt := Q } (start N vs) H) : FnOk P w K mg base CX0 (k + 1) f fd ps sp := by
  obtain ⟨oc, od, kV, doc, pm, an, cdv, ct, osl, rfl, lk, hcd⟩ := F.ex
  refine fn_of lk hcd S len fun A outer s H vs Q E hr hsp => ?_
  obtain ⟨t, h, q⟩ := hbody cdv A outer s H vs Q E hr hsp
  exact ⟨t, h.nox, q⟩
/-- how its arguments bind (no defaults): h is «fun _ _ _ _ _ _ us hl => match us, hl with | [_, _], _ => rfl», one _ a parameter -/
theorem Fun.binds {x qual : Str} {st : Stmt} {f : Addr} {fd : FuncData} {ps : List Str} (F : Fun K x qual st f fd)
    (h : ∀ (kV doc pm : Value) (an : Option Addr) (cdv ct : Value) (us : List Value), us.length = ps.length → bindArgs (PySem.W.fnOf x qual (defArgs st) (defBody st) (defScope st) .none kV doc pm an cdv ct) ⟨us, []⟩ = pure (ps.zip us)) : Binds K fd ps [] := by
  obtain ⟨oc, od, kV, doc, pm, an, cdv, ct, osl, rfl, lk, hcd⟩ := F.ex
  exact .all (h kV doc pm an cdv ct)
theorem fun_mk {x qual : Str} {st : Stmt} {f : Addr} {oc : Value} {od an : Option Addr} {osl : Array (Option Value)} {kV doc pm cdv ct : Value} (l : K.lookup f = some ⟨oc, od, .func (PySem.W.fnOf x qual (defArgs st) (defBody st) (defScope st) .none kV doc pm an cdv ct), osl⟩)
    (c : PySem.W.codeIn K cdv qual = true) (k : PySem.W.keepIn K (.ref f) = true) : Fun K x qual st f (PySem.W.fnOf x qual (defArgs st) (defBody st) (defScope st) .none kV doc pm an cdv ct) := ⟨⟨oc, od, kV, doc, pm, an, cdv, ct, osl, rfl, l, c⟩, k⟩
end
theorem hu_of {A : Around} {k : Nat} (hr : Room k A) : A.units + 1 < cLine := Nat.lt_of_le_of_lt (Nat.add_le_add_left (by decide : 1 ≤ 64) _) hr.units
theorem small1000 {n : Nat} (h : n ≤ 1000) : n < sizeLine := Nat.lt_of_le_of_lt h (by decide)

/-! ### expressions in short: the name that stands in the i-th slot -/
section
variable {X : Cx}
theorem pv (i : Nat) {x : Str} {pos : Pos} (hN : X.N[i]? = some x := by rfl) (hv : Vis X.env.scope x := by first | exact Or.inl rfl | exact Or.inr (Or.inl rfl) | exact Or.inr (Or.inr rfl)) (hd : (x == ("__debug__" : Str)) = false := by decide)
    (hcd : (x == ("__classdict__" : Str)) = false := by decide) : PE X (.Name x pos) (tVar i) := pe_var hN hv hd hcd
end

/-! ### tests -/
theorem iteF {A B : Prop} (h : B) : if false = true then A else B := by
  rw [if_neg Bool.false_ne_true]
  exact h
theorem iteT {A B : Prop} (h : A) : if true = true then A else B := by
  rw [if_pos rfl]
  exact h
theorem ite2 {c A B : Prop} [Decidable c] (h1 : c → A) (h2 : ¬ c → B) : if c then A else B := by
  by_cases h : c
  · rw [if_pos h]
    exact h1 h
  · rw [if_neg h]
    exact h2 h
/-! ### heaps -/
/-- all that was tracked is as it was -/
def Same (H H' : Hp) : Prop := ∀ b o, H b = some o → H' b = some o
theorem Same.refl (H : Hp) : Same H H := fun _ _ h => h
theorem Same.trans {H H1 H2 : Hp} (a : Same H H1) (b : Same H1 H2) : Same H H2 := fun c o h => b c o (a c o h)
theorem Same.free {H H' : Hp} (e : Same H H') {l : Addr} (h : H' l = Option.none) : H l = Option.none := by
  cases q : H l with
  | none => rfl
  | some o =>
    rw [e l o q] at h
    cases h
theorem Same.seq {K : PySem.W.Frag} {H H' : Hp} {a : Addr} {xs : List V} (e : Same H H') (h : SqL K H a xs) : SqL K H' a xs := by
  rcases h with (h | ⟨o, h⟩) | h
  · exact .inl (.inl (e _ _ h))
  · exact .inl (.inr ⟨o, e _ _ h⟩)
  · exact .inr h

end L2
namespace L2
open PySem PySem.Spec PyProof.Rows

/-! ### lists of pairs as tables -/
section
variable {κ : Type} [DecidableEq κ]
def valV (kvs : List (κ × V)) (k : κ) : Option V := (kvs.find? fun kv => decide (kv.1 = k)).map (·.2)
/-- in its place, or at the end -/
def putK (kvs : List (κ × V)) (k : κ) (v : V) : List (κ × V) :=
  if (kvs.any fun kv => decide (kv.1 = k)) = true then kvs.map (fun kv => if kv.1 = k then (kv.1, v) else kv) else kvs ++ [(k, v)]
def dropK (kvs : List (κ × V)) (k : κ) : List (κ × V) := kvs.filter fun kv => decide (kv.1 ≠ k)

theorem valV_pos {p : κ × V} {r : List (κ × V)} {k : κ} (e : p.1 = k) : valV (p :: r) k = some p.2 := by simp [valV, List.find?_cons, e]
theorem valV_neg {p : κ × V} {r : List (κ × V)} {k : κ} (e : ¬ p.1 = k) : valV (p :: r) k = valV r k := by simp [valV, List.find?_cons, e]
theorem valV_any (k : κ) : ∀ kvs : List (κ × V), (kvs.any fun kv => decide (kv.1 = k)) = (valV kvs k).isSome
  | [] => rfl
  | p :: r => by
    rw [List.any_cons]
    by_cases e : p.1 = k
    · simp only [valV_pos e, decide_eq_true e, Bool.true_or, Option.isSome_some]
    · rw [valV_neg e, decide_eq_false e, Bool.false_or]; exact valV_any k r
theorem valV_map (k j : κ) (y : V) : ∀ kvs : List (κ × V), valV (kvs.map fun kv => if kv.1 = k then (kv.1, y) else kv) j = (valV kvs j).map fun x => if j = k then y else x
  | [] => rfl
  | p :: r => by
    have ih := valV_map k j y r
    rw [List.map_cons]
    by_cases h : p.1 = k
    · rw [if_pos h]
      by_cases e : p.1 = j
      · rw [valV_pos (p := (p.1, y)) e, valV_pos e, Option.map_some, if_pos (e.symm.trans h)]
      · rw [valV_neg (p := (p.1, y)) e, valV_neg e, ih]
    · rw [if_neg h]
      by_cases e : p.1 = j
      · rw [valV_pos (p := p) e, valV_pos e, Option.map_some, if_neg (fun z => h (e.trans z))]
      · rw [valV_neg (p := p) e, valV_neg e, ih]
theorem valV_snoc (k j : κ) (y : V) : ∀ kvs : List (κ × V), valV kvs k = none → valV (kvs ++ [(k, y)]) j = if j = k then some y else valV kvs j
  | [], _ => by
    by_cases e : k = j
    · rw [if_pos e.symm]; exact valV_pos (p := (k, y)) e
    · rw [if_neg (fun z => e z.symm)]; exact valV_neg (p := (k, y)) e
  | p :: r, hn => by
    rw [List.cons_append]
    have hk : ¬ p.1 = k := fun z => by rw [valV_pos z] at hn; cases hn
    rw [valV_neg hk] at hn
    have ih := valV_snoc k j y r hn
    by_cases e : p.1 = j
    · rw [valV_pos e, valV_pos e, if_neg (fun z => hk (e.trans z))]
    · rw [valV_neg e, valV_neg e, ih]
theorem valV_put (kvs : List (κ × V)) (k j : κ) (y : V) : valV (putK kvs k y) j = if j = k then some y else valV kvs j := by
  unfold putK
  by_cases a : (kvs.any fun kv => decide (kv.1 = k)) = true
  · rw [if_pos a, valV_map]
    rw [valV_any] at a
    by_cases e : j = k
    · obtain ⟨x, hx⟩ := Option.isSome_iff_exists.mp a
      rw [if_pos e, e, hx, Option.map_some, if_pos rfl]
    · rw [if_neg e]
      cases valV kvs j with
      | none => rfl
      | some x => rw [Option.map_some, if_neg e]
  · rw [if_neg a]
    refine valV_snoc k j y kvs ?_
    rw [valV_any] at a
    cases q : valV kvs k with
    | none => rfl
    | some x => rw [q] at a; exact (a rfl).elim
theorem length_putK (kvs : List (κ × V)) (k : κ) (v : V) : (putK kvs k v).length ≤ kvs.length + 1 := by
  unfold putK
  split
  · rw [List.length_map]; omega
  · rw [List.length_append, List.length_cons, List.length_nil]; omega
theorem RelO.isSome_eq {o : Option V} {u : Option Value} (r : RelO o u) : o.isSome = u.isSome := by
  cases o with
  | none => cases u with
    | none => rfl
    | some _ => exact (show False from r).elim
  | some _ => cases u with
    | none => exact (show False from r).elim
    | some _ => rfl
theorem RelO.getD {o : Option V} {u : Option Value} {d : V} {d' : Value} (r : RelO o u) (rd : RelV d d') : RelV (o.getD d) (u.getD d') := by
  cases o with
  | none => cases u with
    | none => exact rd
    | some _ => exact (show False from r).elim
  | some _ => cases u with
    | none => exact (show False from r).elim
    | some _ => exact r

/-- raw tables of the same keys -/
theorem KV.val {kvs : List (κ × V)} {vs : List (κ × Value)} (r : KV kvs vs) (k : κ) : RelO (valV kvs k) (valueAt vs k) := by
  unfold KV at r
  induction r with
  | nil => exact True.intro
  | @cons p q ps qs h t ih =>
    obtain ⟨h1, h2⟩ := h
    by_cases e : p.1 = k
    · have e' : q.1 = k := h1.symm.trans e
      have b : valueAt (q :: qs) k = some q.2 := by simp [valueAt, List.find?_cons, e']
      rw [valV_pos e, b]; exact h2
    · have e' : ¬ q.1 = k := fun z => e (h1.trans z)
      have b : valueAt (q :: qs) k = valueAt qs k := by simp [valueAt, List.find?_cons, e']
      rw [valV_neg e, b]; exact ih
theorem KV.any {kvs : List (κ × V)} {vs : List (κ × Value)} (r : KV kvs vs) (k : κ) : (kvs.any fun kv => decide (kv.1 = k)) = vs.any fun kv => decide (kv.1 = k) := by
  unfold KV at r
  induction r with
  | nil => rfl
  | cons h t ih => rw [List.any_cons, List.any_cons, ih, h.1]
theorem KV.repl {kvs : List (κ × V)} {vs : List (κ × Value)} (r : KV kvs vs) (k : κ) {y : V} {u : Value} (ry : RelV y u) :
    KV (kvs.map fun kv => if kv.1 = k then (kv.1, y) else kv) (vs.map fun kv => if kv.1 = k then (kv.1, u) else kv) := by
  unfold KV at r ⊢
  induction r with
  | nil => exact .nil
  | @cons p q ps qs h t ih =>
    rw [List.map_cons, List.map_cons]
    refine .cons ?_ ih
    obtain ⟨h1, h2⟩ := h
    by_cases e : p.1 = k
    · rw [if_pos e, if_pos (h1.symm.trans e)]; exact ⟨h1, ry⟩
    · rw [if_neg e, if_neg (fun z => e (h1.trans z))]; exact ⟨h1, h2⟩
theorem KV.put {kvs : List (κ × V)} {vs : List (κ × Value)} (r : KV kvs vs) (k : κ) {y : V} {u : Value} (ry : RelV y u) : KV (putK kvs k y) (stored vs k u) := by
  unfold putK stored
  rw [r.any k]
  by_cases e : (vs.any fun kv => decide (kv.1 = k)) = true
  · rw [if_pos e, if_pos e]; exact r.repl k ry
  · rw [if_neg e, if_neg e]; exact Paired.snoc r ⟨rfl, ry⟩
theorem KV.drop {kvs : List (κ × V)} {vs : List (κ × Value)} (r : KV kvs vs) (k : κ) : KV (dropK kvs k) (without vs k) := by
  unfold KV at r ⊢
  unfold dropK without
  induction r with
  | nil => exact .nil
  | @cons p q ps qs h t ih =>
    obtain ⟨h1, h2⟩ := h
    rw [List.filter_cons, List.filter_cons]
    by_cases e : p.1 = k
    · have a : ¬ decide (p.1 ≠ k) = true := by simp [e]
      have b : ¬ decide (q.1 ≠ k) = true := by simp [h1.symm.trans e]
      rw [if_neg a, if_neg b]; exact ih
    · have e' : ¬ q.1 = k := fun z => e (h1.trans z)
      have a : decide (p.1 ≠ k) = true := by simp [e]
      have b : decide (q.1 ≠ k) = true := by simp [e']
      rw [if_pos a, if_pos b]; exact .cons ⟨h1, h2⟩ ih
theorem KV.keys {kvs : List (κ × V)} {vs : List (κ × Value)} (r : KV kvs vs) : kvs.map (·.1) = vs.map (·.1) := by
  unfold KV at r
  induction r with
  | nil => rfl
  | cons h t ih => rw [List.map_cons, List.map_cons, ih, h.1]
theorem KV.length {kvs : List (κ × V)} {vs : List (κ × Value)} (r : KV kvs vs) : kvs.length = vs.length := Paired.length r
end


/-! ### a tracked dict, its keys ints and texts or tuples of these -/
theorem kV_is {P : Program} {w : World} {k : Key} {u : Value} (r : RelV (kV k) u) : (mixKind P w).is k u = true := by
  cases k with
  | inl i => obtain ⟨t, e⟩ := (show ∃ t, u = Value.int i t from r); subst e; exact mixKind_int P w i t
  | inr x => obtain ⟨t, e⟩ := (show ∃ t, u = Value.str x t from r); subst e; exact mixKind_str P w x t
theorem items_are {P : Program} {w : World} : ∀ {ks : List Key} {us : List Value}, Vals (ks.map kV) us → ItemsAre (mixKind P w) ks us
  | [], _, r => by rw [List.map_nil] at r; cases r; exact .nil
  | k :: ks, _, r => by
    rw [List.map_cons] at r
    cases r with
    | cons h t => exact .cons (kV_is h) (items_are t)

/-- raw entries of a dict with tuple keys -/
abbrev KT (H : Hp) : List (List Key × V) → List (List Key × Addr × Value) → Prop := Paired fun p q => p.1 = q.1 ∧ H q.2.1 = some (.tup (p.1.map kV)) ∧ RelV p.2 q.2.2
theorem KT.val {H : Hp} {kvs : List (List Key × V)} {xs : List (List Key × Addr × Value)} (r : KT H kvs xs) (k : List Key) : RelO (valV kvs k) ((atKey xs k).map (·.2)) := by
  induction r with
  | nil => exact True.intro
  | @cons p q ps qs h t ih =>
    obtain ⟨h1, _, h2⟩ := h
    by_cases e : p.1 = k
    · have e' : q.1 = k := h1.symm.trans e
      have b : atKey (q :: qs) k = some q.2 := by simp [atKey, List.find?_cons, e']
      rw [valV_pos e, b]; exact h2
    · have e' : ¬ q.1 = k := fun z => e (h1.trans z)
      have b : atKey (q :: qs) k = atKey qs k := by simp [atKey, List.find?_cons, e']
      rw [valV_neg e, b]; exact ih
theorem KT.repl {H : Hp} {kvs : List (List Key × V)} {xs : List (List Key × Addr × Value)} (r : KT H kvs xs) (k : List Key) {y : V} {u : Value} (ry : RelV y u) :
    KT H (kvs.map fun kv => if kv.1 = k then (kv.1, y) else kv) (xs.map (putAt k u)) := by
  induction r with
  | nil => exact .nil
  | @cons p q ps qs h t ih =>
    rw [List.map_cons, List.map_cons]
    refine .cons ?_ ih
    obtain ⟨h1, h2, h3⟩ := h
    unfold putAt
    by_cases e : p.1 = k
    · rw [if_pos e, if_pos (h1.symm.trans e)]; exact ⟨h1, h2, ry⟩
    · rw [if_neg e, if_neg (fun z => e (h1.trans z))]; exact ⟨h1, h2, h3⟩
theorem KT.put {H : Hp} {kvs : List (List Key × V)} {xs : List (List Key × Addr × Value)} (r : KT H kvs xs) (k : List Key) {b : Addr} {y : V} {u : Value} (hb : H b = some (.tup (k.map kV))) (ry : RelV y u) :
    KT H (putK kvs k y) (storedH xs k b u) := by
  have e : (kvs.any fun kv => decide (kv.1 = k)) = (atKey xs k).isSome := by
    rw [valV_any, (r.val k).isSome_eq, Option.isSome_map]
  unfold putK storedH
  rw [e]
  by_cases q : (atKey xs k).isSome = true
  · rw [if_pos q, if_pos q]; exact r.repl k ry
  · rw [if_neg q, if_neg q]; exact Paired.snoc r ⟨rfl, hb, ry⟩
theorem KT.keeps {H H' : Hp} {kvs : List (List Key × V)} {xs : List (List Key × Addr × Value)} (r : KT H kvs xs) (ht : ∀ b ys, H b = some (.tup ys) → H' b = some (.tup ys)) : KT H' kvs xs :=
  Paired.mapP r fun _ _ z => ⟨z.1, ht _ _ z.2.1, z.2.2⟩

section
variable {P : Program} {w : World} {H : Hp} {h : Heap} {a : Addr}
theorem rd_of {u : HO} (ok : HOk P w H h) (e : Rd H a u) : ObjOk P w H h a u := e.ok ok
theorem dk_rd {kvs : List (Key × V)} (ok : HOk P w H h) (e : Rd H a (.dK kvs)) : kvs.length ≤ sizeLine ∧ (a == sysModules) = false ∧ ∃ vs, KV kvs vs ∧ h.DictOf (mixKind P w) a vs :=
  show ObjOk P w H h a (.dK kvs) from rd_of ok e
theorem dk_of {kvs : List (Key × V)} (ok : HOk P w H h) (e : H a = some (.dK kvs)) : kvs.length ≤ sizeLine ∧ (a == sysModules) = false ∧ ∃ vs, KV kvs vs ∧ h.DictOf (mixKind P w) a vs := dk_rd ok (.inl e)
/-- a tracked tuple of ints and texts is a key -/
theorem key_of {ks : List Key} (ok : HOk P w H h) (e : H a = some (.tup (ks.map kV))) : (tupleKind (mixKind P w)).is h ks a := by
  obtain ⟨_, its, r, o, h1, h2, n, h3⟩ := (show ObjOk P w H h a (.tup (ks.map kV)) from ok a _ e)
  exact ⟨o, its.toArray, n, h1, h2, h3, by simpa using items_are r⟩
theorem dt_rd {kvs : List (List Key × V)} (ok : HOk P w H h) (e : Rd H a (.dT kvs)) : kvs.length ≤ sizeLine ∧ (a == sysModules) = false ∧
    ∃ xs, KT H kvs xs ∧ h.DictOfH (tupleKind (mixKind P w)) a xs := by
  obtain ⟨z, y, xs, r, o, es, ep, h1, h2, h3, h4, h5⟩ := (show ObjOk P w H h a (.dT kvs) from rd_of ok e)
  refine ⟨z, y, xs, r, o, es, ep, h1, h2, h3, h4, fun x hx => ?_, h5⟩
  have all : ∀ {l : List (List Key × V)} {m : List (List Key × Addr × Value)}, KT H l m → ∀ x ∈ m, (tupleKind (mixKind P w)).is h x.1 x.2.1 := by
    intro l m q
    induction q with
    | nil => intro x hx; exact nomatch hx
    | @cons p q ps qs hq t ih =>
      intro x hx
      rcases List.mem_cons.mp hx with e | hx
      · subst e
        exact key_of ok (by rw [← hq.1]; exact hq.2.1)
      · exact ih x hx
  exact all r x hx
theorem dt_of {kvs : List (List Key × V)} (ok : HOk P w H h) (e : H a = some (.dT kvs)) : kvs.length ≤ sizeLine ∧ (a == sysModules) = false ∧
    ∃ xs, KT H kvs xs ∧ h.DictOfH (tupleKind (mixKind P w)) a xs := dt_rd ok (.inl e)
end

/-- what the dict at a holds at the key y -/
def DGet (H : Hp) (a : Addr) (y : V) (r : Option V) : Prop :=
  (∃ kvs k, Rd H a (.dK kvs) ∧ y = kV k ∧ r = valV kvs k) ∨ ∃ kvs k b, Rd H a (.dT kvs) ∧ y = .ref b ∧ H b = some (.tup (k.map kV)) ∧ r = valV kvs k
/-- the heap behind a[y] = v -/
def DPut (H : Hp) (a : Addr) (y v : V) (H' : Hp) : Prop :=
  (∃ kvs k, H a = some (.dK kvs) ∧ y = kV k ∧ kvs.length < sizeLine ∧ H' = upd H a (.dK (putK kvs k v))) ∨
  ∃ kvs k b, H a = some (.dT kvs) ∧ y = .ref b ∧ H b = some (.tup (k.map kV)) ∧ kvs.length < sizeLine ∧ H' = upd H a (.dT (putK kvs k v))
theorem DGet.k {H : Hp} {a : Addr} {kvs : List (Key × V)} {k : Key} (e : H a = some (.dK kvs)) : DGet H a (kV k) (valV kvs k) := .inl ⟨kvs, k, .inl e, rfl, rfl⟩
theorem DGet.t {H : Hp} {a b : Addr} {kvs : List (List Key × V)} {k : List Key} (e : H a = some (.dT kvs)) (eb : H b = some (.tup (k.map kV))) : DGet H a (.ref b) (valV kvs k) := .inr ⟨kvs, k, b, .inl e, rfl, eb, rfl⟩
theorem DPut.k {H : Hp} {a : Addr} {kvs : List (Key × V)} {k : Key} {v : V} (e : H a = some (.dK kvs)) (hl : kvs.length < sizeLine) : DPut H a (kV k) v (upd H a (.dK (putK kvs k v))) := .inl ⟨kvs, k, e, rfl, hl, rfl⟩
theorem DPut.t {H : Hp} {a b : Addr} {kvs : List (List Key × V)} {k : List Key} {v : V} (e : H a = some (.dT kvs)) (eb : H b = some (.tup (k.map kV))) (hl : kvs.length < sizeLine) :
    DPut H a (.ref b) v (upd H a (.dT (putK kvs k v))) := .inr ⟨kvs, k, b, e, rfl, eb, hl, rfl⟩


section
variable {X : Cx} {pins : List (Addr × Obj)} {σ : St} {H : Hp} {s : Shared} {a : Addr} {y v : V} {u r : Value} {o : Option V} {A : Around} {E : Value → Shared → Prop}

theorem Inv.big (I : Inv X pins σ H s) : sysModules < s.heap.objs.size := by
  have h : mainGlobals < s.heap.objs.size := (I.mod.glob.keeps I.bk).lt
  exact Nat.lt_trans (by decide) h

/-- d[y], there -/
theorem d_getItem {Q : Value → Shared → Prop} (hu : A.units + 1 < cLine) (I : Inv X pins σ H s) (g : DGet H a y (some v)) (ry : RelV y u) (h : ∀ w' s', Inv X pins σ H s' → RelV v w' → Q w' s') :
    wpAny (model X.prog X.w) A (getItem (.ref a) u) Q E s := by
  rcases g with ⟨kvs, k, e, ey, l⟩ | ⟨kvs, k, b, e, ey, eb, l⟩
  · subst ey
    obtain ⟨z, hd, vs, rel, dd⟩ := dk_rd I.hok e
    obtain ⟨w', hw, rw'⟩ := RelO.some_of (v := v) (o := valueAt vs k) (by rw [l]; exact rel.val k)
    exact wpAny_getItem_of (kV_is ry) dd.mapOf hw (h w' _ (I.tok _) rw')
  · subst ey
    cases (show u = Value.ref b from ry)
    obtain ⟨z, hd, xs, rel, dd⟩ := dt_rd I.hok e
    obtain ⟨w', hw, rw'⟩ := RelO.some_of (v := v) (o := (atKey xs k).map (·.2)) (by rw [l]; exact rel.val k)
    obtain ⟨p, hp, hp2⟩ := Option.map_eq_some_iff.mp hw
    refine wpAny_getItem_heap (tupleKind_room_in1 hu) (key_of I.hok eb) dd hp ?_
    rw [hp2]
    exact h w' _ (I.tok _) rw'
/-- a dict's object is replaced -/
theorem d_write {h' : Heap} {t' : Nat} {ob : HO} (I : Inv X pins σ H s) (mu : Mut (H a)) (hs : Heap.SameBut a s.heap h') (he : ∃ q, h'.get? a = some q) (new : ObjOk X.prog X.w (upd H a ob) h' a ob) :
    Inv X pins σ (upd H a ob) { s with heap := h', toks := t' } :=
  I.write (x := a) (e := a) mu (.inl rfl) (fun b q hb z => (hs.2 b hb).trans z) he new
theorem dk_new {P : Program} {w : World} {H' : Hp} {h' : Heap} {kvs : List (Key × V)} {vs : List (Key × Value)} (z : kvs.length ≤ sizeLine) (hd : (a == sysModules) = false) (rel : KV kvs vs) (dd : h'.DictOf (mixKind P w) a vs) :
    ObjOk P w H' h' a (.dK kvs) := ⟨z, hd, vs, rel, dd⟩
/-- d[y] = v -/
theorem d_setItem {H' : Hp} {Q : Unit → Shared → Prop} (hu : A.units + 1 < cLine) (I : Inv X pins σ H s) (g : DPut H a y v H') (ry : RelV y u) (rv : RelV v r) (h : ∀ s', Inv X pins σ H' s' → Q () s') :
    wpAny (model X.prog X.w) A (setItem (.ref a) u r) Q E s := by
  rcases g with ⟨kvs, k, e, ey, l, eH⟩ | ⟨kvs, k, b, e, ey, eb, l, eH⟩
  · subst ey eH
    obtain ⟨z, hd, vs, rel, dd⟩ := dk_of I.hok e
    have hz : vs.length ≤ sizeLine := by rw [← rel.length]; exact z
    have hl : (putK kvs k v).length ≤ sizeLine := by have := length_putK kvs k v; omega
    refine wpAny_setItem_pairs (hsz := hz) (kV_is ry) dd fun h' dd' hs => h _ ?_
    have he : ∃ q, h'.get? a = some q := let ⟨q, _, _, hq, _⟩ := dd'; ⟨q, hq⟩
    exact d_write I (by rw [e]; exact True.intro) hs he (dk_new hl hd (rel.put k rv) dd')
  · subst ey eH
    cases (show u = Value.ref b from ry)
    obtain ⟨z, hd, xs, rel, dd⟩ := dt_of I.hok e
    have hz : xs.length ≤ sizeLine := by rw [← Paired.length rel]; exact z
    have hl : (putK kvs k v).length ≤ sizeLine := by have := length_putK kvs k v; omega
    refine wpAny_setItem_heap (hsz := hz) (tupleKind_room_in1 hu) (key_of I.hok eb) dd fun h' dd' hs => h _ ?_
    obtain ⟨q, es, ep, hq, h2, h3, h4, _, h5⟩ := dd'
    refine d_write I (by rw [e]; exact True.intro) hs ⟨q, hq⟩ ⟨hl, hd, _, (rel.put k eb rv).keeps fun c ys ec => ?_, q, es, ep, hq, h2, h3, h4, h5⟩
    rw [upd_ne (ne_of ec e (fun z => nomatch z))]
    exact ec
end

section
variable {X : Cx} {pins : List (Addr × Obj)} {σ : St} {H : Hp} {s : Shared} {a : Addr} {kvs : List (Key × V)} {k : Key} {u : Value} {A : Around} {E : Value → Shared → Prop}
end


/-! ### readings and rules -/
/-- the element of a subscription, not a slice -/
def NoSl (i : Expr) : Prop := ∀ ov iv, subscripted i false ov iv = operate [ov, iv] (getItem ov iv)
theorem subD_of {prog : Program} {w : World} {A : Around} {E : Value → Shared → Prop} {s : Shared} {env : Env} {value slice : Expr} {pos : Pos} {T id : String} {Q : Value → Shared → Prop}
    (hl : typeLookup (.type T) "__getitem__" = pure (some (.builtin id))) (hs : NoSl slice)
    (h : wpAny (model prog w) A (eval value env) (fun o s₁ => wpAny (model prog w) A (eval slice env) (fun i s₂ => s₂.TypeIs o T ∧ wpAny (model prog w) A (getItem o i) Q E s₂) E s₁) E s) :
    wpAny (model prog w) A (eval (.Subscript value slice pos) env) Q E s := by
  refine Subscript_ (wpAny_mono h (fun o s₁ h₁ => wpAny_mono h₁ (fun i s₂ h₂ => ?_) fun _ _ x => x) fun _ _ x => x)
  obtain ⟨hT, h₂⟩ := h₂
  unfold subscriptTail
  refine wpAny_bind ?_
  rw [getitemInPython_of_ne hT.not_modules]
  refine wpAny_bind (wpAny_specialOf hT hl ?_)
  have fin : wpAny (model prog w) A (subscripted slice false o i) (fun r s₃ => wpAny (model prog w) A (letTemporaryGo value o r >>= fun _ => pure r) Q E s₃) E s₂ := by
    rw [hs o i]
    exact wpAny_operating (wpAny_mono h₂ (fun r s₃ h₃ => wpAny_bind (wpAny_letTemporaryGo (wpAny_pure h₃))) fun _ _ x => x)
  first
    | exact wpAny_pure (wpAny_bind fin)
    | exact wpAny_bind (wpAny_pure (wpAny_bind fin))
    | exact wpAny_bind fin

theorem dict_typeIs {X : Cx} {pins : List (Addr × Obj)} {σ : St} {H : Hp} {s : Shared} {a : Addr} {y : V} {o : Option V} (I : Inv X pins σ H s) (g : DGet H a y o) : s.TypeIs (.ref a) "dict" := by
  rcases g with ⟨kvs, k, e, _, _⟩ | ⟨kvs, k, b, e, _, _, _⟩
  · obtain ⟨_, _, vs, _, dd⟩ := dk_rd I.hok e
    exact dd.typeIs
  · obtain ⟨_, _, xs, _, dd⟩ := dt_rd I.hok e
    exact dd.typeIs
/-- d[y] -/
def tDGet (td ty : TE) : TE := fun σ H Q => td σ H fun x H1 => ty σ H1 fun y H2 => ∃ a v, x = .ref a ∧ DGet H2 a y (some v) ∧ Q v H2
/-- d[y] = v -/
def sDPut (td ty tv : TE) : TS := fun D σ H => tv σ H fun v H1 => td σ H1 fun x H2 => ty σ H2 fun y H3 => ∃ a H4, x = .ref a ∧ DPut H3 a y v H4 ∧ D.nx σ H4
section
variable {X : Cx} {o i e value : Expr} {pos pos' tpos : Pos} {td ty tv : TE}
theorem pe_dget (hu : X.A.units + 1 < cLine) (ho : PE X o td) (hi : PE X i ty) (hs : NoSl i) : PE X (.Subscript o i pos) (tDGet td ty) := by
  intro pins s σ H Q I h
  refine subD_of PySem.F.slot_dict_getitem.lookup hs (thn (ho pins s σ H _ I h) fun u s1 ⟨x, H1, I1, rx, q1⟩ => thn (hi pins s1 σ H1 _ I1 q1) fun iv s2 ⟨y, H2, I2, ry, a, v, ex, g, q2⟩ => ?_)
  subst ex
  obtain rfl : u = Value.ref a := rx
  exact ⟨dict_typeIs I2 g, d_getItem hu I2 g ry fun w' s3 I3 rw' => ⟨v, H2, I3, rw', q2⟩⟩
theorem ps_dput (hu : X.A.units + 1 < cLine) (ho : PE X o td) (hi : PE X i ty) (hv : PE X value tv) (hs : swapsWith value (some (.Subscript o i pos')) pos.line X.env = pure false) :
    PS X (.Assign [.Subscript o i pos'] value pos) (sDPut td ty tv) := by
  intro pins s σ H D I h
  refine wpAny_Assign_Subscript (thn (hv pins s σ H _ I h) fun r s1 ⟨v, H1, I1, rv, q1⟩ => thn (ho pins s1 σ H1 _ I1 q1) fun u s2 ⟨x, H2, I2, rx, q2⟩ => thn (hi pins s2 σ H2 _ I2 q2) fun iv s3 ⟨y, H3, I3, ry, a, H4, ex, g, q3⟩ => ?_) hs
  subst ex
  obtain rfl : u = Value.ref a := rx
  exact d_setItem hu I3 g ry rv fun s4 I4 => ⟨σ, H4, I4, q3⟩
end


/-! ### displays -/
theorem dk_empty {P : Program} {w : World} {H : Hp} (h : Heap) (hb : sysModules < h.objs.size) : ObjOk P w H (h.push { cls := .type "dict", data := .dict #[] }) h.objs.size (.dK []) :=
  ⟨Nat.zero_le _, beq_eq_false_iff_ne.mpr (Ne.symm (Nat.ne_of_lt hb)), [], .nil, Heap.DictOf.new h⟩
/-- {}, to be a dict of the kind that is wanted -/
def tDNewK : TE := fun _ H Q => ∀ p, H p = none → Q (.ref p) (upd H p (.dK []))
section
variable {X : Cx} {pos : Pos}
theorem pe_dnewK : PE X (.Dict [] [] pos) tDNewK := fun pins s σ H Q I h =>
  wpAny_Dict_empty ⟨.ref s.heap.objs.size, _, I.laid (a := s.heap.objs.size) (o := .dK []) (t' := s.toks) (fun _ _ q => Heap.get?_push_of_some _ q) (Nat.le_refl _) (dk_empty s.heap I.big), rfl, h _ (I.hok.fresh (Nat.le_refl _))⟩
end

/-- the pairs of a display, from the left -/
def tPairs : List (TE × TE) → St → Hp → (List (V × V) → Hp → Prop) → Prop
  | [], _, H, Q => Q [] H
  | (tk, tv) :: r, σ, H, Q => tk σ H fun x H1 => tv σ H1 fun y H2 => tPairs r σ H2 fun ps H3 => Q ((x, y) :: ps) H3
abbrev VV : List (V × V) → List (Value × Value) → Prop := Paired fun p q => RelV p.1 q.1 ∧ RelV p.2 q.2
def PPs (X : Cx) (pos : Pos) (keys : List (Option Expr)) (values : List Expr) (trs : List (TE × TE)) : Prop :=
  ∀ (pins : List (Addr × Obj)) (s : Shared) (σ : St) (H : Hp) (Q : List (V × V) → Hp → Prop), Inv X pins σ H s → tPairs trs σ H Q →
    wpAny (model X.prog X.w) X.A (evalPairs (pairTrees keys values X.env pos)) (fun vs s' => ∃ ps H', Inv X pins σ H' s' ∧ VV ps vs ∧ Q ps H') X.xe s
/-! ### methods -/
/-- a method call o.m(e) of a built-in, with one argument: what must be seen of the text -/
structure M1 (X : Cx) (o : Expr) (m : Str) (apos : Pos) (e : Expr) (cpos : Pos) : Prop where
  base : attributeBase o m X.env (eval o X.env) = eval o X.env
  few : ((backTo cpos (starEach [e] X.env)).all (fun x => !x.1) && (backToKw cpos (keywordEach [] X.env)).all (fun x => x.1.isSome)
    && decide (([e] : List Expr).length + ([] : List Keyword).length + (if ([] : List Keyword).isEmpty then 0 else 1) < 30)) = true
  line : (apos.endLine == cpos.line) = true
  trees : backTo cpos (starEach [e] X.env) = [(false, eval e X.env)]
structure M2 (X : Cx) (o : Expr) (m : Str) (apos : Pos) (e f : Expr) (cpos : Pos) : Prop where
  base : attributeBase o m X.env (eval o X.env) = eval o X.env
  few : ((backTo cpos (starEach [e, f] X.env)).all (fun x => !x.1) && (backToKw cpos (keywordEach [] X.env)).all (fun x => x.1.isSome)
    && decide (([e, f] : List Expr).length + ([] : List Keyword).length + (if ([] : List Keyword).isEmpty then 0 else 1) < 30)) = true
  line : (apos.endLine == cpos.line) = true
  trees : backTo cpos (starEach [e, f] X.env) = [(false, eval e X.env), (false, eval f X.env)]

section
variable {X : Cx} {pins : List (Addr × Obj)} {σ : St} {H : Hp} {s : Shared} {a : Addr} {y d : V} {u r : Value} {o : Option V} {A : Around} {E : Value → Shared → Prop}
end

section
variable {X : Cx} {o e f : Expr} {apos cpos : Pos} {td ty tx : TE}
end

/-! ### dict(d): a copy -/
section
variable {X : Cx} {pins : List (Addr × Obj)} {σ : St} {H : Hp} {s : Shared} {a : Addr} {kvs : List (Key × V)} {A : Around} {E : Value → Shared → Prop}
end


section
variable {X : Cx} {pins : List (Addr × Obj)} {σ : St} {H : Hp} {s : Shared} {a : Addr} {y : V} {u : Value} {A : Around} {E : Value → Shared → Prop}
end
end L2

namespace L2
open PySem PySem.Spec PyProof.Rows
section
variable {X : Cx}
end
/-! ### a dict's pairs: keys that differ -/
section
variable {κ : Type} [DecidableEq κ]
end
end L2
/-! comprehensions over the layer -/
namespace L2
open PySem PySem.Spec PyProof.Rows PySem.Calls

/-! ### the loop of a comprehension, with the step ahead of the store -/
section
variable {prog : Program} {w : World} {A : Around} {R : Result → Shared → Prop} {s : Shared}
theorem compLoop_go {elt target iter : Expr} {scope : Scope} {pos : Pos} {it acc : Value} {env : Env} (I : Nat → Shared → Prop)
    (turn : ∀ n s, I n s → wpAny (model prog w) A (pyNext it) (fun r s₁ => match r with
      | none => R (.ok .next) s₁
      | some v => wpAny (model prog w) A (letOwnedTupleGo target it v) (fun _ s₂ => wpAny (model prog w) A (assign target env v) (fun _ s₃ =>
          wpAny (model prog w) A (eval elt env) (fun x s₄ =>
            wpAny (model prog w) A (call (.builtin "list.append") [acc, x]) (fun _ s₅ => ∃ m, m < n ∧ I m s₅) (notedBy (model prog w) A env fun e s' => R (.error e) s') s₄)
            (notedBy (model prog w) A env fun e s' => R (.error e) s') s₃) (notedBy (model prog w) A env fun e s' => R (.error e) s') s₂) (notedBy (model prog w) A env fun e s' => R (.error e) s') s₁)
      (notedBy (model prog w) A env fun e s' => R (.error e) s') s)
    (n : Nat) (h : I n s) : codeAny (model prog w) A (.compLoop (.ListComp elt [⟨target, iter, [], 0⟩] scope pos) 0 it acc env) R s := by
  refine codeAny_loop rfl I (fun n s hI => ?_) n h
  show wpAny _ A ((compTurn (.ListComp elt [⟨target, iter, [], 0⟩] scope pos) 0 it acc env).onRaise (fun x => do noteFrame x env; theTreesLotGoes x)) _ _ s
  refine wpAny_noted ?_
  rw [compTurn_list1]
  refine wpAny_bind (wpAny_standAt (wpAny_bind (wpAny_mono (turn n s hI) (fun r s₁ h₁ => ?_) fun _ _ h' => h')))
  cases r with
  | none => exact wpAny_pure h₁
  | some v =>
    refine wpAny_bind (wpAny_mono h₁ (fun _ s₂ h₂ => wpAny_bind (wpAny_mono h₂ (fun _ s₃ h₃ => ?_) fun _ _ h' => h')) fun _ _ h' => h')
    exact wpAny_bind (wpAny_bind (wpAny_mono h₃ (fun x s₄ h₄ => wpAny_bind (wpAny_mono h₄ (fun _ s₅ h₅ => wpAny_pure (wpAny_pure ⟨rfl, h₅⟩)) fun _ _ h' => h')) fun _ _ h' => h'))
end

/-! ### the cells that a comprehension's block takes along -/
def clOf (env : Env) : List (Str × NameKind) → List (Str × Addr) → List (Str × Addr)
  | [], cs => cs
  | (n, k) :: r, cs => clOf env r (if k == .free then match env.cells.lookup n with | some c => (n, c) :: cs | none => cs else cs)
theorem clOf_mem {env : Env} : ∀ {ns : List (Str × NameKind)} {cs : List (Str × Addr)} {y : Str} {c : Addr}, (y, c) ∈ clOf env ns cs → (y, c) ∈ cs ∨ env.cells.lookup y = some c
  | [], _, _, _, h => .inl h
  | (n, k) :: r, cs, y, c, h => by
    unfold clOf at h
    rcases clOf_mem h with q | q
    · split at q
      · cases e : env.cells.lookup n with
        | none => rw [e] at q; exact .inl q
        | some d =>
          rw [e] at q
          rcases List.mem_cons.mp q with z | z
          · cases z; exact .inr e
          · exact .inl z
      · exact .inl q
    · exact .inr q
theorem clOf_has {env : Env} : ∀ {ns : List (Str × NameKind)} {cs : List (Str × Addr)} {y : Str}, ((∃ c, (y, c) ∈ cs) ∨ ((y, NameKind.free) ∈ ns ∧ ∃ c, env.cells.lookup y = some c)) → ∃ c, (y, c) ∈ clOf env ns cs
  | [], _, _, h => by
    rcases h with h | ⟨h, _⟩
    · exact h
    · cases h
  | (n, k) :: r, cs, y, h => by
    unfold clOf
    apply clOf_has
    rcases h with ⟨c, h⟩ | ⟨h, c, e⟩
    · left
      split
      · cases e : env.cells.lookup n with
        | none => exact ⟨c, h⟩
        | some d => exact ⟨c, List.mem_cons_of_mem _ h⟩
      · exact ⟨c, h⟩
    · rcases List.mem_cons.mp h with z | z
      · cases z
        left
        rw [e]
        exact ⟨c, by simp⟩
      · exact .inr ⟨z, c, e⟩
theorem closure_cl {env : Env} : ∀ {ns : List (Str × NameKind)} {cs : List (Str × Addr)}, (∀ y, (y, NameKind.free) ∈ ns → ∃ c, env.cells.lookup y = some c) →
    (forIn ns cs fun (x : Str × NameKind) (r : List (Str × Addr)) => (if x.2 == NameKind.free then (do let c ← cellOf env x.1; pure (ForInStep.yield ((x.1, c) :: r))) else pure (ForInStep.yield r) : Sem (ForInStep (List (Str × Addr))))) = (pure (clOf env ns cs) : Sem (List (Str × Addr)))
  | [], _, _ => rfl
  | (n, k) :: r, cs, h => by
    have ih := @closure_cl env r
    rw [List.forIn_cons]
    unfold clOf
    cases hk : k == NameKind.free with
    | false =>
      simp only [Bool.false_eq_true, if_false]
      exact ih fun y hy => h y (List.mem_cons_of_mem _ hy)
    | true =>
      have ek : k = NameKind.free := by simpa using hk
      subst ek
      obtain ⟨c, e⟩ := h n (by simp)
      have ec : cellOf env n = pure c := by unfold cellOf; rw [e]
      simp only [if_true]
      rw [ec, e]
      exact ih fun y hy => h y (List.mem_cons_of_mem _ hy)
theorem closure_eq {scope : Scope} {env : Env} (h : ∀ y, (y, NameKind.free) ∈ scope.names → ∃ c, env.cells.lookup y = some c) : closureFor scope env = pure (clOf env scope.names []) := by
  have q := closure_cl (cs := []) h
  unfold closureFor
  exact congrArg (fun m => m >>= fun r => pure r) q
end L2
namespace L2
open PySem PySem.Spec PyProof.Rows PySem.Calls

theorem lookup_relabel {env : Env} {y : Str} : ∀ {names : List (Str × NameKind)},
    (names.map fun (n, k) => if (k == NameKind.free && env.scope.kind == .function && env.kindOf n == some .cell) then (n, NameKind.cell) else (n, k)).lookup y
      = (names.lookup y).map fun k => if (k == NameKind.free && env.scope.kind == .function && env.kindOf y == some .cell) then NameKind.cell else k
  | [] => rfl
  | (n, k) :: r => by
    have ih := @lookup_relabel env y r
    by_cases hx : y = n
    · subst hx
      simp only [List.map_cons]
      split <;> rename_i hc
      · rw [List.lookup_cons, List.lookup_cons]; simp only [beq_self_eq_true, Option.map_some]; rw [if_pos hc]
      · rw [List.lookup_cons, List.lookup_cons]; simp only [beq_self_eq_true, Option.map_some]; rw [if_neg hc]
    · have hb : (y == n) = false := beq_eq_false_iff_ne.mpr hx
      simp only [List.map_cons]
      split <;> simp only [List.lookup_cons, hb] <;> exact ih

section
variable {X : Cx} {pins : List (Addr × Obj)} {σ : St} {H : Hp} {s : Shared} {a : Addr} {o : HO}
/-- an untracked new record is tracked from here on -/
theorem Inv.track (I : Inv X pins σ H s) (f : FpOk X pins H a) (hs : X.s₀.heap.objs.size ≤ a) (new : ObjOk X.prog X.w (upd H a o) s.heap a o) : Inv X pins σ (upd H a o) s := by
  obtain ⟨f0, f1, f2, f3, f4, f5⟩ := f
  have old : ∀ b ob, X.s₀.heap.get? b = some ob → b ≠ a := fun b ob e z => by subst z; exact absurd (Nat.lt_of_lt_of_le (Heap.lt_size e) hs) (Nat.lt_irrefl _)
  refine ⟨I.ok, I.os, I.bare, ⟨I.base.keep, I.base.slot, fun b ob e n hx => ?_, I.base.there, fun b xs e => ?_, fun b ob u e => ?_, fun b ps e => ?_⟩, I.loc, I.cell, ?_, fun x c e => ?_, fun p hp => ?_, fun b u e => ?_, I.len⟩
  · rw [upd_ne (old b ob e)]; exact I.base.free b ob e n hx
  · have q := I.base.tups b xs e; rw [upd_ne (ne_of_none q f0)]; exact q
  · have q := I.base.frzs b ob u e; rw [upd_ne (ne_of_none q f0)]; exact q
  · obtain ⟨more, q⟩ := I.base.tbls b ps e; exact ⟨more, by rw [upd_ne (ne_of_none q f0)]; exact q⟩
  · rw [upd_ne (Ne.symm f1)]; exact I.free
  · rw [upd_ne (f4 x c e)]; exact I.freeC x c e
  · obtain ⟨e, n, ne, nf, d⟩ := I.pin p hp
    exact ⟨e, by rw [upd_ne (f5 p hp)]; exact n, ne, nf, d⟩
  · by_cases hb : b = a
    · subst hb; rw [upd_same] at e; cases e; exact new
    · rw [upd_ne hb] at e
      exact (I.hok b u e).stay (fun c v _ q => q) (fun c q => by rw [upd_ne (ne_of_none q f0)]; exact q) fun c xs q => by rw [upd_ne (ne_of_none q f0)]; exact q
end

/-- the context of a comprehension's block: the variable x, then the names of the def around -/
def compCx (X : Cx) (scope : Scope) (C : Addr) (x : Str) (M : List Str) (s₂ : Shared) (H₂ : Hp) (fp : List Addr) : Cx :=
  { X with N := x :: M, s₀ := s₂, H₀ := H₂, env := compEnvC scope (clOf X.env scope.names []) C X.env, outer := X.stack, ex := fp, fn := fun _ => false, pn := [], xe := fun _ _ => False }

structure CompOk (X : Cx) (scope : Scope) (x : Str) (M : List Str) : Prop where
  kind : scope.kind = .function
  cell : ∀ y ∈ scope.names, y.2 ≠ .cell
  names : ∀ y ∈ scope.names, y.2 = .local → scope.names.lookup y.1 = some .local
  loc : scope.names.lookup x = some .local
  nd : (x :: M).Nodup
  free : ∀ y, (y, NameKind.free) ∈ scope.names → X.env.scope.names.lookup y = some .cell ∨ X.env.scope.names.lookup y = some .free
  len : M.length = X.N.length
  sub : ∀ (j : Nat) y, M[j]? = some y → scope.names.lookup y = some .local ∨ scope.names.lookup y = some .free → X.N[j]? = some y ∧ scope.names.lookup y = some .free

def compOkB (names outer : List (Str × NameKind)) (N M : List Str) (x : Str) : Bool :=
  names.all (fun y => decide (y.2 ≠ .cell)) && names.all (fun y => decide (y.2 = .local → names.lookup y.1 = some .local)) && decide (names.lookup x = some .local) && decide (x :: M).Nodup &&
  names.all (fun y => decide (y.2 = .free → (outer.lookup y.1 = some .cell ∨ outer.lookup y.1 = some .free))) && decide (M.length = N.length) &&
  (M.zip N).all (fun p => decide (names.lookup p.1 = some .local ∨ names.lookup p.1 = some .free → p.1 = p.2 ∧ names.lookup p.1 = some .free))
theorem compOk_of {X : Cx} {scope : Scope} {x : Str} {M : List Str} (hk : scope.kind = .function) (h : compOkB scope.names X.env.scope.names X.N M x = true) : CompOk X scope x M := by
  unfold compOkB at h
  simp only [Bool.and_eq_true, List.all_eq_true, decide_eq_true_eq] at h
  obtain ⟨⟨⟨⟨⟨⟨h1, h2⟩, h3⟩, h4⟩, h5⟩, h6⟩, h7⟩ := h
  refine ⟨hk, h1, h2, h3, h4, fun y hy => h5 _ hy rfl, h6, fun j y e q => ?_⟩
  have hj : j < M.length := (List.getElem?_eq_some_iff.mp e).1
  have hj2 : j < X.N.length := by omega
  have z : (M.zip X.N)[j]? = some (y, X.N[j]) := by rw [List.getElem?_zip_eq_some]; exact ⟨e, by simp [hj2]⟩
  have r := h7 _ (List.mem_of_getElem? z) q
  exact ⟨by rw [List.getElem?_eq_getElem hj2]; exact congrArg some r.1.symm, r.2⟩

section
variable {X : Cx} {scope : Scope} {x : Str} {M : List Str} {pins : List (Addr × Obj)} {σ : St} {H₂ : Hp} {s₂ : Shared}

/-- what the block's cells are -/
theorem CompOk.cl_of {y : Str} {c : Addr} (h : (clOf X.env scope.names []).lookup y = some c) : X.env.cells.lookup y = some c := by
  rcases clOf_mem (PySem.mem_of_lookup h) with q | q
  · cases q
  · exact q
theorem CompOk.cl_has (K : CompOk X scope x M) (ok : X.Ok) {y : Str} (h : (y, NameKind.free) ∈ scope.names) : ∃ c, (clOf X.env scope.names []).lookup y = some c ∧ X.env.cells.lookup y = some c := by
  have e1 : ∃ c, X.env.cells.lookup y = some c := ok.has y (K.free y h)
  obtain ⟨c, hc⟩ := clOf_has (env := X.env) (ns := scope.names) (cs := []) (y := y) (.inr ⟨h, e1⟩)
  have q : ∃ c, (clOf X.env scope.names []).lookup y = some c := by
    cases e : (clOf X.env scope.names []).lookup y with
    | some c => exact ⟨c, rfl⟩
    | none =>
      rw [List.lookup_eq_none_iff] at e
      have := e _ hc
      simp at this
  obtain ⟨c', hc'⟩ := q
  exact ⟨c', hc', CompOk.cl_of hc'⟩

theorem CompOk.closure (K : CompOk X scope x M) (ok : X.Ok) : closureFor scope X.env = pure (clOf X.env scope.names []) :=
  closure_eq fun y hy => by obtain ⟨c, _, q⟩ := K.cl_has ok hy; exact ⟨c, q⟩

/-- the block's start: D the list (untracked), C the block's own names -/
theorem inv_comp (K : CompOk X scope x M) (I : Inv X pins σ H₂ s₂) {fp : List Addr} (hf : ∀ b ∈ fp, FpOk X pins H₂ b) (hfl : ∀ b ∈ fp, b < s₂.heap.objs.size) {C : Addr} (hC : s₂.heap.objs.size ≤ C) {h₁ : Heap} {t : Nat} {m : Str → Option Value} (hn : h₁.Ns C m)
    (hk : ∀ b o, s₂.heap.get? b = some o → h₁.get? b = some o) : Inv (compCx X scope C x M s₂ H₂ fp) [] (none :: σ) H₂ { s₂ with heap := h₁, toks := t } := by
  have lt : ∀ {b : Addr} {o : Obj}, s₂.heap.get? b = some o → b ≠ C := fun {b o} e z => by subst z; exact absurd (Nat.lt_of_lt_of_le (Heap.lt_size e) hC) (Nat.lt_irrefl _)
  have cC : ∀ y c, (clOf X.env scope.names []).lookup y = some c → c ≠ C := fun y c e => by
    obtain ⟨v, o, ho, _⟩ := I.cell y c (CompOk.cl_of e)
    exact lt ho
  have sub : ∀ b ∈ frs X.stack, b = X.env.locals ∨ b ∈ X.fs := fun b hb => List.mem_cons.mp (I.stkSub b hb)
  have ok : (compCx X scope C x M s₂ H₂ fp).Ok := by
    refine ⟨I.ok.mod, K.kind, I.ok.glob, I.ok.blt, hC, fun y z c h1 h2 => ?_, fun y hy => ?_, fun y c z => ?_, I.ok.hd, I.ok.frames, .inl rfl, fun b hb => ⟨?_, fun y c e => ?_⟩, I.bs, Nat.le_trans I.ok.bsz I.sz, fun b o e hb => ?_, fun b hb hb2 => ?_, I.stack, I.stkFree⟩
    · exact I.ok.inj y z c (CompOk.cl_of h1) (CompOk.cl_of h2)
    · have hy' : (relabel scope X.env).names.lookup y = some .cell ∨ (relabel scope X.env).names.lookup y = some .free := hy
      have q : (y, NameKind.free) ∈ scope.names := by
        unfold relabel at hy'
        rw [lookup_relabel] at hy'
        cases e : scope.names.lookup y with
        | none => rw [e] at hy'; simp at hy'
        | some k =>
          have hm := PySem.mem_of_lookup e
          cases k with
          | free => exact hm
          | cell => exact absurd rfl (K.cell _ hm)
          | _ => rw [e] at hy'; simp at hy'
      obtain ⟨c, q, _⟩ := K.cl_has I.ok q
      exact ⟨c, q⟩
    · exact Bool.noConfusion (show false = true from z)
    · intro z
      have z' : b = C := z
      subst z'
      exact absurd (Nat.lt_of_lt_of_le (hfl b hb) hC) (Nat.lt_irrefl _)
    · exact (hf b hb).2.2.2.2.1 y c (CompOk.cl_of e)
    · have q := (hf b hb).2.2.2.1
      rcases q with q | q
      · exact I.ok.noex b o e q
      · exact absurd (Nat.lt_of_lt_of_le (Heap.lt_size (I.ok.bs b o e).1) q) (Nat.lt_irrefl _)
    · rcases sub b hb2 with z | z
      · exact (hf b hb).2.1 z
      · exact (hf b hb).2.2.1 z
  refine ⟨ok, rfl, I.bare, Un.kept hk, ⟨m, hn, fun i y v e1 e2 e3 => ?_⟩, fun y c e => ?_, ?_, fun y c e => ?_, fun p hp => absurd (show p ∈ ([] : List (Addr × Obj)) from hp) (by simp), I.hok.kept hk, ?_⟩
  · cases i with
    | zero =>
      have e2' : some (none : Option V) = some (some v) := e2
      cases e2'
    | succ j =>
      have e1' : M[j]? = some y := e1
      have e2' : σ[j]? = some (some v) := e2
      have e3' : (relabel scope X.env).names.lookup y = some .local ∨ (relabel scope X.env).names.lookup y = some .cell ∨ (relabel scope X.env).names.lookup y = some .free := e3
      have q : scope.names.lookup y = some .local ∨ scope.names.lookup y = some .free := by
        unfold relabel at e3'
        rw [lookup_relabel] at e3'
        cases e : scope.names.lookup y with
        | none => rw [e] at e3'; simp at e3'
        | some k =>
          have hm := PySem.mem_of_lookup e
          cases k with
          | free => exact .inr rfl
          | «local» => exact .inl rfl
          | cell => exact absurd rfl (K.cell _ hm)
          | _ => rw [e] at e3'; simp at e3'
      obtain ⟨nj, fr⟩ := K.sub j y e1' q
      have hm := PySem.mem_of_lookup fr
      have kd := K.free y hm
      have vs : Vis X.env.scope y := .inr kd
      obtain ⟨mo, _, lo⟩ := I.loc
      obtain ⟨u, r, l⟩ := lo j y v nj e2' vs
      refine ⟨u, r, .inr ⟨?_, ?_⟩⟩
      · show (relabel scope X.env).names.lookup y = some .cell ∨ (relabel scope X.env).names.lookup y = some .free
        unfold relabel
        rw [lookup_relabel, fr]
        simp only [Option.map_some]
        split
        · exact .inl rfl
        · exact .inr rfl
      · obtain ⟨c, q1, q2⟩ := K.cl_has I.ok hm
        rcases l with ⟨k, _⟩ | ⟨_, c', q3, z⟩
        · have k' : X.env.scope.names.lookup y = some .local := k
          rcases kd with kd | kd <;> · rw [k'] at kd; cases kd
        · rw [q2] at q3
          cases q3
          obtain ⟨oc, ho, hd⟩ := z
          exact ⟨c, q1, oc, hk _ _ ho, hd⟩
  · obtain ⟨v, oc, ho, hd⟩ := I.cell y c (CompOk.cl_of e)
    exact ⟨v, oc, hk _ _ ho, hd⟩
  · exact I.hok.fresh hC
  · exact I.freeC y c (CompOk.cl_of e)
  · show (none :: σ).length = (x :: M).length
    rw [List.length_cons, List.length_cons, K.len, I.len]
end
end L2
namespace L2
open PySem PySem.Spec PyProof.Rows PySem.Calls

/-- [e for x in it]: n bounds the turns; W i ys H: behind i turns, ys made -/
def tComp (wi : TI) (te : TE) : TE := fun σ H Q => wi σ H fun J H1 => ∃ (n : Nat) (W : Nat → List V → Hp → Prop), n ≤ sizeLine ∧ W 0 [] H1 ∧ ∀ i ys H, i ≤ n → ys.length = i → W i ys H →
  (J.stop i H ∧ ∀ p, H p = none → Q (.ref p) (upd H p (.lst ys))) ∨ (J.go i H ∧ i < n ∧ ∀ x H', J.yld i H x H' → te (some x :: σ) H' fun v H'' => W (i + 1) (ys ++ [v]) H'')

section
variable {X : Cx} {scope : Scope} {x : Str} {M : List Str} {pins : List (Addr × Obj)} {σ : St} {H₂ : Hp} {s₂ : Shared} {elt iter : Expr} {px pos : Pos} {te : TE} {wi : TI}

theorem comp_block (K : CompOk X scope x M) (hc : X.calm = true) (I : Inv X pins σ H₂ s₂) (he : ∀ (C : Addr) (s₂ : Shared) (H₂ : Hp) (fp : List Addr), PE (compCx X scope C x M s₂ H₂ fp) elt te)
    {it : Addr} {fp : List Addr} {tn : Nat → Heap → Prop} {J : It} (T : Turn X.prog X.w X.K (.Name x px) J fp it tn) (st : tn 0 s₂.heap) (hf : ∀ b ∈ fp, FpOk X pins H₂ b) {n : Nat} (hsz : n ≤ sizeLine) {W : Nat → List V → Hp → Prop} {F : List V → Hp → Prop}
    (w0 : W 0 [] H₂) (turn : ∀ i ys H, i ≤ n → ys.length = i → W i ys H → (J.stop i H ∧ F ys H) ∨ (J.go i H ∧ i < n ∧ ∀ x H', J.yld i H x H' → te (some x :: σ) H' fun v H'' => W (i + 1) (ys ++ [v]) H''))
    {E : Value → Shared → Prop} {RR : Value → Addr → Result → Shared → Prop}
    (hRR : ∀ (D C : Addr) (s' : Shared) (H' : Hp) (ys : List V) (m : Str → Option Value), Inv X pins σ (upd H' D (.lst ys)) s' → H' D = none → FpOk X pins (upd H' D (.lst ys)) C → s'.heap.Ns C m → F ys H' → RR (.ref D) C (.ok .next) s') :
    wpAny (model X.prog X.w) X.A (newList []) (fun acc s₃ => wpAny (model X.prog X.w) X.A (newFunctionEnv scope X.env.globals (clOf X.env scope.names []) [] X.env.qual none .none (some X.env)) (fun cenv s₄ =>
      codeAny (model X.prog X.w) X.A (.compStart (.ListComp elt [⟨.Name x px, iter, [], 0⟩] scope pos) 0 (.ref it) acc { cenv with scope := relabel scope X.env }) (RR acc cenv.locals) s₄) E s₃) E s₂ := by
  refine wpAny_newObj_type (wpAny_newFunctionEnv K.cell (by intro y hy; simp at hy) (fun h₁ hns₁ hsb₁ => ?_) K.kind)
  dsimp only at hns₁ hsb₁ ⊢
  generalize hH2 : s₂.heap.push { cls := .type "list", dict := none, data := .seq ([] : List Value).toArray } = H2 at hns₁ hsb₁ ⊢
  have hC : H2.objs.size = s₂.heap.objs.size + 1 := by rw [← hH2, Heap.size_push]
  have hDC : s₂.heap.objs.size ≠ H2.objs.size := by rw [hC]; exact Nat.ne_of_lt (Nat.lt_succ_self _)
  have below : ∀ b, b < s₂.heap.objs.size → b ≠ H2.objs.size ∧ b ≠ s₂.heap.objs.size := fun b hb => ⟨by rw [hC]; exact Nat.ne_of_lt (Nat.lt_succ_of_lt hb), Nat.ne_of_lt hb⟩
  have hfl : ∀ b ∈ fp, b < s₂.heap.objs.size := fun b hb => by obtain ⟨o, e, _⟩ := T.obj _ _ st b hb; exact Heap.lt_size e
  have old : ∀ b o, s₂.heap.get? b = some o → h₁.get? b = some o := fun b o e => hsb₁.extBut b o (below b (Heap.lt_size e)).1 (Heap.get?_push_of_some _ (hH2 ▸ Heap.get?_push_of_some _ e))
  have hacc : h₁.get? s₂.heap.objs.size = some { cls := .type "list", data := .seq ([] : List Value).toArray 0 } := hsb₁.extBut _ _ hDC (Heap.get?_push_of_some _ (hH2 ▸ Heap.get?_push_size _ rfl))
  generalize hCC : H2.objs.size = C at *
  generalize hDD : s₂.heap.objs.size = D at *
  have hCle : s₂.heap.objs.size ≤ C := by rw [hDD, hC]; exact Nat.le_succ _
  have st₁ : tn 0 h₁ := T.keep _ _ _ st fun b _ o e => old b o e
  have I₁ := inv_comp (t := s₂.toks + ([] : List (Str × Value)).length) K I hf (fun b hb => by rw [hDD]; exact hfl b hb) hCle hns₁ old
  -- the context of the block
  generalize hX' : compCx X scope C x M s₂ H₂ fp = X' at I₁
  have eX : X'.prog = X.prog ∧ X'.w = X.w ∧ X'.K = X.K ∧ X'.calm = true ∧ X'.A = X.A ∧ X'.ex = fp ∧ X'.env = compEnvC scope (clOf X.env scope.names []) C X.env ∧ X'.s₀ = s₂ ∧ X'.pn = [] := by
    subst hX'; exact ⟨rfl, rfl, rfl, hc, rfl, rfl, rfl, rfl, rfl⟩
  obtain ⟨eP, ew, eK, ec, eA, eex, eenv, es0, epn⟩ := eX
  have eL : X'.env.locals = C := by rw [eenv]; rfl
  have cells' : ∀ y c, X'.env.cells.lookup y = some c → X.env.cells.lookup y = some c := fun y c e => by rw [eenv] at e; exact CompOk.cl_of e
  have efs : X'.fs = frs X.stack := by subst hX'; rfl
  have fsub : ∀ b ∈ X'.fs, b = X.env.locals ∨ b ∈ X.fs := fun b hb => List.mem_cons.mp (I.stkSub b (by rw [← efs]; exact hb))
  -- the iterator's records, the list: ours to turn
  have fpok : ∀ {pn : List (Addr × Obj)} {H' : Hp}, (∀ p ∈ pn, p.1 = D) → (∀ b ∈ fp, H' b = none) → ∀ b ∈ fp, FpOk X' pn H' b := fun {pn H'} hp hn b hb => by
    refine ⟨hn b hb, ?_, fun z => ?_, .inl (by rw [eex]; exact hb), fun y c e => (hf b hb).2.2.2.2.1 y c (cells' y c e), fun p hq => ?_⟩
    · rw [eL]; exact (below b (hfl b hb)).1
    · rcases fsub b z with q | q
      · exact (hf b hb).2.1 q
      · exact (hf b hb).2.2.1 q
    · rw [epn, List.nil_append] at hq
      rw [hp p hq]; exact Ne.symm (below b (hfl b hb)).2
  have Dfp : D ∉ fp := fun z => Nat.lt_irrefl _ (hfl D z)
  have ltL : X.env.locals < D := by have := I.lt; rw [hDD] at this; exact this
  have ltF : ∀ b ∈ X.fs, b < D := fun b hb => Nat.lt_of_not_le fun z => I.nofs (a := b) (by rw [hDD]; exact z) hb
  have newok : ∀ {b : Addr} {pn : List (Addr × Obj)} {H' : Hp}, D ≤ b → b ≠ C → H' b = none → (∀ p ∈ pn, p.1 ≠ b) → FpOk X' pn H' b := fun {b pn H'} hb hbC hn hp => by
    refine ⟨hn, by rw [eL]; exact hbC, fun z => ?_, .inr (by rw [es0, hDD]; exact hb), fun y c e => ?_, fun p hq => ?_⟩
    · rcases fsub b z with q | q
      · rw [q] at hb; exact absurd (Nat.lt_of_lt_of_le ltL hb) (Nat.lt_irrefl _)
      · exact absurd (Nat.lt_of_lt_of_le (ltF b q) hb) (Nat.lt_irrefl _)
    · obtain ⟨v, o, ho, _⟩ := I.cell y c (cells' y c e)
      have := Heap.lt_size ho
      rw [hDD] at this
      exact Nat.ne_of_lt (Nat.lt_of_lt_of_le this hb)
    · rw [epn, List.nil_append] at hq
      exact hp p hq
  -- behind the block
  have outer : ∀ {σ' : St} {H' : Hp} {s' : Shared} {pn : List (Addr × Obj)}, Inv X' pn σ' H' s' → Inv X pins σ H' s' := fun {σ' H' s' pn} J' => by
    subst hX'
    refine I.call' (ch := fp) J'.os J'.base J'.hok J'.bare fun b hb => ?_
    obtain ⟨f0, f1, f2, f3, f4, f5⟩ := hf b hb
    exact ⟨f3, f1, f4, f5⟩
  have outok : ∀ {b : Addr} {H' : Hp}, D ≤ b → H' b = none → FpOk X pins H' b := fun {b H'} hb hn => by
    have q := I.fpOk (H' := H') (b := b) (by rw [hDD]; exact hb) hn
    exact q
  have loop : ∀ s₃ : Shared, s₃ = { s₂ with heap := h₁, toks := s₂.toks + ([] : List (Str × Value)).length } →
      codeAny (model X.prog X.w) X.A (.compLoop (.ListComp elt [⟨.Name x px, iter, [], 0⟩] scope pos) 0 (.ref it) (.ref D) (compEnvC scope (clOf X.env scope.names []) C X.env)) (RR (.ref D) C) s₃ := by
    rintro s₃ rfl
    refine compLoop_go (fun k s' => ∃ (i : Nat) (ys : List V) (its : List Value) (σ0 : Option V) (H' : Hp), i ≤ n ∧ k = n + 1 - i ∧ ys.length = i ∧ Inv X' [] (σ0 :: σ) H' s' ∧ tn i s'.heap ∧ (∀ b ∈ fp, H' b = none) ∧ H' D = none ∧ Vals ys its ∧
      (∃ c, s'.heap.get? D = some { cls := .type "list", data := .seq its.toArray c }) ∧ W i ys H') ?_ (n + 1) ⟨0, [], [], none, H₂, Nat.zero_le _, rfl, rfl, I₁, st₁, fun b hb => (hf b hb).1, by rw [← hDD]; exact I.hok.fresh (Nat.le_refl _), .nil, ⟨0, hacc⟩, w0⟩
    rintro k s' ⟨i, ys, its, σ0, H', hi, rfl, hyl, I', st', fr', hD', rv, ⟨c, hobj⟩, w'⟩
    have hx0 : X'.N[0]? = some x := by subst hX'; rfl
    have hxl : X'.env.scope.names.lookup x = some .local := by rw [eenv]; exact lookup_relabel_local K.loc
    have hNd : X'.N.Nodup := by subst hX'; exact K.nd
    rcases turn i ys H' hi hyl w' with ⟨stop, fin⟩ | ⟨go, hlt, step⟩
    · have pinD : Inv X' [(D, { cls := .type "list", data := .seq its.toArray c })] (σ0 :: σ) H' s' := I'.pins_of fun p hp => by
        obtain rfl : p = (D, { cls := .type "list", data := .seq its.toArray c }) := by simpa using hp
        refine ⟨hobj, hD', ?_, ?_, fun v z => nomatch z⟩
        · rw [eL]; exact hDC
        · intro z
          rcases fsub D z with q | q
          · rw [q] at ltL; exact Nat.lt_irrefl _ ltL
          · exact Nat.lt_irrefl _ (ltF D q)
      have q := T.done X' eP ew eK ec i _ s' (σ0 :: σ) H' (notedBy (model X.prog X.w) X.A (compEnvC scope (clOf X.env scope.names []) C X.env) fun e s' => RR (.ref D) C (.error e) s') pinD (fpok (fun p hp => by obtain rfl : p = (D, { cls := .type "list", data := .seq its.toArray c }) := (by simpa using hp); rfl) fr') st' stop
      rw [eA] at q
      refine wpAny_mono q (fun r s4 ⟨hr, I4⟩ => ?_) fun _ _ z => z
      subst hr
      obtain ⟨e4, n4, _⟩ := I4.pin (D, { cls := .type "list", data := .seq its.toArray c }) (List.mem_append_right _ (by simp))
      have O4 := outer I4
      obtain ⟨m4, ns4, _⟩ := I4.loc
      rw [eL] at ns4
      refine hRR D C s4 H' ys m4 (O4.track (outok (Nat.le_refl _) n4) (Nat.le_trans I.sz (by rw [hDD]; exact Nat.le_refl _)) ⟨by rw [hyl]; exact Nat.le_trans hi hsz, its, c, rv, e4⟩) n4 (outok (by rw [hC]; exact Nat.le_succ _) ?_) ns4 fin
      rw [upd_ne (Ne.symm hDC)]
      have := I4.free
      rw [eL] at this
      exact this
    · have pinD : Inv X' [(D, { cls := .type "list", data := .seq its.toArray c })] (σ0 :: σ) H' s' := I'.pins_of fun p hp => by
        obtain rfl : p = (D, { cls := .type "list", data := .seq its.toArray c }) := by simpa using hp
        refine ⟨hobj, hD', ?_, ?_, fun v z => nomatch z⟩
        · rw [eL]; exact hDC
        · intro z
          rcases fsub D z with q | q
          · rw [q] at ltL; exact Nat.lt_irrefl _ ltL
          · exact Nat.lt_irrefl _ (ltF D q)
      have pd : ∀ p ∈ [(D, ({ cls := .type "list", data := .seq its.toArray c } : Obj))], p.1 = D := fun p hp => by obtain rfl : p = (D, { cls := .type "list", data := .seq its.toArray c }) := (by simpa using hp); rfl
      have q := T.item X' eP ew eK ec i _ s' (σ0 :: σ) H' (notedBy (model X.prog X.w) X.A (compEnvC scope (clOf X.env scope.names []) C X.env) fun e s' => RR (.ref D) C (.error e) s') pinD (fpok pd fr') st' go
      rw [eA] at q
      refine wpAny_mono q (fun r s4 ⟨u, hr, h4⟩ => ?_) fun _ _ z => z
      subst hr
      refine wpAny_mono h4 (fun _ s5 ⟨xv, H5, I5, r5, y5, st5, fr5⟩ => ?_) fun _ _ z => z
      have I5' := I5.pinned (fpok pd fr5) (T.obj _ _ st5)
      refine wpAny_assign_Name ?_
      rw [← eenv]
      refine store_ok I5' hNd hx0 (.inl hxl) r5 (fun s6 I6 => ?_) (.inr hxl)
      have te6 := step xv H5 y5
      have q6 := (he C s₂ H₂ fp) (([(D, ({ cls := .type "list", data := .seq its.toArray c } : Obj))]) ++ pinsAt fp s5.heap) s6 (some xv :: σ) H5 (fun v H'' => W (i + 1) (ys ++ [v]) H'') (by rw [hX']; exact I6) te6
      rw [hX', eP, ew, eA] at q6
      refine wpAny_mono q6 (fun u7 s7 ⟨v7, H7, I7, r7, w7⟩ => ?_) (fun _ _ z => by subst hX'; exact (show False from z).elim)
      obtain ⟨e7, n7, _⟩ := I7.pin (D, { cls := .type "list", data := .seq its.toArray c }) (List.mem_append_right _ (List.mem_append_left _ (by simp)))
      refine append_at (hsz := by rw [List.size_toArray, ← rv.length, hyl]; exact Nat.le_trans hi hsz) e7 fun h8 sb8 g8 => ?_
      have I8 : Inv X' [] (some xv :: σ) H7 { s7 with heap := h8, toks := s7.toks } := (I7.pins_of (pins' := []) fun p hp => absurd hp (by simp)).turned (t' := s7.toks) (it := D) (fun b o hb e => (sb8.2 b hb).trans e) n7 (by rw [eL]; exact hDC) (.inr (by rw [es0, hDD]; exact Nat.le_refl _))
        (newok (H' := H7) (pn := []) (Nat.le_refl _) hDC n7 (fun p hp => absurd hp (by simp))).2.2.2.2.1 (fun p hp => by rw [epn] at hp; exact absurd hp (by simp))
      refine ⟨n + 1 - (i + 1), by omega, i + 1, ys ++ [v7], its ++ [u7], some xv, H7, hlt, rfl, by rw [List.length_append, List.length_singleton, hyl], I8, ?_, fun b hb => ?_, n7, rv.append (.cons r7 .nil), ⟨c + 1, ?_⟩, w7⟩
      · refine T.keep _ _ _ st5 fun b hb o e => ?_
        have e' := (I7.pin (b, o) (List.mem_append_right _ (List.mem_append_right _ (mem_pinsAt hb e)))).1
        exact (sb8.2 b (fun z => Dfp (z ▸ hb))).trans e'
      · obtain ⟨o, e, d⟩ := T.obj _ _ st5 b hb
        exact (I7.pin (b, o) (List.mem_append_right _ (List.mem_append_right _ (mem_pinsAt hb e)))).2.1
      · rw [g8, List.push_toArray]
  exact codeAny_compStart_list (loop _ rfl) (T.self X.A 0 _ _ _ st₁ (loop _ rfl))

/-- a comprehension as a value -/
theorem pe_comp (K : CompOk X scope x M) (hc : X.calm = true) (hi : PI X (.Name x px) iter wi) (he : ∀ (C : Addr) (s₂ : Shared) (H₂ : Hp) (fp : List Addr), PE (compCx X scope C x M s₂ H₂ fp) elt te)
    (hs : ∀ x, foldedSetIterable iter X.env x = pure x := by intro _; rfl) : PE X (.ListComp elt [⟨.Name x px, iter, [], 0⟩] scope pos) (tComp wi te) := by
  intro pins s σ H Q I h
  rw [eval_ListComp]
  refine wpAny_comprehension_free (use := none) rfl hs (K.closure I.ok) K.kind K.names (thn (hi pins s σ H _ I h) fun v s1 h1 => thn h1 fun itv s2 h2 => ?_)
  obtain ⟨it, fp, tn, J, H2, e, I2, T, st2, f2, n, W, hsz, w0, turn⟩ := h2
  subst e
  refine comp_block (RR := fun acc C => compPost (model X.prog X.w) X.A X.xe none (EP X pins σ Q) acc C) K hc I2 he T st2 f2 hsz (F := fun ys H => ∀ p, H p = none → Q (.ref p) (upd H p (.lst ys))) w0 turn ?_
  intro D C s' H' ys m I' n' fC ns fin
  refine ⟨m, ns, fun h' sb => ?_⟩
  obtain ⟨f0, f1, f2, f3, f4, f5⟩ := fC
  exact ⟨.ref D, _, I'.turned (t' := s'.toks) (it := C) (fun b o hb e => (sb.2 b hb).trans e) f0 f1 f3 f4 f5, rfl, fin D n'⟩
end
end L2
namespace L2
open PySem PySem.Spec PyProof.Rows PySem.Calls

/-! ### texts as lists of codes -/
def S (l : List Nat) : Str := ⟨l.toArray⟩
abbrev cd (x : Str) : List Nat := x.cps.toList
theorem cd_S (l : List Nat) : cd (S l) = l := rfl
theorem S_cd (x : Str) : S (cd x) = x := by cases x; rfl
theorem len_S (l : List Nat) : (S l).length = l.length := by show l.toArray.size = _; simp
theorem len_cd (x : Str) : x.length = (cd x).length := by show x.cps.size = _; simp
theorem S_app (a b : List Nat) : S a ++ S b = S (a ++ b) := by
  show (⟨a.toArray ++ b.toArray⟩ : Str) = ⟨(a ++ b).toArray⟩
  simp
/-! ### for c in text, [.. for c in text] -/
section
variable {X : Cx} {tg : Expr}
end
/-! ### comprehensions: what is read of them -/
theorem comp_range {lo : Int} {n : Nat} {te : TE} {σ : St} {H : Hp} {Q : VK} (hz : n ≤ sizeLine) (W : Nat → List V → Hp → Prop) (h0 : W 0 [] H)
    (hs : ∀ i ys H, i < n → ys.length = i → W i ys H → te (some (.int (lo + i)) :: σ) H fun v H' => W (i + 1) (ys ++ [v]) H')
    (hd : ∀ ys H, ys.length = n → W n ys H → ∀ p, H p = none → Q (.ref p) (upd H p (.lst ys))) :
    ∃ (m : Nat) (W : Nat → List V → Hp → Prop), m ≤ sizeLine ∧ W 0 [] H ∧ ∀ i ys H, i ≤ m → ys.length = i → W i ys H →
      ((Itr lo n).stop i H ∧ ∀ p, H p = none → Q (.ref p) (upd H p (.lst ys))) ∨ ((Itr lo n).go i H ∧ i < m ∧ ∀ v H', (Itr lo n).yld i H v H' → te (some v :: σ) H' fun v H'' => W (i + 1) (ys ++ [v]) H'') := by
  refine ⟨n, W, hz, h0, fun i ys H hi hl hw => ?_⟩
  by_cases hlt : i < n
  · refine .inr ⟨hlt, hlt, fun v H' y => ?_⟩
    obtain ⟨e, y⟩ := y
    subst e y
    exact hs i ys _ hlt hl hw
  · have e : i = n := by omega
    subst e
    exact .inl ⟨Nat.le_refl _, hd ys H hl hw⟩
/-! ### all, join, isinstance, slices, products -/
section
variable {X : Cx}
theorem strs_of {ys : List Str} : ∀ {its : List Value}, Vals (ys.map V.str) its → StrsAre its ys := by
  induction ys with
  | nil => intro its r; cases r; exact .nil
  | cons y ys ih =>
    intro its r
    cases r with
    | cons a b => obtain ⟨t, rfl⟩ := a; exact .cons _ _ (ih b)
def joinS (sep : Str) (ys : List Str) : Str := Txt.join sep ys
theorem mt_join : MtM X "str.join" (fun x vs H Q => ∃ (sep : Str) (p : Addr) (ys : List Str), x = .str sep ∧ vs = [.ref p] ∧ (SqL X.K H p (ys.map V.str) ∨ SqT X.K H p (ys.map V.str)) ∧ (ys.map (·.length)).sum + ys.length * sep.length ≤ 16777216 ∧ Q (.str (joinS sep ys)) H) := by
  intro pins s σ H x vs v us Q I rx rv h
  obtain ⟨sep, p, ys, rfl, rfl, hq, hz, q⟩ := h
  obtain ⟨t, rfl⟩ := rx
  obtain ⟨u, rfl, ru⟩ := rv.one
  cases ru
  rcases hq with hq | hq
  · obtain ⟨its, r, pl, _⟩ := I.list hq
    exact join_list pl.isList (by simpa using strs_of r) hz fun t' k => ⟨.str _, H, I.tok _, ⟨_, rfl⟩, q⟩
  · obtain ⟨its, r, pl, _⟩ := I.tuple hq
    exact join_tuple pl (by simpa using strs_of r) hz fun t' k => ⟨.str _, H, I.tok _, ⟨_, rfl⟩, q⟩

/-- a product whose factors have few bits -/
theorem op_mulB : OpR X (binaryOp .Mult) (rI (fun i j => Builtin.Int.intBits i ≤ 60000000 ∧ Builtin.Int.intBits j ≤ 60000000) fun i j => .int (i * j)) := opI fun i j _ _ _ _ _ hc q => mul_int q (IntMulOk.of_le hc.1 hc.2 (by decide))

/-! ### a slice of a text -/
end
end L2
/-! the law's head, with the bits of the script's ints -/
namespace Att
open PySem PySem.W PySem.Calls PyProof.Rows
theorem bits_of_lay {ns : List Int} (h : WData.layableAll [WData.list (ns.map WData.int)] = true) : ∀ n ∈ ns, Builtin.Int.intBits n ≤ 1048576 := by
  have h1 : (WData.list (ns.map WData.int)).layable = true := by simpa [WData.layableAll] using h
  intro n hn
  have h2 := layableW_item h1 (.int n) (List.mem_map.mpr ⟨n, hn, rfl⟩)
  have h3 := (layableW_iff.mp h2).2.2
  simpa [WData.weight, Builtin.Int.intBits] using h3
theorem attach_callB {l : OpenLaw} {n : Nat} {q : Program} {loose : List Str} {XP : (Str → Option Value) → Heap → Prop} {YP : World → Heap → Prop} {d : DefRec}
    (hn : l.most = some n) (hdf : d.params.defaults = [])
    (call : ∀ (w : World) (s₀ s₁ : Shared) (mg mb : Str → Option Value) (fa : Addr) (o : Obj) (pm cd doc : Value) (a : Addr) (vs : List Value) (ns : List Int),
      Ground q loose [] XP w s₀ mg mb s₁.heap → YP w s₁.heap →
      s₁.heap.get? fa = some o → o.data = .func (docDef d.name d.params d.body d.scope pm cd doc) → s₁.heap.CodeRec cd d.name → mg d.name = some (.ref fa) →
      s₁.heap.get? a = some { cls := .type "list", data := .seq vs.toArray } → IntsAre vs ns → ns.length ≤ n → (∀ n ∈ ns, Builtin.Int.intBits n ≤ 1048576) → s₁.gens = #[] →
      codeAny (model l.prog w) callerA (.call (.ref fa) ⟨[.ref a], []⟩) (fun r s' => r = .ok (.ret (.bool true)) ∧ OldK s₁.heap s'.heap ∧ s'.os = s₁.os ∧ AllBare s'.gens) s₁) :
    WalkO q loose XP YP l.row.toRowW d [] (fun f vs => PySem.call f vs) := by
  intro w s₀ s₁ mg mb G Y fa o pm cd doc dV kV ho hd hcd hD hmg hg args vals as hpre hlay hrd hwl hlo
  obtain rfl : dV = .none := Dflts.none hD hdf
  obtain rfl : kV = .none := Dflts.noKw hD
  obtain ⟨a, vs, ns, rfl, rfl, hobj, hints, hlen⟩ := script_of hn hpre hwl
  refine enter_call (codeAny_mono (call w s₀ s₁ mg mb fa o pm cd doc a vs ns G Y ho (fd_plain hd) hcd hmg hobj hints hlen (bits_of_lay hlay) hg) fun r s' hq => ?_)
  obtain ⟨rfl, h2, h3, h4⟩ := hq
  exact ⟨.inl ⟨.bool true, .bool true, [], rfl, fun _ => rfl, .bool true, post_true l _, fun _ => ⟨List.Pairwise.nil, fun _ hm => (nomatch hm)⟩⟩, h2, h3, h4⟩
end Att
namespace L2
open PySem PySem.Spec PyProof.Rows
/-! ### the module's values -/
theorem SqT.mod {K : PySem.W.Frag} {a : Addr} {oc : Value} {od : Option Addr} {its : Array Value} {n : Nat} {sl : Array (Option Value)} {xs : List V} (h : K.lookup a = some ⟨oc, od, .seq its n, sl⟩) (hc : oc = .type "tuple") (hz : its.size ≤ sizeLine) (hv : Vals xs its.toList) (H : Hp) : SqT K H a xs :=
  .inr ⟨_, its, n, h, hc, rfl, hz, hv⟩
theorem Same.tup {K : PySem.W.Frag} {H H' : Hp} {a : Addr} {xs : List V} (e : Same H H') (h : SqT K H a xs) : SqT K H' a xs := by
  rcases h with (h | ⟨o, h⟩) | h
  · exact .inl (.inl (e _ _ h))
  · exact .inl (.inr ⟨o, e _ _ h⟩)
  · exact .inr h
theorem same_new {H : Hp} {p : Addr} (h : H p = none) (o : HO) : Same H (upd H p o) := fun b u q => by rw [upd_ne (ne_of_none q h)]; exact q
namespace Bt
theorem int : bootBuiltins "int" = some (.type "int") := PyProof.Rows.boot_int
theorem bool : bootBuiltins "bool" = some (.type "bool") := PyProof.Rows.boot_bool
theorem str : bootBuiltins "str" = some (.type "str") := PyProof.Rows.boot_str
theorem list : bootBuiltins "list" = some (.type "list") := PyProof.Rows.boot_list
theorem tuple : bootBuiltins "tuple" = some (.type "tuple") := PyProof.Rows.boot_tuple
theorem dict : bootBuiltins "dict" = some (.type "dict") := PyProof.Rows.boot_dict
theorem set : bootBuiltins "set" = some (.type "set") := PyProof.Rows.boot_set
theorem isinstance : bootBuiltins "isinstance" = some (.builtin "isinstance") := PyProof.Rows.boot_isinstance
theorem all : bootBuiltins "all" = some (.builtin "all") := PyProof.Rows.boot_all
theorem abs : bootBuiltins "abs" = some (.builtin "abs") := PyProof.Rows.Boot.«abs»
end Bt
end L2
namespace L2
open PySem PySem.Spec PyProof.Rows

abbrev ib (x : Int) : Nat := Builtin.Int.intBits x
theorem ib_div {x : Int} {y : Int} {m : Nat} (hy : 0 < y) (h : ib x ≤ m) : ib (x / y) ≤ m := by
  rw [← Int.fdiv_eq_ediv_of_nonneg x (Int.le_of_lt hy)]
  exact intBits_fdiv_le h
theorem ib_small {x : Int} (h1 : -(2 ^ 64) < x) (h2 : x < 2 ^ 64) : ib x ≤ 64 := intBits_le_64 h1 h2
theorem ib_big {m : Nat} {x : Int} (h : x.natAbs < 2 ^ m) : ib x ≤ m := intBits_le_iff.mpr h
theorem at_some {α : Type} {l : List α} {i : Int} (h0 : 0 ≤ i) (h1 : i < l.length) : ∃ c, atI l i = some c ∧ l[i.toNat]? = some c := by
  have hk : i.toNat < l.length := by omega
  refine ⟨l[i.toNat], ?_, List.getElem?_eq_getElem hk⟩
  have e : i = ((i.toNat : Nat) : Int) := by omega
  have q : atI l ((i.toNat : Nat) : Int) = some l[i.toNat] := atI_nat (List.getElem?_eq_getElem hk)
  rw [← e] at q
  exact q
theorem Same.ty {K : PySem.W.Frag} {H H' : Hp} {x : V} {t : Value} (e : Same H H') (h : TyOf K H x t) : TyOf K H' x t := by
  cases h with
  | non => exact .non
  | bl x => exact .bl x
  | int i => exact .int i
  | str x => exact .str x
  | flt x => exact .flt x
  | lst q => exact .lst (e _ _ q)
  | frz q => exact .frz (e _ _ q)
  | tup q => exact .tup (e _ _ q)
  | dK q => exact .dK (e _ _ q)
  | dT q => exact .dT (e _ _ q)
  | ins q a b c d f => exact .ins (e _ _ q) a b c d f
theorem small_of {n m : Nat} (h : n ≤ m) (hm : m ≤ 16777216 := by decide) : n ≤ sizeLine := by rw [sizeLine_eq]; omega
/-! ### join, as lists of codes -/
def joinL (sep : List Nat) : List (List Nat) → List Nat
  | [] => []
  | [x] => x
  | x :: y :: r => x ++ sep ++ joinL sep (y :: r)
theorem joinS_is (sep : Str) (ys : List Str) : joinS sep ys = S (joinL (cd sep) (ys.map cd)) := by
  have e : joinS sep ys = Str.join sep ys := StrLaws.glued_eq_join sep ys
  rw [e]
  clear e
  induction ys with
  | nil => rfl
  | cons y r ih =>
    cases r with
    | nil => exact (S_cd y).symm
    | cons z r =>
      show y ++ sep ++ Str.join sep (z :: r) = S (cd y ++ cd sep ++ joinL (cd sep) ((z :: r).map cd))
      rw [ih, ← S_app, ← S_app, S_cd, S_cd]
/-! ### loops and comprehensions, their readings shut (opened by their own forms) -/
structure CompR (J : It) (te : TE) (σ : St) (H1 : Hp) (Q : VK) : Prop where
  ex : ∃ (n : Nat) (W : Nat → List V → Hp → Prop), n ≤ sizeLine ∧ W 0 [] H1 ∧ ∀ i ys H, i ≤ n → ys.length = i → W i ys H →
    (J.stop i H ∧ ∀ p, H p = none → Q (.ref p) (upd H p (.lst ys))) ∨ (J.go i H ∧ i < n ∧ ∀ x H', J.yld i H x H' → te (some x :: σ) H' fun v H'' => W (i + 1) (ys ++ [v]) H'')
def tCompR (wi : TI) (te : TE) : TE := fun σ H Q => wi σ H fun J H1 => CompR J te σ H1 Q
structure ForR (J : It) (g : TG) (tb : TS) (D : Ends) (σ : St) (H1 : Hp) : Prop where
  ex : ∃ W : Nat → Nat → St → Hp → Prop, (∃ m, W 0 m σ H1) ∧ ∀ i m σ H, W i m σ H →
    (J.stop i H ∧ D.nx σ H) ∨ (J.go i H ∧ ∃ N : St → Hp → Prop, (∀ σ' H', N σ' H' → ∃ m', m' < m ∧ W (i + 1) m' σ' H') ∧ ∀ x H', J.yld i H x H' → g x σ H' fun σ2 H2 => tb { D with nx := N, ct := N, bk := D.nx } σ2 H2)
def tForR (wi : TI) (g : TG) (tb : TS) : TS := fun D σ H => wi σ H fun J H1 => ForR J g tb D σ H1
structure WhileR (c : TT) (tb : TS) (D : Ends) (σ : St) (H : Hp) : Prop where
  ex : tWhile c tb D σ H
theorem PI.weak {X : Cx} {tg iter : Expr} {wi : TI} (h : PI X tg iter wi) {pins : List (Addr × Obj)} {s : Shared} {σ : St} {H : Hp} {R R' : It → Hp → Prop} (I : Inv X pins σ H s) (hw : wi σ H R) (hR : ∀ J H1, R J H1 → R' J H1) :
    wpAny (model X.prog X.w) X.A (eval iter X.env) (fun v s1 => wpAny (model X.prog X.w) X.A (pyIter v) (PIE X pins σ tg R') X.xe s1) X.xe s := by
  refine thn (h pins s σ H R I hw) fun v s1 h1 => thn h1 fun itv s2 ⟨it, fp, tn, J, H', e, I', T, st, f, r⟩ => ?_
  exact ⟨it, fp, tn, J, H', e, I', T, st, f, hR J H' r⟩
section
variable {X : Cx} {scope : Scope} {x : Str} {M : List Str} {elt iter : Expr} {px pos : Pos} {te : TE} {wi : TI}
/-- the source of a comprehension or a loop, whose reading is of any form -/
theorem pi_conv {tg : Expr} {wi wi' : TI} (h : PI X tg iter wi) (hw : ∀ σ H R, wi' σ H R → ∃ R0, wi σ H R0 ∧ ∀ J H1, R0 J H1 → R J H1) : PI X tg iter wi' := by
  intro pins s σ H R I q
  obtain ⟨R0, q0, hR⟩ := hw σ H R q
  exact h.weak I q0 hR
theorem pe_compR (K : CompOk X scope x M) (hc : X.calm = true) (hi : PI X (.Name x px) iter wi) (he : ∀ (C : Addr) (s₂ : Shared) (H₂ : Hp) (fp : List Addr), PE (compCx X scope C x M s₂ H₂ fp) elt te)
    (hs : ∀ x, foldedSetIterable iter X.env x = pure x := by intro _; rfl) : PE X (.ListComp elt [⟨.Name x px, iter, [], 0⟩] scope pos) (tCompR wi te) := by
  intro pins s σ H Q I h
  have q := pe_comp (pos := pos) K hc (wi := fun σ0 H0 R0 => ∃ R, wi σ0 H0 R ∧ ∀ J H1, R J H1 → R0 J H1) (pi_conv hi fun σ H R ⟨R1, a, b⟩ => ⟨R1, a, b⟩) he hs pins s σ H Q I
  exact q ⟨_, h, fun J H1 r => r.ex⟩
theorem ps_forR {tg : Expr} {body : List Stmt} {g : TG} {tb : TS} (hp : PassesOwn (model X.prog X.w) X.A X.env X.xe) (hc : X.calm = true) (hi : PI X tg iter wi) (hg : PG X tg g) (hb : PSs X body tb)
    (hs : ∀ x, foldedSetIterable iter X.env x = pure x := by intro _; rfl) : PS X (.For tg iter body [] pos) (tForR wi g tb) := by
  intro pins s σ H D I h
  have q := ps_for (pos := pos) hp hc (wi := fun σ0 H0 R0 => ∃ R, wi σ0 H0 R ∧ ∀ J H1, R J H1 → R0 J H1) (pi_conv hi fun σ H R ⟨R1, a, b⟩ => ⟨R1, a, b⟩) hg hb hs pins s σ H D I
  exact q ⟨_, h, fun J H1 r => r.ex⟩
end

theorem comp_rangeR {lo : Int} {n : Nat} {te : TE} {σ : St} {H : Hp} {Q : VK} (hz : n ≤ sizeLine) (W : Nat → List V → Hp → Prop) (h0 : W 0 [] H)
    (hs : ∀ i ys H, i < n → ys.length = i → W i ys H → te (some (.int (lo + i)) :: σ) H fun v H' => W (i + 1) (ys ++ [v]) H')
    (hd : ∀ ys H, ys.length = n → W n ys H → ∀ p, H p = none → Q (.ref p) (upd H p (.lst ys))) : CompR (Itr lo n) te σ H Q := ⟨comp_range hz W h0 hs hd⟩
theorem for_listR {K : PySem.W.Frag} {a : Addr} {xs : List V} {g : TG} {tb : TS} {D : Ends} {σ : St} {H : Hp} (Pv : Nat → St → Hp → Prop) (h0 : Pv 0 σ H) (hl : ∀ i σ H, i ≤ xs.length → Pv i σ H → SqL K H a xs)
    (hs : ∀ i x σ H, xs[i]? = some x → Pv i σ H → g x σ H fun σ2 H2 => tb { D with nx := Pv (i + 1), ct := Pv (i + 1), bk := D.nx } σ2 H2) (hd : ∀ σ H, Pv xs.length σ H → D.nx σ H) : ForR (Itl K a) g tb D σ H := ⟨for_list Pv h0 hl hs hd⟩
theorem for_rangeR {lo : Int} {n : Nat} {g : TG} {tb : TS} {D : Ends} {σ : St} {H : Hp} (Pv : Nat → St → Hp → Prop) (h0 : Pv 0 σ H)
    (hs : ∀ i σ H, i < n → Pv i σ H → g (.int (lo + i)) σ H fun σ2 H2 => tb { D with nx := Pv (i + 1), ct := Pv (i + 1), bk := D.nx } σ2 H2) (hd : ∀ σ H, Pv n σ H → D.nx σ H) : ForR (Itr lo n) g tb D σ H := ⟨for_range Pv h0 hs hd⟩
theorem cutV_map {α : Type} (f : α → V) (l : List α) (lo hi : Option Int) : ∃ ms : List α, cutV (l.map f) lo hi = ms.map f ∧ (∀ m ∈ ms, m ∈ l) ∧ ms.length ≤ l.length := by
  refine ⟨(l.drop (HT.sIx (l.map f).length 0 lo)).take (HT.sIx (l.map f).length (l.map f).length hi - HT.sIx (l.map f).length 0 lo), ?_, fun m hm => ?_, ?_⟩
  · unfold cutV
    rw [List.map_take, List.map_drop]
  · exact List.mem_of_mem_drop (List.mem_of_mem_take hm)
  · rw [List.length_take, List.length_drop]; omega
theorem map_get {α : Type} {f : α → V} {l : List α} {i : Nat} {x : V} (h : (l.map f)[i]? = some x) : ∃ a, l[i]? = some a ∧ x = f a := by
  rw [List.getElem?_map] at h
  cases e : l[i]? with
  | none => rw [e] at h; cases h
  | some a => rw [e] at h; exact ⟨a, rfl, (Option.some.inj h).symm⟩

theorem kit_ty {K : PySem.W.Frag} {a b : String} {r : Bool} (h : (if (Value.type a == Value.type b) = true then some true else if PySem.W.kitMeta b = true then (fastBuiltinMro a).map (·.contains (Value.type b)) else none) = some r) : PySem.W.kitOne K (.type a) (.type b) = some r := h
end L2
/-! exceptions over the layer: an own class is raised, passes frames, is caught -/
namespace L2
open PySem PySem.Spec PyProof.Rows PySem.Calls

/-- how the heap behind an exception lies to that ahead of the call; B: all that stays as it is -/
structure XUn (outer : List Env) (H H' : Hp) (h B h1 : Heap) : Prop where
  keepB : ∀ b o, h.get? b = some o → H b = none → b ∉ frs outer → B.get? b = some o
  thereB : ∀ b o, h.get? b = some o → b ∉ frs outer → ∃ o', B.get? b = some o'
  slot : ∀ b o, h.get? b = some o → H b = none → b ∈ frs outer → ∃ sl, h1.get? b = some { o with slots := sl }
  free : ∀ b o, h.get? b = some o → H b = none → H' b = none
  tups : ∀ b xs, H b = some (.tup xs) → H' b = some (.tup xs)
  frzs : ∀ b o u, H b = some (.frz o u) → H' b = some (.frz o u)
  tbls : ∀ b ps, H b = some (.tbl ps) → ∃ more, H' b = some (.tbl (ps ++ more))
theorem XUn.step {outer : List Env} {H H' : Hp} {h B h1 h2 base : Heap} (x : XUn outer H H' h B h1) (fr : h1.FunFrames base outer) (up : h1.UpToSlots h2) : XUn outer H H' h B h2 :=
  ⟨x.keepB, x.thereB, fun b o e n hb => by
    obtain ⟨sl, q⟩ := x.slot b o e n hb
    obtain ⟨_, o', ho', hd'⟩ := fr.mem hb
    rw [q] at ho'; cases ho'
    obtain ⟨sl', q'⟩ := up b _ q hd'
    exact ⟨sl', q'⟩, x.free, x.tups, x.frzs, x.tbls⟩
theorem XUn.un {outer : List Env} {H H' : Hp} {h B h1 : Heap} (x : XUn outer H H' h B h1) (st : B.StaysIn h1) (fr : h1.FunFrames B outer) : Un (frs outer) [] H H' h h1 :=
  ⟨fun b o e n hb _ => st b o (x.keepB b o e n hb), fun b o e n hb _ => x.slot b o e n hb, fun b o e n _ => x.free b o e n, fun b o e _ => by
    by_cases hb : b ∈ frs outer
    · obtain ⟨_, o', ho', _⟩ := fr.mem hb
      exact ⟨o', ho'⟩
    · obtain ⟨o', q⟩ := x.thereB b o e hb
      exact ⟨o', st b o' q⟩, x.tups, x.frzs, x.tbls⟩

section
variable {P : Program} {w : World} {K : PySem.W.Frag} {mg : Str → Option Value} {base : Heap} {N : List Str} {qual : Str} {scope : Scope} {f : Addr} {cdv : Value} {A : Around} {outer : List Env} {s : Shared} {H : Hp} {E : XK}
end

/-! ### a def that may raise -/
section
variable {P : Program} {w : World} {K : PySem.W.Frag} {mg : Str → Option Value} {base : Heap}
end
end L2
namespace L2
open PySem PySem.Spec PyProof.Rows PySem.Calls PySem.W PySem.Builtin PySem.Builtin.ObjectAttr PySem.Builtin.Getset_descriptor

/-! ### the class of an object whose dict is not known -/
section
variable {prog : Program} {w : World} {A : Around} {E : Value → Shared → Prop} {s : Shared} {K : PySem.W.Frag} {x D : Addr}
def ClsAt (h : Heap) (x D : Addr) : Prop := ∃ o, h.get? x = some o ∧ o.cls = .ref D
theorem ClsAt.type {M : Model} {h : Heap} (p : ClsAt h x D) : Looks M h (typeOf (.ref x)) (.ref D) := by
  obtain ⟨o, e, c⟩ := p
  exact c ▸ (Looks.ld e).andThen .now
theorem looks_data {M : Model} {h : Heap} {name : Str} {a g : Value} (X : K.In h) (hf : findIn K (.ref D) name = some (some a)) (hg : specialIn K a "__get__" = some (some g)) (ht : takesIn K a = some true) : Looks M h (find (.ref x) (.ref D) name) (.bind g a) := by
  have l1 := looks_findIn (M := M) X hf
  have l2 : Looks M h (getOf (some a)) (some g) := looks_specialIn X hg
  have l3 := looks_takesIn (M := M) X ht
  refine l1.andThen (l2.andThen ?_)
  have l4 : Looks M h (dataDescriptor? (some a) (some g)) (some (g, a)) := l3.andThen .now
  exact l4.andThen (Looks.tag .now)
structure ExcCls (K : PySem.W.Frag) (D : Addr) : Prop where
  ga : findIn K (.ref D) "__getattribute__" = some (some (.builtin "BaseException.__getattribute__"))
  gk : findIn K (.ref D) "__getattr__" = some none
  cl : (clsIn K D).isSome = true
  ha : findIn K (.ref D) "__class__" = some (some (.builtin "object.__class__"))
  hn : specialIn K (.builtin "object.__class__") "__get__" = some (some (.builtin "getset_descriptor.__get__"))
  tk : takesIn K (.builtin "object.__class__") = some true
  mo : mroIn K D (.type "object") = some true
  mb : mroIn K D (.type "BaseException") = some true
theorem class_get {R : Result → Shared → Prop} (c : ExcCls K D) (X : K.In s.heap) (p : ClsAt s.heap x D) (q : R (.ok (.ret (.ref D))) s) :
    codeAny (model prog w) A (.call (.builtin "getset_descriptor.__get__") ⟨[.builtin "object.__class__", .ref x, .ref D], []⟩) R s := by
  obtain ⟨hh, g, d, t, os⟩ := s
  obtain ⟨o, eo, ec⟩ := id p
  have t0 := p.type (M := model prog w)
  have l1 := looks_mroIn (M := model prog w) X c.mo
  have arg0 := KF.args_gs (Value.builtin "object.__class__") (Value.ref x) (Value.ref D)
  refine codeAny_call_builtin KF.slot_gs.plain KF.entry_gs
    (KF.slot_gs.check _ _ _ _ _ _ _ _ KF.type_class arg0 ?_)
  unfold Builtin.«getset_descriptor.__get__»
    descrGet
  rw [dga_obj]; refine wpAny_bind (wpAny_pure ?_)
  unfold descrGetter descrCheckInstance
    descrNameAndClass isInstance
  simp only [KF.owner_class]; (repeat lk)
  refine ⟨Code.quiet_builtin _
    (by decide +kernel), codeAny_builtin KF.entry_class ?_⟩
  unfold Builtin.«object.__class__»
    shownTypeOf
  (repeat lk); exact q
theorem class_call {tk : Tok} {R : Result → Shared → Prop} (c : ExcCls K D) (X : K.In s.heap) (p : ClsAt s.heap x D) (q : R (.ok (.ret (.ref D))) s) :
    codeAny (model prog w) A (.call (.builtin "BaseException.__getattribute__") ⟨[.ref x, .str "__class__" tk], []⟩) R s := by
  obtain ⟨hh, g, d, t, os⟩ := s
  obtain ⟨o, eo, ec⟩ := id p
  have t0 := p.type (M := model prog w)
  have lb := looks_mroIn (M := model prog w) X c.mb
  have f0 := looks_data (x := x) (M := model prog w) X c.ha c.hn c.tk
  have hk : builtinKind "BaseException.__getattribute__" = some .slot := by decide +kernel
  have hsplit : splitId "BaseException.__getattribute__" = some ("BaseException", "__getattribute__") := by decide +kernel
  have ha := F.args_bexc_ga (.ref x) (.str "__class__" tk)
  refine codeAny_call_builtin F.excAttr_ValueError.ga.plain F.entry_bexc_ga ?_
  simp only [checkBuiltinCall, hk, hsplit]
  unfold isInstance
  refine wpAny_bind ?_
  (repeat (first | (with_reducible refine wpAny_call (class_get c X p ?_)) | lk))
  exact q
theorem class_of {Q : Option Value → Shared → Prop} (c : ExcCls K D) (X : K.In s.heap) (p : ClsAt s.heap x D) (q : Q (some (.ref D)) { s with toks := s.toks + 1 }) : wpAny (model prog w) A (getAttr? (.ref x) "__class__") Q E s := by
  obtain ⟨hh, g, d, t, os⟩ := s
  obtain ⟨o, eo, ec⟩ := id p
  have t0 := p.type (M := model prog w)
  have t1 := looks_findIn (M := model prog w) X c.ga
  have f1 := looks_findIn (M := model prog w) X c.gk
  have f3 := F.excAttr_ValueError.ga.bind (.ref x)
  unfold getAttr? getAttrBy? getAttrBy
  refine wpAny_bind (wpAny_mkText (wpAny_bind (wpAny_attempt (wpAny_holding (wpAny_bind (t0.at (wpAny_bind (t1.at ?_))))))))
  show wpAny _ _ (getAttrByItsOwn _ _ _ _ _ _) _ _ _
  unfold getAttrByItsOwn hookBefore
  refine wpAny_bind (f1.at (wpAny_bind (wpAny_attempt (wpAny_holding ?_))))
  show wpAny _ _ (boundAndCalled _ _ _) _ _ _
  unfold boundAndCalled
  rw [f3]
  refine wpAny_bind (wpAny_pure (wpAny_call ?_))
  refine class_call c (s := ⟨hh, g, d, t + 1, os⟩) X p ?_
  exact wpAny_pure (wpAny_pure q)
theorem kit_exc (c : ExcCls K D) : KitX K (.ref x) (.ref D) (fun h => ClsAt h x D) where
  ty := fun _ _ _ p => p.type
  it := fun _ _ X _ => by
    obtain ⟨cd, e⟩ := Option.isSome_iff_exists.mp c.cl
    unfold clsIn at e
    split at e
    · rename_i c' d' cd' sl' ho
      intro A' Q' E' s' k q
      unfold isType loadHead
      exact wpAny_bind (wpAny_loadPart (k _ _ (X _ _ ho)) (wpAny_pure q))
    · cases e
  ne := fun h tp dd its n sl X htp => by
    obtain ⟨cd, e⟩ := Option.isSome_iff_exists.mp c.cl
    refine Bool.eq_false_iff.mpr fun q => ?_
    have z : D = tp := Value.ref.inj (beq_iff_eq.mp q)
    subst z
    unfold clsIn at e
    split at e
    · rename_i c' d' cd' sl' ho
      have z := (X _ _ ho).symm.trans htp
      cases z
    · cases e
  ca := fun X p k => class_of c X p k
end

/-! ### isinstance, of exceptions too, against several classes too -/
/-- an exception object: its class -/
def excO (a D : Addr) : HO := .ext fun h => ClsAt h a D
inductive TyE (K : PySem.W.Frag) (H : Hp) : V → Value → Prop where
  | old {x : V} {t : Value} (h : TyOf K H x t) : TyE K H x t
  | exc {a D : Addr} (h : H a = some (excO a D)) (c : ExcCls K D) : TyE K H (.ref a) (.ref D)
  | tpl {a : Addr} {xs : List V} (h : SqT K H a xs) : TyE K H (.ref a) (.type "tuple")
def vVal : V → Value
  | .ref a => .ref a
  | .ty n => .type n
  | _ => .none
def isCls : V → Bool
  | .ref _ => true
  | .ty _ => true
  | _ => false
section
variable {X : Cx} {pins : List (Addr × Obj)} {σ : St} {H : Hp} {s : Shared} {A : Around} {E : Value → Shared → Prop} {Q : Value → Shared → Prop} {c : Value} {b : Bool}
theorem kit_of {x : V} {u t : Value} (I : Inv X pins σ H s) (rx : RelV x u) (ty : TyE X.K H x t) : (∃ P : Heap → Prop, KitX X.K u t P ∧ P s.heap) ∧ u ≠ .builtin "__main__.__loader__#opaque" := by
  cases ty with
  | @tpl a xs h =>
    cases (show u = Value.ref a from rx)
    obtain ⟨its, r, pl, hz⟩ := I.tuple h
    obtain ⟨o, h1, h2, _⟩ := pl
    exact ⟨⟨_, kitx_tuple, ⟨o, h1, h2⟩⟩, fun z => nomatch z⟩
  | old ty =>
    cases ty with
    | non => cases (show u = Value.none from rx); exact ⟨⟨_, kitx_none, True.intro⟩, fun z => nomatch z⟩
    | bl y => cases (show u = Value.bool y from rx); exact ⟨⟨_, kitx_bool, True.intro⟩, fun z => nomatch z⟩
    | int i => obtain ⟨t, q⟩ := (show ∃ t, u = Value.int i t from rx); cases q; exact ⟨⟨_, kitx_int, True.intro⟩, fun z => nomatch z⟩
    | str y => obtain ⟨t, q⟩ := (show ∃ t, u = Value.str y t from rx); cases q; exact ⟨⟨_, kitx_str, True.intro⟩, fun z => nomatch z⟩
    | flt y => obtain ⟨t, q⟩ := (show ∃ t, u = Value.float y t from rx); cases q; exact ⟨⟨_, kitx_float, True.intro⟩, fun z => nomatch z⟩
    | @lst a xs ea =>
      cases (show u = Value.ref a from rx)
      obtain ⟨_, _, n, _, h1⟩ := (show ObjOk X.prog X.w H s.heap a (.lst xs) from I.hok a _ ea)
      exact ⟨⟨_, kitx_list, ⟨_, h1, rfl⟩⟩, fun z => nomatch z⟩
    | @frz a ob xs ea =>
      cases (show u = Value.ref a from rx)
      obtain ⟨_, _, _, n, _, h1⟩ := (show ObjOk X.prog X.w H s.heap a (.frz ob (.lst xs)) from I.hok a _ ea)
      exact ⟨⟨_, kitx_list, ⟨_, h1, rfl⟩⟩, fun z => nomatch z⟩
    | @tup a xs ea =>
      cases (show u = Value.ref a from rx)
      obtain ⟨_, _, _, p⟩ := (show ObjOk X.prog X.w H s.heap a (.tup xs) from I.hok a _ ea)
      obtain ⟨o, h1, h2, _⟩ := p
      exact ⟨⟨_, kitx_tuple, ⟨o, h1, h2⟩⟩, fun z => nomatch z⟩
    | @dK a kvs ea =>
      cases (show u = Value.ref a from rx)
      obtain ⟨_, _, vs, _, p⟩ := (show ObjOk X.prog X.w H s.heap a (.dK kvs) from I.hok a _ ea)
      obtain ⟨o, es, ep, h1, h2, _⟩ := p
      exact ⟨⟨_, kitx_dict, ⟨o, h1, h2.1⟩⟩, fun z => nomatch z⟩
    | @dT a kvs ea =>
      cases (show u = Value.ref a from rx)
      obtain ⟨_, _, xs, _, o, es, ep, h1, h2, _⟩ := (show ObjOk X.prog X.w H s.heap a (.dT kvs) from I.hok a _ ea)
      exact ⟨⟨_, kitx_dict, ⟨o, h1, h2.1⟩⟩, fun z => nomatch z⟩
    | @ins a C dx fs ea cl ha hn htk hm =>
      cases (show u = Value.ref a from rx)
      obtain ⟨mA, O, _⟩ := ins_get I.hok ea
      obtain ⟨od, J, _⟩ := O.look
      exact ⟨⟨_, kitx_own (cl.get _) cl.hd ha hn htk hm, J⟩, fun z => nomatch z⟩
  | @exc a D h c =>
    cases (show u = Value.ref a from rx)
    obtain ⟨p, _⟩ := (show ObjOk X.prog X.w H s.heap a (excO a D) from I.hok a _ h)
    exact ⟨⟨_, kit_exc c, p⟩, fun z => nomatch z⟩
theorem vVal_rel {x : V} {u : Value} (h : isCls x = true) (r : RelV x u) : u = vVal x := by
  cases x with
  | ref a => exact r
  | ty n => exact r
  | _ => cases h
theorem call_isi : CallR X (.builtin "isinstance") (fun xs H Q => ∃ x y t b, xs = [x, y] ∧ isCls y = true ∧ TyE X.K H x t ∧ PySem.W.kitOne X.K t (vVal y) = some b ∧ Q (.bl b) H) := by
  intro pins s σ H xs us Q I r h
  obtain ⟨x, y, t, b, rfl, hc, ty, e, q⟩ := h
  obtain ⟨u, w', rfl, rx, ry⟩ := vals2 r
  obtain rfl := vVal_rel hc ry
  obtain ⟨⟨P, Z, p⟩, nb⟩ := kit_of I rx ty
  exact kia_one Z I.kIn p e nb fun tk => ⟨.bl b, H, I.tok _, rfl, q⟩
end
end L2
namespace L2
open PySem PySem.Spec PyProof.Rows PySem.Calls PySem.W

/-! ### raise C(..), C an own class of errors without an __init__ -/
section
variable {P : Program} {w : World} {K : PySem.W.Frag} {mg : Str → Option Value} {base : Heap} {N : List Str} {qual : Str} {scope : Scope} {f : Addr} {cdv : Value} {A : Around} {outer : List Env} {s : Shared} {H : Hp} {E : XK}
end

/-! ### what may raise, at one state of the names -/
abbrev TSx := Ends → (St → XK) → St → Hp → Prop
section
variable {X : Cx} {k : Nat} {f C : Addr} {fd : FuncData} {ps : List Str} {sp : Sp} {dvs : List V} {ds : List Value} {x m : Str} {p pos apos : Pos} {e o : Expr} {es : List Expr} {ta : TE} {t : TA}
theorem PA.nox {es : List Expr} {t : TA} (h : PA X.nox es t) (E : Value → Shared → Prop) {pos : Pos} {pins : List (Addr × Obj)} {s : Shared} {σ : St} {H : Hp} {Q : List V → Hp → Prop} (I : Inv X pins σ H s) (q : t σ H Q) :
    wpAny (model X.prog X.w) X.A (spliced (backTo pos (starEach es X.env))) (AP X pins σ Q) E s :=
  wpAny_mono (h pos pins s σ H Q (I.wish _) q) (fun _ _ ⟨vs, H', I', r, q⟩ => ⟨vs, H', I'.unwish, r, q⟩) fun _ _ z => False.elim z
end

/-! ### try: .. except C: .. -/
section
variable {X : Cx} {body suite : List Stmt} {b₀ : Stmt} {x : Str} {C : Addr} {np hpos pos : Pos} {tb : TSx} {th : TS}
end
end L2
namespace L2
open PySem PySem.Spec PyProof.Rows PySem.Calls PySem.W
section
variable {X : Cx} {pins : List (Addr × Obj)} {σ : St} {H : Hp} {s : Shared}
end
section
variable {X : Cx} {body suite : List Stmt} {b₀ : Stmt} {x n : Str} {C : Addr} {np hpos pos : Pos} {tb : TSx} {th : TS} {j : Nat}
end
end L2
namespace L2
open PySem PySem.Spec PyProof.Rows PySem.Calls
/-! ### methods of texts -/
section
variable {X : Cx}
/-- text * n -/
def repN (l : List Nat) : Nat → List Nat
  | 0 => []
  | k + 1 => repN l k ++ l
theorem repN_len (l : List Nat) : ∀ k, (repN l k).length = k * l.length
  | 0 => by simp [repN]
  | k + 1 => by rw [repN, List.length_append, repN_len l k, Nat.succ_mul]
theorem rep_is (x : Str) (k : Nat) : (⟨(List.replicate k x.cps).foldl (· ++ ·) #[]⟩ : Str) = S (repN (cd x) k) := by
  have g : ∀ k, (List.replicate k x.cps).foldl (· ++ ·) #[] = (repN (cd x) k).toArray := fun k => by
    induction k with
    | zero => rfl
    | succ k ih => rw [List.replicate_succ', List.foldl_append, ih]; show _ ++ x.cps = _; rw [repN]; apply Array.ext'; simp [cd]
  rw [g]; rfl
theorem op_mul_str : OpR X (binaryOp .Mult) (fun x y H Q => ∃ z n, x = .str z ∧ y = .int n ∧ 0 ≤ n ∧ n ≤ 1000000 ∧ z.length * n.toNat ≤ 1000000 ∧ z.length ≤ 1000000 ∧ Q (.str (S (repN (cd z) n.toNat))) H) := by
  intro pins s σ H x y v u Q I rx ry h
  obtain ⟨z, n, rfl, rfl, h0, h1, h2, h3, q⟩ := h
  obtain ⟨t, rfl⟩ := rx
  obtain ⟨t', rfl⟩ := ry
  have tl : Builtin.Str.tooLong (z.length * n.toNat) = false := by
    unfold Builtin.Str.tooLong
    exact decide_eq_false (by rw [sizeLine_eq]; omega)
  refine P.mul_str ?_ ?_ (fun _ _ => tl) ?_
  · rw [decide_eq_false (by omega), decide_eq_false (by omega)]; rfl
  · intro hn _ hgt
    have : (2 ^ 63 - 1 : Int) / n ≥ 1000000 := by
      have : (1000000 : Int) * n ≤ 2 ^ 63 - 1 := by omega
      exact Int.le_ediv_of_mul_le (by omega) this
    omega
  · have fin : ∀ y : Str, y = S (repN (cd z) n.toNat) → ∀ t tk, EP X pins σ Q (.str y t) { s with toks := tk } := fun y e t tk => by
      subst e; exact ⟨.str _, H, I.tok _, ⟨_, rfl⟩, q⟩
    by_cases hn : n < 1
    · rw [if_pos hn]
      have e0 : n = 0 := by omega
      subst e0
      exact ⟨by rw [sizeLine_eq]; exact Nat.zero_le _, fin _ rfl _ _⟩
    · rw [if_neg hn]
      by_cases h1 : (n == 1 || z.length == 0) = true
      · rw [if_pos h1]
        refine fin z ?_ t s.toks
        rcases Bool.or_eq_true_iff.mp h1 with e | e
        · have e' : n = 1 := by simpa using e
          subst e'
          show z = S (repN (cd z) 1)
          rw [show repN (cd z) 1 = cd z from by simp [repN], S_cd]
        · have e' : (cd z) = [] := List.eq_nil_of_length_eq_zero (by rw [← len_cd]; simpa using e)
          have : ∀ k, repN [] k = [] := fun k => by induction k with | zero => rfl | succ k ih => simp [repN, ih]
          rw [e', this, ← e', S_cd]
      · rw [if_neg h1]
        refine ⟨?_, fin _ (rep_is z n.toNat) _ _⟩
        rw [rep_is, len_S, repN_len, ← len_cd, sizeLine_eq, Nat.mul_comm]
        omega
end
end L2
namespace L2
open PySem PySem.Spec PyProof.Rows PySem.Calls
/-! ### a def with defaults: T their tuple, ds its items -/
structure FunD (K : PySem.W.Frag) (x qual : Str) (st : Stmt) (ds : List Value) (f : Addr) (fd : FuncData) : Prop where
  ex : ∃ (T : Addr) (oc : Value) (od : Option Addr) (kV doc pm : Value) (an : Option Addr) (cdv ct : Value) (osl : Array (Option Value)) (to : Obj) (n : Nat),
    fd = PySem.W.fnOf x qual (defArgs st) (defBody st) (defScope st) (.ref T) kV doc pm an cdv ct ∧ K.lookup f = some ⟨oc, od, .func fd, osl⟩ ∧ PySem.W.codeIn K cdv qual = true ∧ K.lookup T = some to ∧ to.cls = .type "tuple" ∧ to.data = .seq ds.toArray n
  kp : PySem.W.keepIn K (.ref f) = true
section
variable {P : Program} {w : World} {K : PySem.W.Frag} {mg : Str → Option Value} {base : Heap} {x qual : Str} {st : Stmt} {f : Addr} {fd : FuncData} {N ps : List Str} {k : Nat} {sp : Sp} {ds : List Value}
theorem FunD.ok (F : FunD K x qual st ds f fd) (S : FnScope N ps (defScope st)) (len : ∀ vs H Q E, sp vs H Q E → vs.length = ps.length)
    (hbody : ∀ (cdv : Value) (A : Around) (outer : List Env) (s : Shared) (H : Hp) (vs : List V) (Q : VK) (E : XK), Room k (A.deeper (envOfC qual (defScope st) s.heap.objs.size f cdv)) → sp vs H Q E →
      ∃ t, PSs (cxOf CX0 P w K mg base N qual (defScope st) f cdv A outer s H E).nox (defBody st) t ∧ t { nx := fun _ H' => Q .non H', rt := Q } (start N vs) H) : FnOk P w K mg base CX0 (k + 1) f fd ps sp := by
  obtain ⟨T, oc, od, kV, doc, pm, an, cdv, ct, osl, to, n, rfl, lk, hcd, _⟩ := F.ex
  refine fn_of lk hcd S len fun A outer s H vs Q E hr hsp => ?_
  obtain ⟨t, h, q⟩ := hbody cdv A outer s H vs Q E hr hsp
  exact ⟨t, h.nox, q⟩
/-- its arguments bind: es the defaults that fill up -/
theorem FunD.binds {es : List Value} (F : FunD K x qual st ds f fd)
    (h : ∀ (T : Addr) (kV doc pm : Value) (an : Option Addr) (cdv ct : Value) (us : List Value) (M : Model) (A : Around) (E : Value → Shared → Prop) (Q : List (Str × Value) → Shared → Prop) (s : Shared) (to : Obj) (n : Nat), s.heap.get? T = some to → to.cls = .type "tuple" → to.data = .seq ds.toArray n →
      (us ++ es).length = ps.length → Q (ps.zip (us ++ es)) s → wpAny M A (bindArgs (PySem.W.fnOf x qual (defArgs st) (defBody st) (defScope st) (.ref T) kV doc pm an cdv ct) ⟨us, []⟩) Q E s) : Binds K fd ps es := by
  obtain ⟨T, oc, od, kV, doc, pm, an, cdv, ct, osl, to, n, rfl, lk, hcd, lt, tc, td⟩ := F.ex
  intro s us X hl M A E Q q
  exact h T kV doc pm an cdv ct us M A E Q s to n (X _ _ lt) tc td hl q
end

/-! ### classes of the text: who stands under whom -/
section
variable {K : PySem.W.Frag} {C D : Addr} {cd : ClassData} {r b : Bool} {T : String}
end
end L2
/-! written numbers, as lists of codes -/
namespace L2
open PySem PySem.Spec PyProof.Rows
/-- what figures are worth -/
def val (l : List Nat) : Int := l.foldl (fun a c => a * 10 + ((c - 48 : Nat) : Int)) 0
/-! ### the first sign -/
/-- texts that are not long, of signs that are common -/
structure Fine (n : Nat) (z : Str) : Prop where
  len : z.length ≤ n
  cod : ∀ c ∈ cd z, c < 1000
theorem Fine.mono {n m : Nat} {z : Str} (h : Fine n z) (l : n ≤ m) : Fine m z := ⟨Nat.le_trans h.len l, h.cod⟩
theorem Fine.size {n : Nat} {z : Str} (h : Fine n z) (hn : n ≤ 100000 := by decide) : z.length ≤ sizeLine := by rw [sizeLine_eq]; have := h.len; omega
theorem Fine.int {i : Int} {k : Nat} (hk : 0 < k) (h : i.natAbs < 10 ^ k) : Fine (k + 1) (toString i) := by
  refine ⟨?_, fun c hc => ?_⟩
  · rw [show ((toString i : String) : Str).length = (toString i).length from PySem.ofString_length _]
    exact int_text_length_le10 hk h
  · rcases Nat.lt_or_ge c 1000 with z | z
    · exact z
    · exact absurd hc (int_text_free' c ⟨by omega, by omega⟩ i)
end L2
/-! equality of values, lists and tuples too -/
namespace L2
open PySem PySem.Spec PyProof.Rows PySem.Calls
/-- x == y is b, x != y is not b; by items (the same, or equal) it is b -/
structure EqJ (X : Cx) (H : Hp) (n : Nat) (x y : V) (b : Bool) : Prop where
  rc : ∀ (pins : List (Addr × Obj)) (s : Shared) (σ : St) (u v : Value) (A : Around), Inv X pins σ H s → RelV x u → RelV y v → A.units + n < cLine → SeqAt.RcAt A s u v b
  ne : ∀ (pins : List (Addr × Obj)) (s : Shared) (σ : St) (u v : Value) (A : Around), Inv X pins σ H s → RelV x u → RelV y v → A.units + n < cLine → SeqAt.RcNeAt A s u v (!b)
def EqJi (X : Cx) (H : Hp) (n : Nat) (x y : V) (b : Bool) : Prop :=
  ∀ (pins : List (Addr × Obj)) (s : Shared) (σ : St) (u v : Value) (A : Around), Inv X pins σ H s → RelV x u → RelV y v → A.units + n < cLine → SeqAt.EqAt A s u v b
section
variable {X : Cx} {H : Hp} {n : Nat} {x y : V} {b : Bool} {p q : Addr} {xs ys : List V}
theorem eqi_same : EqJi X H n (.ref p) (.ref p) true := fun _ _ _ _ _ _ _ rx ry _ => by cases rx; cases ry; exact SeqAt.EqAt.same _
theorem vals_at {xs : List V} {us : List Value} (r : Vals xs us) {j : Nat} (h : j < us.toArray.size) : ∃ x, xs[j]? = some x ∧ RelV x us.toArray[j] := by
  have hj : j < us.length := by simpa using h
  have hx : j < xs.length := by rw [r.length]; exact hj
  obtain ⟨u, hu, ru⟩ := r.get (List.getElem?_eq_getElem hx)
  refine ⟨xs[j], List.getElem?_eq_getElem hx, ?_⟩
  rw [List.getElem?_eq_getElem hj] at hu
  cases hu
  simpa using ru
theorem eqj_lists {e : Nat → Bool} (h : SqL X.K H p xs) (k : SqL X.K H q ys) (hl : xs.length = ys.length) (he : ∀ (j : Nat) x y, xs[j]? = some x → ys[j]? = some y → EqJi X H n x y (e j)) :
    EqJ X H (n + 1) (.ref p) (.ref q) ((List.range xs.length).all e) := by
  have g : ∀ (pins : List (Addr × Obj)) (s : Shared) (σ : St) (A : Around), Inv X pins σ H s → A.units + (n + 1) < cLine → ∃ its its' : List Value, s.heap.IsList p its.toArray ∧ s.heap.IsList q its'.toArray ∧ its.toArray.size = its'.toArray.size ∧ its.toArray.size = xs.length ∧
      ∀ j (h1 : j < its.toArray.size) (h2 : j < its'.toArray.size), SeqAt.EqAt A.in1 s its.toArray[j] its'.toArray[j] (e j) := fun pins s σ A I hu => by
    obtain ⟨its, r, pl, _⟩ := I.list h
    obtain ⟨its', r', pl', _⟩ := I.list k
    have l1 := r.length
    have l2 := r'.length
    refine ⟨its, its', pl.isList, pl'.isList, by simp only [List.size_toArray]; omega, by simp only [List.size_toArray]; omega, fun j h1 h2 => ?_⟩
    obtain ⟨x, hx, rx⟩ := vals_at r h1
    obtain ⟨y, hy, ry⟩ := vals_at r' h2
    exact he j x y hx hy pins s σ _ _ A.in1 I rx ry (by show A.units + 1 + n < _; omega)
  refine ⟨fun pins s σ u v A I rx ry hu => ?_, fun pins s σ u v A I rx ry hu => ?_⟩ <;> (cases rx; cases ry; have hu' : A.units < cLine := by omega)
  · obtain ⟨its, its', a, b, c, d, z⟩ := g pins s σ A I hu
    rw [← d]; exact SeqAt.RcAt.lists a b c hu' z
  · obtain ⟨its, its', a, b, c, d, z⟩ := g pins s σ A I hu
    rw [← d]; exact SeqAt.RcNeAt.lists a b c hu' z
theorem eqj_lists_len (h : SqL X.K H p xs) (k : SqL X.K H q ys) (hl : xs.length ≠ ys.length) : EqJ X H (n + 1) (.ref p) (.ref q) false := by
  refine ⟨fun pins s σ u v A I rx ry hu => ?_, fun pins s σ u v A I rx ry hu => ?_⟩ <;> (cases rx; cases ry; have hu' : A.units < cLine := by omega)
  · obtain ⟨its, r, pl, _⟩ := I.list h
    obtain ⟨its', r', pl', _⟩ := I.list k
    exact SeqAt.RcAt.lists_lengths pl.isList pl'.isList (by rw [List.size_toArray, List.size_toArray, ← r.length, ← r'.length]; simpa using hl) hu'
  · obtain ⟨its, r, pl, _⟩ := I.list h
    obtain ⟨its', r', pl', _⟩ := I.list k
    exact SeqAt.RcNeAt.lists_lengths pl.isList pl'.isList (by rw [List.size_toArray, List.size_toArray, ← r.length, ← r'.length]; simpa using hl) hu'
/-- == and != of anything -/
theorem op_eqJ (hu : X.A.units + 20 < cLine) : OpR X (compareOp .Eq) (fun x y H Q => ∃ b, EqJ X H 20 x y b ∧ Q (.bl b) H) := by
  intro pins s σ H x y v u Q I rx ry h
  obtain ⟨b, e, q⟩ := h
  exact e.rc pins s σ v u X.A I rx ry hu X.prog X.w X.xe _ ⟨.bl b, H, I, rfl, q⟩
theorem op_neJ (hu : X.A.units + 20 < cLine) : OpR X (compareOp .NotEq) (fun x y H Q => ∃ b, EqJ X H 20 x y b ∧ Q (.bl (!b)) H) := by
  intro pins s σ H x y v u Q I rx ry h
  obtain ⟨b, e, q⟩ := h
  exact e.ne pins s σ v u X.A I rx ry hu X.prog X.w X.xe _ ⟨.bl (!b), H, I, rfl, q⟩
theorem hu20 {A : Around} {k : Nat} (hr : Room k A) : A.units + 20 < cLine := by have := hr.units; omega
end
end L2
/-! classes: methods by the class of what is at hand, a base's __init__, is True, in, index -/
namespace L2
open PySem PySem.Spec PyProof.Rows PySem.Calls
section
variable {P : Program} {w : World} {K : PySem.W.Frag} {mg : Str → Option Value} {base : Heap}
/-- a method m of the class at C -/
structure MethJ (P : Program) (w : World) (K : PySem.W.Frag) (mg : Str → Option Value) (base : Heap) (CX : CXT) (k : Nat) (C : Addr) (m : Str) where
  f : Addr
  fd : FuncData
  ps : List Str
  sp : Sp
  ds : List Value
  dvs : List V
  c : Cls K C
  hm : Meth K C m f
  F : FnOk P w K mg base CX k f fd ps sp
  hb : Binds K fd ps ds
  hd : Vals dvs ds
end
section
variable {X : Cx} {CX : CXT} {k : Nat} {E : XK} {m : Str} {pos apos : Pos} {e o : Expr} {es : List Expr} {ta : TE} {t : TA}
/-- C.m(self, ..): a def of the class by its name -/
structure ClsFn (K : PySem.W.Frag) (C : Addr) (m : Str) (f : Addr) : Prop where
  rd : PySem.W.readsIn K C (.type "type") = true
  at_ : PySem.W.findCls K (.ref C) (.type "type") m = some (.val (.ref f))
  sp : PySem.W.specialIn K (.ref C) "__getattribute__" = some (some (.builtin "type.__getattribute__"))
  kp : PySem.W.keepIn K (.ref f) = true
end
end L2
/-! numbers as texts; blanks left out -/
namespace L2
open PySem PySem.Spec PyProof.Rows
/-! ### strip -/
/-! ### figures of a number -/
end L2
namespace L2
open PySem PySem.Spec PyProof.Rows PySem.Calls
section
variable {X : Cx}
end
/-! ### fields -/
theorem lk0 {f a b : Str} {v w : V} (h1 : (f == a) = false) (h2 : (f == b) = false) : ([(a, v), (b, w)] : List (Str × V)).lookup f = none := by
  rw [List.lookup_cons, h1, List.lookup_cons, h2]; rfl
theorem iteN {c : Bool} {A B : Prop} (h : c = false) (q : B) : if c = true then A else B := by subst h; exact iteF q
/-- what a thing is, to isinstance -/
structure Thing (K : PySem.W.Frag) (H : Hp) (x : V) where
  t : Value
  bi : Bool
  bb : Bool
  bs : Bool
  ty : TyE K H x t
  ki : PySem.W.kitOne K t (.type "int") = some bi
  kb : PySem.W.kitOne K t (.type "bool") = some bb
  ks : PySem.W.kitOne K t (.type "str") = some bs
  hi : (bi && !bb) = true → ∃ n, x = .int n
  hs : bs = true → ∃ z, x = .str z
  ni : ∀ n, x = .int n → (bi && !bb) = true
  ns : ∀ z, x = .str z → bs = true
  hbl : bb = true → ∃ b, x = .bl b
  nbl : ∀ b, x = .bl b → bb = true
theorem Same.seqT {K : PySem.W.Frag} {H H' : Hp} {a : Addr} {xs : List V} (e : Same H H') (h : SqT K H a xs) : SqT K H' a xs := by
  rcases h with h | h
  · exact .inl (h.imp (fun k => e _ _ k) (fun ⟨o, k⟩ => ⟨o, e _ _ k⟩))
  · exact .inr h
theorem Same.tyE' {K : PySem.W.Frag} {H H' : Hp} {x : V} {t : Value} (e : Same H H') (h : TyE K H x t) : TyE K H' x t := by
  cases h with
  | old h => exact .old (e.ty h)
  | exc h c => exact .exc (e _ _ h) c
  | tpl h => exact .tpl (e.seqT h)
def Thing.same {K : PySem.W.Frag} {H H' : Hp} {x : V} (h : Thing K H x) (e : Same H H') : Thing K H' x := ⟨h.t, h.bi, h.bb, h.bs, e.tyE' h.ty, h.ki, h.kb, h.ks, h.hi, h.hs, h.ni, h.ns, h.hbl, h.nbl⟩
theorem Same.upd {H H' : Hp} {p : Addr} {o : HO} (e : Same H H') (h : H p = none ∨ H p = some o) : Same H (L2.upd H' p o) := fun b u q => by
  by_cases z : b = p
  · subst z
    rcases h with h | h
    · rw [h] at q; cases q
    · rw [h] at q; rw [upd_same]; exact q
  · rw [upd_ne z]; exact e b u q
end L2
/-! written whole numbers: what the laws ask of them -/
namespace L2
open PySem PySem.Spec PyProof.Rows
end L2
/-! a table of the module, asked by get; in, where it is asked of lists and tuples too; index; split -/
namespace L2
open PySem PySem.Spec PyProof.Rows PySem.Calls
theorem pe_eqv {X : Cx} {e : Expr} {te te' : TE} (h : PE X e te') (h2 : te' = te) : PE X e te := h2 ▸ h
section
variable {X : Cx}
end
end L2
/-! sets of texts, made of a tuple; a text cut at blanks -/
namespace L2
open PySem PySem.Spec PyProof.Rows PySem.Calls
section
variable {prog : Program} {w : World} {A : Around} {R : Result → Shared → Prop} {I : Addr} {fp wr : List Addr} {G : Array GenState → Array GenState → Prop} {n : Nat} {P : Nat → Value → Prop} {St : Nat → Shared → Prop}
end

section
variable {prog : Program} {w : World} {A : Around} {E : Value → Shared → Prop} {s : Shared}
end
section
variable {X : Cx}
end
end L2
namespace L2
open PySem PySem.Spec PyProof.Rows PySem.Calls
section
variable {X : Cx}
end
/-! parts between blanks -/
end L2
namespace HT
open PySem PySem.Spec PyProof.Rows PySem.Calls
section
variable {prog : Program} {w : World} {A : Around} {E : Value → Shared → Prop} {s : Shared}
end
end HT
namespace L2
open PySem PySem.Spec PyProof.Rows PySem.Calls
section
variable {X : Cx}
end
end L2
/-! comprehensions with a target of two names, and with a test -/
namespace L2
open PySem PySem.Spec PyProof.Rows PySem.Calls
/-- the tests of a comprehension -/
def PIfs (X : Cx) (ifs : List Expr) (t : TT) : Prop :=
  ∀ (pins : List (Addr × Obj)) (s : Shared) (σ : St) (H : Hp) (Q : Bool → Hp → Prop), Inv X pins σ H s → t σ H Q →
    wpAny (model X.prog X.w) X.A (forIn ifs true fun c r => if r = true then do let ok ← isTrue c X.env (eval c X.env); pure (ForInStep.yield ok) else pure (ForInStep.yield r)) (TP X pins σ Q) X.xe s
def tTrue : TT := fun _ H Q => Q true H
theorem pifs_nil {X : Cx} : PIfs X [] tTrue := fun pins s σ H Q I h => wpAny_pure ⟨H, I, h⟩
theorem compLoop_go2 {prog : Program} {w : World} {A : Around} {R : Result → Shared → Prop} {s : Shared} {elt target iter : Expr} {ifs : List Expr} {scope : Scope} {pos : Pos} {it acc : Value} {env : Env} (I : Nat → Shared → Prop)
    (turn : ∀ n s, I n s → wpAny (model prog w) A (pyNext it) (fun r s₁ => match r with
      | none => R (.ok .next) s₁
      | some v => wpAny (model prog w) A (letOwnedTupleGo target it v) (fun _ s₂ => wpAny (model prog w) A (assign target env v) (fun _ s₃ =>
          wpAny (model prog w) A (forIn ifs true fun c r => if r = true then do let ok ← isTrue c env (eval c env); pure (ForInStep.yield ok) else pure (ForInStep.yield r)) (fun ok s₄ =>
            if ok = true then wpAny (model prog w) A (eval elt env) (fun x s₅ =>
              wpAny (model prog w) A (call (.builtin "list.append") [acc, x]) (fun _ s₆ => ∃ m, m < n ∧ I m s₆) (notedBy (model prog w) A env fun e s' => R (.error e) s') s₅)
              (notedBy (model prog w) A env fun e s' => R (.error e) s') s₄ else ∃ m, m < n ∧ I m s₄)
            (notedBy (model prog w) A env fun e s' => R (.error e) s') s₃) (notedBy (model prog w) A env fun e s' => R (.error e) s') s₂) (notedBy (model prog w) A env fun e s' => R (.error e) s') s₁)
      (notedBy (model prog w) A env fun e s' => R (.error e) s') s)
    (n : Nat) (h : I n s) : codeAny (model prog w) A (.compLoop (.ListComp elt [⟨target, iter, ifs, 0⟩] scope pos) 0 it acc env) R s := by
  refine codeAny_loop rfl I (fun n s hI => ?_) n h
  show wpAny _ A ((compTurn (.ListComp elt [⟨target, iter, ifs, 0⟩] scope pos) 0 it acc env).onRaise (fun x => do noteFrame x env; theTreesLotGoes x)) _ _ s
  refine wpAny_noted ?_
  rw [compTurn_list]
  refine wpAny_bind (wpAny_standAt (wpAny_bind (wpAny_mono (turn n s hI) (fun r s₁ h₁ => ?_) fun _ _ h' => h')))
  cases r with
  | none => exact wpAny_pure h₁
  | some v =>
    refine wpAny_bind (wpAny_mono h₁ (fun _ s₂ h₂ => wpAny_bind (wpAny_mono h₂ (fun _ s₃ h₃ => ?_) fun _ _ h' => h')) fun _ _ h' => h')
    refine wpAny_bind (wpAny_mono h₃ (fun ok s₄ h₄ => ?_) fun _ _ h' => h')
    cases ok with
    | false => exact wpAny_pure ⟨rfl, h₄⟩
    | true => exact wpAny_bind (wpAny_bind (wpAny_mono h₄ (fun x s₅ h₅ => wpAny_bind (wpAny_mono h₅ (fun _ s₆ h₆ => wpAny_pure (wpAny_pure ⟨rfl, h₆⟩)) fun _ _ h' => h')) fun _ _ h' => h'))
/-- the context of the block: the variables x, y, then the names of the def around -/
def compCx2 (X : Cx) (scope : Scope) (C : Addr) (x y : Str) (M : List Str) (s₂ : Shared) (H₂ : Hp) (fp : List Addr) : Cx :=
  { X with N := x :: y :: M, s₀ := s₂, H₀ := H₂, env := compEnvC scope (clOf X.env scope.names []) C X.env, outer := X.stack, ex := fp, fn := fun _ => false, pn := [], xe := fun _ _ => False }
structure CompOk2 (X : Cx) (scope : Scope) (x y : Str) (M : List Str) : Prop where
  base : CompOk X scope x M
  loc2 : scope.names.lookup y = some .local
  nd2 : (x :: y :: M).Nodup
theorem compOk2_of {X : Cx} {scope : Scope} {x y : Str} {M : List Str} (h : CompOk X scope x M) (h1 : scope.names.lookup y = some .local) (h2 : (x :: y :: M).Nodup) : CompOk2 X scope x y M := ⟨h, h1, h2⟩
section
variable {X : Cx} {scope : Scope} {x y : Str} {M : List Str} {pins : List (Addr × Obj)} {σ : St} {H₂ : Hp} {s₂ : Shared} {elt iter tg : Expr} {ifs : List Expr} {pos : Pos} {te : TE} {wi : TI} {g : TG} {tc : TT}
theorem inv_comp2 (K : CompOk2 X scope x y M) (I : Inv X pins σ H₂ s₂) {fp : List Addr} (hf : ∀ b ∈ fp, FpOk X pins H₂ b) (hfl : ∀ b ∈ fp, b < s₂.heap.objs.size) {C : Addr} (hC : s₂.heap.objs.size ≤ C) {h₁ : Heap} {t : Nat} {m : Str → Option Value} (hn : h₁.Ns C m)
    (hk : ∀ b o, s₂.heap.get? b = some o → h₁.get? b = some o) : Inv (compCx2 X scope C x y M s₂ H₂ fp) [] (none :: none :: σ) H₂ { s₂ with heap := h₁, toks := t } := by
  have I1 := inv_comp (t := t) K.base I hf hfl hC hn hk
  have ok : (compCx2 X scope C x y M s₂ H₂ fp).Ok := by
    obtain ⟨a1, a2, a3, a4, a5, a6, a7, a8, a9, a10, a11, a12, a13, a14, a15, a16, a17, a18⟩ := I1.ok
    exact ⟨a1, a2, a3, a4, a5, a6, a7, a8, a9, a10, a11, a12, a13, a14, a15, a16, a17, a18⟩
  obtain ⟨m', ns', lo⟩ := I1.loc
  refine ⟨ok, I1.os, I1.bare, I1.base, ⟨m', ns', fun i z v e1 e2 e3 => ?_⟩, I1.cell, I1.free, I1.freeC, I1.pin, I1.hok, ?_⟩
  · match i, e1, e2 with
    | 0, _, e2 => cases e2
    | 1, _, e2 => cases e2
    | j + 2, e1, e2 => exact lo (j + 1) z v e1 e2 e3
  · have := I1.len
    show (none :: none :: σ).length = (x :: y :: M).length
    have h2 : (none :: σ).length = (x :: M).length := this
    simp only [List.length_cons] at h2 ⊢
    omega
def tComp2 (wi : TI) (g : TG) (tc : TT) (te : TE) : TE := fun σ H Q => wi σ H fun J H1 => ∃ (n : Nat) (W : Nat → List V → Hp → Prop), n ≤ sizeLine ∧ W 0 [] H1 ∧ ∀ i ys H, i ≤ n → ys.length ≤ i → W i ys H →
  (J.stop i H ∧ ∀ p, H p = none → Q (.ref p) (upd H p (.lst ys))) ∨ (J.go i H ∧ i < n ∧ ∀ x H', J.yld i H x H' → ∀ u v, g x (u :: v :: σ) H' fun ρ H2 => (∃ u' v', ρ = u' :: v' :: σ) ∧ tc ρ H2 fun c H3 => if c = true then te ρ H3 fun z H4 => W (i + 1) (ys ++ [z]) H4 else W (i + 1) ys H3)
theorem comp_block2 (K : CompOk2 X scope x y M) (hc : X.calm = true) (I : Inv X pins σ H₂ s₂) (hg : ∀ (C : Addr) (s₂ : Shared) (H₂ : Hp) (fp : List Addr), PG (compCx2 X scope C x y M s₂ H₂ fp) tg g) (ht : ∀ (C : Addr) (s₂ : Shared) (H₂ : Hp) (fp : List Addr), PIfs (compCx2 X scope C x y M s₂ H₂ fp) ifs tc) (he : ∀ (C : Addr) (s₂ : Shared) (H₂ : Hp) (fp : List Addr), PE (compCx2 X scope C x y M s₂ H₂ fp) elt te)
    {it : Addr} {fp : List Addr} {tn : Nat → Heap → Prop} {J : It} (T : Turn X.prog X.w X.K tg J fp it tn) (st : tn 0 s₂.heap) (hf : ∀ b ∈ fp, FpOk X pins H₂ b) {n : Nat} (hsz : n ≤ sizeLine) {W : Nat → List V → Hp → Prop} {F : List V → Hp → Prop}
    (w0 : W 0 [] H₂) (turn : ∀ i ys H, i ≤ n → ys.length ≤ i → W i ys H → (J.stop i H ∧ F ys H) ∨ (J.go i H ∧ i < n ∧ ∀ x H', J.yld i H x H' → ∀ u v, g x (u :: v :: σ) H' fun ρ H2 => (∃ u' v', ρ = u' :: v' :: σ) ∧ tc ρ H2 fun c H3 => if c = true then te ρ H3 fun z H4 => W (i + 1) (ys ++ [z]) H4 else W (i + 1) ys H3))
    {E : Value → Shared → Prop} {RR : Value → Addr → Result → Shared → Prop}
    (hRR : ∀ (D C : Addr) (s' : Shared) (H' : Hp) (ys : List V) (m : Str → Option Value), Inv X pins σ (upd H' D (.lst ys)) s' → H' D = none → FpOk X pins (upd H' D (.lst ys)) C → s'.heap.Ns C m → F ys H' → RR (.ref D) C (.ok .next) s') :
    wpAny (model X.prog X.w) X.A (newList []) (fun acc s₃ => wpAny (model X.prog X.w) X.A (newFunctionEnv scope X.env.globals (clOf X.env scope.names []) [] X.env.qual none .none (some X.env)) (fun cenv s₄ =>
      codeAny (model X.prog X.w) X.A (.compStart (.ListComp elt [⟨tg, iter, ifs, 0⟩] scope pos) 0 (.ref it) acc { cenv with scope := relabel scope X.env }) (RR acc cenv.locals) s₄) E s₃) E s₂ := by
  refine wpAny_newObj_type (wpAny_newFunctionEnv K.base.cell (by intro y hy; simp at hy) (fun h₁ hns₁ hsb₁ => ?_) K.base.kind)
  dsimp only at hns₁ hsb₁ ⊢
  generalize hH2 : s₂.heap.push { cls := .type "list", dict := none, data := .seq ([] : List Value).toArray } = H2 at hns₁ hsb₁ ⊢
  have hC : H2.objs.size = s₂.heap.objs.size + 1 := by rw [← hH2, Heap.size_push]
  have hDC : s₂.heap.objs.size ≠ H2.objs.size := by rw [hC]; exact Nat.ne_of_lt (Nat.lt_succ_self _)
  have below : ∀ b, b < s₂.heap.objs.size → b ≠ H2.objs.size ∧ b ≠ s₂.heap.objs.size := fun b hb => ⟨by rw [hC]; exact Nat.ne_of_lt (Nat.lt_succ_of_lt hb), Nat.ne_of_lt hb⟩
  have hfl : ∀ b ∈ fp, b < s₂.heap.objs.size := fun b hb => by obtain ⟨o, e, _⟩ := T.obj _ _ st b hb; exact Heap.lt_size e
  have old : ∀ b o, s₂.heap.get? b = some o → h₁.get? b = some o := fun b o e => hsb₁.extBut b o (below b (Heap.lt_size e)).1 (Heap.get?_push_of_some _ (hH2 ▸ Heap.get?_push_of_some _ e))
  have hacc : h₁.get? s₂.heap.objs.size = some { cls := .type "list", data := .seq ([] : List Value).toArray 0 } := hsb₁.extBut _ _ hDC (Heap.get?_push_of_some _ (hH2 ▸ Heap.get?_push_size _ rfl))
  generalize hCC : H2.objs.size = C at *
  generalize hDD : s₂.heap.objs.size = D at *
  have hCle : s₂.heap.objs.size ≤ C := by rw [hDD, hC]; exact Nat.le_succ _
  have st₁ : tn 0 h₁ := T.keep _ _ _ st fun b _ o e => old b o e
  have I₁ := inv_comp2 (t := s₂.toks + ([] : List (Str × Value)).length) K I hf (fun b hb => by rw [hDD]; exact hfl b hb) hCle hns₁ old
  -- the context of the block
  generalize hX' : compCx2 X scope C x y M s₂ H₂ fp = X' at I₁
  have eX : X'.prog = X.prog ∧ X'.w = X.w ∧ X'.K = X.K ∧ X'.calm = true ∧ X'.A = X.A ∧ X'.ex = fp ∧ X'.env = compEnvC scope (clOf X.env scope.names []) C X.env ∧ X'.s₀ = s₂ ∧ X'.pn = [] := by
    subst hX'; exact ⟨rfl, rfl, rfl, hc, rfl, rfl, rfl, rfl, rfl⟩
  obtain ⟨eP, ew, eK, ec, eA, eex, eenv, es0, epn⟩ := eX
  have eL : X'.env.locals = C := by rw [eenv]; rfl
  have cells' : ∀ y c, X'.env.cells.lookup y = some c → X.env.cells.lookup y = some c := fun y c e => by rw [eenv] at e; exact CompOk.cl_of e
  have efs : X'.fs = frs X.stack := by subst hX'; rfl
  have fsub : ∀ b ∈ X'.fs, b = X.env.locals ∨ b ∈ X.fs := fun b hb => List.mem_cons.mp (I.stkSub b (by rw [← efs]; exact hb))
  -- the iterator's records, the list: ours to turn
  have fpok : ∀ {pn : List (Addr × Obj)} {H' : Hp}, (∀ p ∈ pn, p.1 = D) → (∀ b ∈ fp, H' b = none) → ∀ b ∈ fp, FpOk X' pn H' b := fun {pn H'} hp hn b hb => by
    refine ⟨hn b hb, ?_, fun z => ?_, .inl (by rw [eex]; exact hb), fun y c e => (hf b hb).2.2.2.2.1 y c (cells' y c e), fun p hq => ?_⟩
    · rw [eL]; exact (below b (hfl b hb)).1
    · rcases fsub b z with q | q
      · exact (hf b hb).2.1 q
      · exact (hf b hb).2.2.1 q
    · rw [epn, List.nil_append] at hq
      rw [hp p hq]; exact Ne.symm (below b (hfl b hb)).2
  have Dfp : D ∉ fp := fun z => Nat.lt_irrefl _ (hfl D z)
  have ltL : X.env.locals < D := by have := I.lt; rw [hDD] at this; exact this
  have ltF : ∀ b ∈ X.fs, b < D := fun b hb => Nat.lt_of_not_le fun z => I.nofs (a := b) (by rw [hDD]; exact z) hb
  have newok : ∀ {b : Addr} {pn : List (Addr × Obj)} {H' : Hp}, D ≤ b → b ≠ C → H' b = none → (∀ p ∈ pn, p.1 ≠ b) → FpOk X' pn H' b := fun {b pn H'} hb hbC hn hp => by
    refine ⟨hn, by rw [eL]; exact hbC, fun z => ?_, .inr (by rw [es0, hDD]; exact hb), fun y c e => ?_, fun p hq => ?_⟩
    · rcases fsub b z with q | q
      · rw [q] at hb; exact absurd (Nat.lt_of_lt_of_le ltL hb) (Nat.lt_irrefl _)
      · exact absurd (Nat.lt_of_lt_of_le (ltF b q) hb) (Nat.lt_irrefl _)
    · obtain ⟨v, o, ho, _⟩ := I.cell y c (cells' y c e)
      have := Heap.lt_size ho
      rw [hDD] at this
      exact Nat.ne_of_lt (Nat.lt_of_lt_of_le this hb)
    · rw [epn, List.nil_append] at hq
      exact hp p hq
  -- behind the block
  have outer : ∀ {σ' : St} {H' : Hp} {s' : Shared} {pn : List (Addr × Obj)}, Inv X' pn σ' H' s' → Inv X pins σ H' s' := fun {σ' H' s' pn} J' => by
    subst hX'
    refine I.call' (ch := fp) J'.os J'.base J'.hok J'.bare fun b hb => ?_
    obtain ⟨f0, f1, f2, f3, f4, f5⟩ := hf b hb
    exact ⟨f3, f1, f4, f5⟩
  have outok : ∀ {b : Addr} {H' : Hp}, D ≤ b → H' b = none → FpOk X pins H' b := fun {b H'} hb hn => by
    have q := I.fpOk (H' := H') (b := b) (by rw [hDD]; exact hb) hn
    exact q
  have loop : ∀ s₃ : Shared, s₃ = { s₂ with heap := h₁, toks := s₂.toks + ([] : List (Str × Value)).length } →
      codeAny (model X.prog X.w) X.A (.compLoop (.ListComp elt [⟨tg, iter, ifs, 0⟩] scope pos) 0 (.ref it) (.ref D) (compEnvC scope (clOf X.env scope.names []) C X.env)) (RR (.ref D) C) s₃ := by
    rintro s₃ rfl
    refine compLoop_go2 (fun k s' => ∃ (i : Nat) (ys : List V) (its : List Value) (σ0 σ1 : Option V) (H' : Hp), i ≤ n ∧ k = n + 1 - i ∧ ys.length ≤ i ∧ Inv X' [] (σ0 :: σ1 :: σ) H' s' ∧ tn i s'.heap ∧ (∀ b ∈ fp, H' b = none) ∧ H' D = none ∧ Vals ys its ∧
      (∃ c, s'.heap.get? D = some { cls := .type "list", data := .seq its.toArray c }) ∧ W i ys H') ?_ (n + 1) ⟨0, [], [], none, none, H₂, Nat.zero_le _, rfl, Nat.le_refl _, I₁, st₁, fun b hb => (hf b hb).1, by rw [← hDD]; exact I.hok.fresh (Nat.le_refl _), .nil, ⟨0, hacc⟩, w0⟩
    rintro k s' ⟨i, ys, its, σ0, σ1, H', hi, rfl, hyl, I', st', fr', hD', rv, ⟨c, hobj⟩, w'⟩
    rcases turn i ys H' hi hyl w' with ⟨stop, fin⟩ | ⟨go, hlt, step⟩
    · have pinD : Inv X' [(D, { cls := .type "list", data := .seq its.toArray c })] (σ0 :: σ1 :: σ) H' s' := I'.pins_of fun p hp => by
        obtain rfl : p = (D, { cls := .type "list", data := .seq its.toArray c }) := by simpa using hp
        refine ⟨hobj, hD', ?_, ?_, fun v z => nomatch z⟩
        · rw [eL]; exact hDC
        · intro z
          rcases fsub D z with q | q
          · rw [q] at ltL; exact Nat.lt_irrefl _ ltL
          · exact Nat.lt_irrefl _ (ltF D q)
      have q := T.done X' eP ew eK ec i _ s' (σ0 :: σ1 :: σ) H' (notedBy (model X.prog X.w) X.A (compEnvC scope (clOf X.env scope.names []) C X.env) fun e s' => RR (.ref D) C (.error e) s') pinD (fpok (fun p hp => by obtain rfl : p = (D, { cls := .type "list", data := .seq its.toArray c }) := (by simpa using hp); rfl) fr') st' stop
      rw [eA] at q
      refine wpAny_mono q (fun r s4 ⟨hr, I4⟩ => ?_) fun _ _ z => z
      subst hr
      obtain ⟨e4, n4, _⟩ := I4.pin (D, { cls := .type "list", data := .seq its.toArray c }) (List.mem_append_right _ (by simp))
      have O4 := outer I4
      obtain ⟨m4, ns4, _⟩ := I4.loc
      rw [eL] at ns4
      refine hRR D C s4 H' ys m4 (O4.track (outok (Nat.le_refl _) n4) (Nat.le_trans I.sz (by rw [hDD]; exact Nat.le_refl _)) ⟨Nat.le_trans hyl (Nat.le_trans hi hsz), its, c, rv, e4⟩) n4 (outok (by rw [hC]; exact Nat.le_succ _) ?_) ns4 fin
      rw [upd_ne (Ne.symm hDC)]
      have := I4.free
      rw [eL] at this
      exact this
    · have pinD : Inv X' [(D, { cls := .type "list", data := .seq its.toArray c })] (σ0 :: σ1 :: σ) H' s' := I'.pins_of fun p hp => by
        obtain rfl : p = (D, { cls := .type "list", data := .seq its.toArray c }) := by simpa using hp
        refine ⟨hobj, hD', ?_, ?_, fun v z => nomatch z⟩
        · rw [eL]; exact hDC
        · intro z
          rcases fsub D z with q | q
          · rw [q] at ltL; exact Nat.lt_irrefl _ ltL
          · exact Nat.lt_irrefl _ (ltF D q)
      have pd : ∀ p ∈ [(D, ({ cls := .type "list", data := .seq its.toArray c } : Obj))], p.1 = D := fun p hp => by obtain rfl : p = (D, { cls := .type "list", data := .seq its.toArray c }) := (by simpa using hp); rfl
      have q := T.item X' eP ew eK ec i _ s' (σ0 :: σ1 :: σ) H' (notedBy (model X.prog X.w) X.A (compEnvC scope (clOf X.env scope.names []) C X.env) fun e s' => RR (.ref D) C (.error e) s') pinD (fpok pd fr') st' go
      rw [eA] at q
      refine wpAny_mono q (fun r s4 ⟨u, hr, h4⟩ => ?_) fun _ _ z => z
      subst hr
      refine wpAny_mono h4 (fun _ s5 ⟨xv, H5, I5, r5, y5, st5, fr5⟩ => ?_) fun _ _ z => z
      have I5' := I5.pinned (fpok pd fr5) (T.obj _ _ st5)
      rw [← eenv]
      have g6 := step xv H5 y5 σ0 σ1
      have q6 := (hg C s₂ H₂ fp) (([(D, ({ cls := .type "list", data := .seq its.toArray c } : Obj))]) ++ pinsAt fp s5.heap) s5 (σ0 :: σ1 :: σ) H5 xv u _ (by rw [hX']; exact I5') r5 g6
      rw [hX', eP, ew, eA] at q6
      refine wpAny_mono q6 (fun _ s6 ⟨ρ, H6, I6, ⟨u', v', eρ⟩, t6⟩ => ?_) (fun _ _ z => by subst hX'; exact (show False from z).elim)
      subst eρ
      have q7 := (ht C s₂ H₂ fp) _ s6 (u' :: v' :: σ) H6 _ (by rw [hX']; exact I6) t6
      rw [hX', eP, ew, eA] at q7
      refine wpAny_mono q7 (fun ok s7 ⟨H7, I7, w7⟩ => ?_) (fun _ _ z => by subst hX'; exact (show False from z).elim)
      have keepT : ∀ {s8 : Shared} {H8 : Hp} {pn : List (Addr × Obj)}, Inv X' (pn ++ (([(D, ({ cls := .type "list", data := .seq its.toArray c } : Obj))]) ++ pinsAt fp s5.heap)) (u' :: v' :: σ) H8 s8 → True := fun _ => trivial
      cases ok with
      | false =>
        obtain ⟨e7, n7, _⟩ := I7.pin (D, { cls := .type "list", data := .seq its.toArray c }) (List.mem_append_right _ (List.mem_append_left _ (by simp)))
        refine ⟨n + 1 - (i + 1), by omega, i + 1, ys, its, u', v', H7, hlt, rfl, Nat.le_succ_of_le hyl, I7.pins_of (pins' := []) fun p hp => absurd hp (by simp), ?_, fun b hb => ?_, n7, rv, ⟨c, e7⟩, w7⟩
        · refine T.keep _ _ _ st5 fun b hb o e => ?_
          exact (I7.pin (b, o) (List.mem_append_right _ (List.mem_append_right _ (mem_pinsAt hb e)))).1
        · obtain ⟨o, e, d⟩ := T.obj _ _ st5 b hb
          exact (I7.pin (b, o) (List.mem_append_right _ (List.mem_append_right _ (mem_pinsAt hb e)))).2.1
      | true =>
        have q8 := (he C s₂ H₂ fp) _ s7 (u' :: v' :: σ) H7 (fun z H'' => W (i + 1) (ys ++ [z]) H'') (by rw [hX']; exact I7) w7
        rw [hX', eP, ew, eA] at q8
        refine wpAny_mono q8 (fun u8 s8 ⟨v8, H8, I8, r8, w8⟩ => ?_) (fun _ _ z => by subst hX'; exact (show False from z).elim)
        obtain ⟨e7, n7, _⟩ := I8.pin (D, { cls := .type "list", data := .seq its.toArray c }) (List.mem_append_right _ (List.mem_append_left _ (by simp)))
        refine append_at (hsz := by rw [List.size_toArray, ← rv.length]; exact Nat.le_trans hyl (Nat.le_trans hi hsz)) e7 fun h8 sb8 g8 => ?_
        have I9 : Inv X' [] (u' :: v' :: σ) H8 { s8 with heap := h8, toks := s8.toks } := (I8.pins_of (pins' := []) fun p hp => absurd hp (by simp)).turned (t' := s8.toks) (it := D) (fun b o hb e => (sb8.2 b hb).trans e) n7 (by rw [eL]; exact hDC) (.inr (by rw [es0, hDD]; exact Nat.le_refl _))
          (newok (H' := H8) (pn := []) (Nat.le_refl _) hDC n7 (fun p hp => absurd hp (by simp))).2.2.2.2.1 (fun p hp => by rw [epn] at hp; exact absurd hp (by simp))
        refine ⟨n + 1 - (i + 1), by omega, i + 1, ys ++ [v8], its ++ [u8], u', v', H8, hlt, rfl, by rw [List.length_append, List.length_singleton]; omega, I9, ?_, fun b hb => ?_, n7, rv.append (.cons r8 .nil), ⟨c + 1, ?_⟩, w8⟩
        · refine T.keep _ _ _ st5 fun b hb o e => ?_
          have e' := (I8.pin (b, o) (List.mem_append_right _ (List.mem_append_right _ (mem_pinsAt hb e)))).1
          exact (sb8.2 b (fun z => Dfp (z ▸ hb))).trans e'
        · obtain ⟨o, e, d⟩ := T.obj _ _ st5 b hb
          exact (I8.pin (b, o) (List.mem_append_right _ (List.mem_append_right _ (mem_pinsAt hb e)))).2.1
        · rw [g8, List.push_toArray]
  exact codeAny_compStart_list (loop _ rfl) (T.self X.A 0 _ _ _ st₁ (loop _ rfl))

/-- a comprehension as a value -/
theorem pe_comp2 (K : CompOk2 X scope x y M) (hc : X.calm = true) (hi : PI X tg iter wi) (hg : ∀ (C : Addr) (s₂ : Shared) (H₂ : Hp) (fp : List Addr), PG (compCx2 X scope C x y M s₂ H₂ fp) tg g) (ht : ∀ (C : Addr) (s₂ : Shared) (H₂ : Hp) (fp : List Addr), PIfs (compCx2 X scope C x y M s₂ H₂ fp) ifs tc) (he : ∀ (C : Addr) (s₂ : Shared) (H₂ : Hp) (fp : List Addr), PE (compCx2 X scope C x y M s₂ H₂ fp) elt te)
    (hs : ∀ x, foldedSetIterable iter X.env x = pure x := by intro _; rfl) : PE X (.ListComp elt [⟨tg, iter, ifs, 0⟩] scope pos) (tComp2 wi g tc te) := by
  intro pins s σ H Q I h
  rw [eval_ListComp]
  refine wpAny_comprehension_free (use := none) rfl hs (K.base.closure I.ok) K.base.kind K.base.names (thn (hi pins s σ H _ I h) fun v s1 h1 => thn h1 fun itv s2 h2 => ?_)
  obtain ⟨it, fp, tn, J, H2, e, I2, T, st2, f2, n, W, hsz, w0, turn⟩ := h2
  subst e
  refine comp_block2 (RR := fun acc C => compPost (model X.prog X.w) X.A X.xe none (EP X pins σ Q) acc C) K hc I2 hg ht he T st2 f2 hsz (F := fun ys H => ∀ p, H p = none → Q (.ref p) (upd H p (.lst ys))) w0 turn ?_
  intro D C s' H' ys m I' n' fC ns fin
  refine ⟨m, ns, fun h' sb => ?_⟩
  obtain ⟨f0, f1, f2, f3, f4, f5⟩ := fC
  exact ⟨.ref D, _, I'.turned (t' := s'.toks) (it := C) (fun b o hb e => (sb.2 b hb).trans e) f0 f1 f3 f4 f5, rfl, fin D n'⟩
end
end L2
/-! comprehensions over tuples of two, sets of lists, ranges with a step, and what items are alike -/
namespace L2
open PySem PySem.Spec PyProof.Rows PySem.Calls
section
variable {X : Cx} {scope : Scope} {x y : Str} {M : List Str} {elt iter : Expr} {ifs : List Expr} {pos p1 p2 p3 : Pos} {kk : Nat} {te : TE} {wi : TI} {tc : TT}
structure CompRT (K : PySem.W.Frag) (J : It) (tc : TT) (te : TE) (σ : St) (H1 : Hp) (Q : VK) : Prop where
  ex : ∃ (n : Nat) (W : Nat → List V → Hp → Prop), n ≤ sizeLine ∧ W 0 [] H1 ∧ ∀ i ys H, i ≤ n → ys.length ≤ i → W i ys H →
    (J.stop i H ∧ ∀ p, H p = none → Q (.ref p) (upd H p (.lst ys))) ∨ (J.go i H ∧ i < n ∧ ∀ z H', J.yld i H z H' → ∃ (p : Addr) (a b : V), z = .ref p ∧ SqT K H' p [a, b] ∧ tc (some a :: some b :: σ) H' fun c H3 => if c = true then te (some a :: some b :: σ) H3 fun z H4 => W (i + 1) (ys ++ [z]) H4 else W (i + 1) ys H3)
def tCompT (K : PySem.W.Frag) (wi : TI) (tc : TT) (te : TE) : TE := fun σ H Q => wi σ H fun J H1 => CompRT K J tc te σ H1 Q
theorem pg_two (K : CompOk2 X scope x y M) (hc : X.calm = true) {C : Addr} {s₂ : Shared} {H₂ : Hp} {fp : List Addr} : PG (compCx2 X scope C x y M s₂ H₂ fp) (.Tuple [.Name x p1, .Name y p2] kk p3) (gTup X.K 2 (gCons (gName 0) (gCons (gName 1) gNil))) :=
  pg_tup (X := compCx2 X scope C x y M s₂ H₂ fp) hc (pgs_cons (pg_name K.nd2 rfl (.inl (lookup_relabel_local K.base.loc)) (.inr (lookup_relabel_local K.base.loc))) (pgs_cons (pg_name K.nd2 rfl (.inl (lookup_relabel_local K.loc2)) (.inr (lookup_relabel_local K.loc2))) pgs_nil))
/-- [e for x, y in it if ..] -/
theorem pe_compT (K : CompOk2 X scope x y M) (hc : X.calm = true) (hi : PI X (.Tuple [.Name x p1, .Name y p2] kk p3) iter wi) (ht : ∀ (C : Addr) (s₂ : Shared) (H₂ : Hp) (fp : List Addr), PIfs (compCx2 X scope C x y M s₂ H₂ fp) ifs tc) (he : ∀ (C : Addr) (s₂ : Shared) (H₂ : Hp) (fp : List Addr), PE (compCx2 X scope C x y M s₂ H₂ fp) elt te)
    (hs : ∀ x, foldedSetIterable iter X.env x = pure x := by intro _; rfl) : PE X (.ListComp elt [⟨.Tuple [.Name x p1, .Name y p2] kk p3, iter, ifs, 0⟩] scope pos) (tCompT X.K wi tc te) := by
  intro pins s σ H Q I h
  have q := pe_comp2 (pos := pos) K hc (wi := fun σ0 H0 R0 => ∃ R, wi σ0 H0 R ∧ ∀ J H1, R J H1 → R0 J H1) (pi_conv hi fun σ H R ⟨R1, a, b⟩ => ⟨R1, a, b⟩) (fun C s₂ H₂ fp => pg_two (p1 := p1) (p2 := p2) (p3 := p3) (kk := kk) K hc) ht he hs pins s σ H Q I
  refine q ⟨_, h, fun J H1 r => ?_⟩
  obtain ⟨n, W, h1, h2, h3⟩ := r.ex
  refine ⟨n, W, h1, h2, fun i ys H' hi hy hw => ?_⟩
  rcases h3 i ys H' hi hy hw with hq | ⟨g1, g2, g3⟩
  · exact .inl hq
  · refine .inr ⟨g1, g2, fun z H2 hz u v => ?_⟩
    obtain ⟨p, a, b, e, hq, t⟩ := g3 z H2 hz
    exact ⟨p, [a, b], e, hq, rfl, a, [b], rfl, b, [], rfl, rfl, ⟨_, _, rfl⟩, t⟩
end
theorem comp_listT {K : PySem.W.Frag} {a : Addr} {xs : List V} {tc : TT} {te : TE} {σ : St} {H : Hp} {Q : VK} (hz : xs.length ≤ sizeLine) (W : Nat → List V → Hp → Prop) (h0 : W 0 [] H) (hq : ∀ i ys H, W i ys H → SqL K H a xs)
    (hs : ∀ i x ys H, xs[i]? = some x → ys.length ≤ i → W i ys H → ∃ (p : Addr) (u v : V), x = .ref p ∧ SqT K H p [u, v] ∧ tc (some u :: some v :: σ) H fun c H3 => if c = true then te (some u :: some v :: σ) H3 fun z H4 => W (i + 1) (ys ++ [z]) H4 else W (i + 1) ys H3)
    (hd : ∀ ys H, W xs.length ys H → ∀ p, H p = none → Q (.ref p) (upd H p (.lst ys))) : CompRT K (Itl K a) tc te σ H Q := by
  refine ⟨xs.length, W, hz, h0, fun i ys H hi hl hw => ?_⟩
  have q := hq i ys H hw
  by_cases hlt : i < xs.length
  · refine .inr ⟨⟨xs, xs[i], q, by simp [hlt]⟩, hlt, fun v H' y => ?_⟩
    obtain ⟨e, y⟩ := y
    subst e
    exact hs i v ys _ (y xs q) hl hw
  · have e : i = xs.length := by omega
    subst e
    exact .inl ⟨⟨xs, q, Nat.le_refl _⟩, hd ys H hw⟩
section
variable {prog : Program} {w : World} {A : Around} {E : Value → Shared → Prop} {s : Shared}
end
section
variable {X : Cx}
end
/-! range(lo, hi, c) -/
def Its3 (lo c : Int) (n : Nat) : It := ⟨fun i _ => i < n, fun i H x H' => H' = H ∧ x = .int (lo + i * c), fun i _ => n ≤ i⟩
theorem turn_range3 {P : Program} {w : World} {K : PySem.W.Frag} {tg : Expr} (it : Addr) (lo c : Int) (n : Nat) : Turn P w K tg (Its3 lo c n) [it] it (fun i h => IsRangeIter h it (lo + (i : Nat) * c) ((n : Int) - (i : Nat)) c) where
  mem := by simp
  obj := fun i h st b hb => by
    have e : b = it := by simpa using hb
    subst e
    exact ⟨_, st, fun v z => by
      have z' : Data.fields _ = Data.cell v := z
      cases z'⟩
  keep := fun i h h' st k => k it (by simp) _ st
  item := by
    intro X hP hw hK hc i pins s σ H E I hf st hg
    subst hP hw hK
    obtain ⟨f0, f1, f2, f3, f4, f5⟩ := hf it (by simp)
    have W := Walks.range (prog := X.prog) (w := X.w) (I.ok.hd hc) it lo c n
    refine W.item i s _ _ hg st fun v h' tk hv st' kk => ?_
    obtain ⟨t, rfl⟩ := hv
    have I1 : Inv X pins σ H { s with heap := h', toks := tk } := I.turned (fun b o hb e => kk b o (by simpa using hb) e) f0 f1 f3 f4 f5
    exact ⟨_, rfl, go_of (s := { s with heap := h', toks := tk }) (n := "range_iterator") st' rfl rfl (by decide) ⟨.int (lo + i * c), H, I1, ⟨t, rfl⟩, ⟨rfl, rfl⟩, st', fun b hb => (hf b hb).1⟩⟩
  done := by
    intro X hP hw hK hc i pins s σ H E I hf st hg
    subst hP hw hK
    obtain ⟨f0, f1, f2, f3, f4, f5⟩ := hf it (by simp)
    exact wpAny_pyNext_range_end (I.ok.hd hc) st (by have : n ≤ i := hg; omega) fun h' eb => ⟨rfl, I.turned (t' := s.toks) (fun b o hb e => eb b o hb e) f0 f1 f3 f4 f5⟩
  self := fun _ _ _ _ _ st h => wpAny_pyIter_rangeiter st h
section
variable {X : Cx} {tg : Expr}
def iRng3 (ta : TA) : TI := fun σ H R => ta σ H fun vs H1 => ∃ (i j c : Int) (n : Nat), vs = [.int i, .int j, .int c] ∧ c ≠ 0 ∧ Builtin.divisionGoesByPylong (j - i) c = false ∧ Builtin.Range.small i j c = true ∧ Builtin.Range.rangeSize i j c = (n : Int) ∧ R (Its3 i c n) H1
theorem pi_range3 {a b c : Expr} {ta : TA} {p pos : Pos} (hg : Gl X "range") (hm : X.mg "range" = none) (ha : PA X [a, b, c] ta) (hs : starEach [a, b, c] X.env = [(false, eval a X.env), (false, eval b X.env), (false, eval c X.env)] := by rfl) (hs2 : starEach [b, c] X.env = [(false, eval b X.env), (false, eval c X.env)] := by rfl) :
    PI X tg (.Call (.Name "range" p) [a, b, c] [] pos) (iRng3 ta) := by
  intro pins s σ H R I h
  refine Call_ (ld_blt I hg hm boot_range (PyProof.Rows.callWith_type1 (thn (ha pos pins s σ H _ I h) fun us s1 ⟨vs, H1, I1, r1, q1⟩ => ?_) (by rw [hs, hs2]) (by rw [hs2]; rfl)))
  obtain ⟨i, j, c, n, e, c0, d0, sm, rs, q⟩ := q1
  subst e
  cases r1 with
  | cons r rr =>
    cases rr with
    | cons r' rr =>
      cases rr with
      | cons r'' rr =>
        cases rr
        obtain ⟨t, rfl⟩ := r
        obtain ⟨t', rfl⟩ := r'
        obtain ⟨t'', rfl⟩ := r''
        refine call_range_3 c0 ?_ (.inl d0)
        refine wpAny_pyIter_range (IsRange.new ..) sm ?_
        have I2 : Inv X pins σ H1 { s1 with heap := s1.heap.push { cls := .type "range", data := .fields #[.int i t, .int j t', .int c t''] }, toks := s1.toks } := I1.kept fun b o e => Heap.get?_push_of_some _ e
        refine ⟨(s1.heap.push { cls := .type "range", data := .fields #[.int i t, .int j t', .int c t''] }).objs.size, [(s1.heap.push { cls := .type "range", data := .fields #[.int i t, .int j t', .int c t''] }).objs.size], _, _, H1, rfl,
          I2.kept (t' := s1.toks) fun b o e => Heap.get?_push_of_some _ e, turn_range3 _ i c n, ?_, fun b hb => ?_, q⟩
        · show IsRangeIter _ _ (i + ((0 : Nat) : Int) * c) ((n : Int) - ((0 : Nat) : Int)) c
          have e1 : i + ((0 : Nat) : Int) * c = i := by simp
          have e2 : (n : Int) - ((0 : Nat) : Int) = Builtin.Range.rangeSize i j c := by rw [rs]; simp
          rw [e1, e2]
          exact Heap.get?_push_size _ rfl
        · have e : b = (s1.heap.push { cls := .type "range", data := .fields #[.int i t, .int j t', .int c t''] }).objs.size := by simpa using hb
          subst e
          exact I2.fpOk (Nat.le_refl _) (I2.hok.fresh (Nat.le_refl _))
end
theorem for_range3 {lo c : Int} {n : Nat} {g : TG} {tb : TS} {D : Ends} {σ : St} {H : Hp} (Pv : Nat → St → Hp → Prop) (h0 : Pv 0 σ H)
    (hs : ∀ i σ H, i < n → Pv i σ H → g (.int (lo + i * c)) σ H fun σ2 H2 => tb { D with nx := Pv (i + 1), ct := Pv (i + 1), bk := D.nx } σ2 H2) (hd : ∀ σ H, Pv n σ H → D.nx σ H) : ForR (Its3 lo c n) g tb D σ H := by
  refine ⟨⟨fun i m σ H => m = n - i ∧ i ≤ n ∧ Pv i σ H, ⟨n, by simp, Nat.zero_le _, h0⟩, ?_⟩⟩
  rintro i m σ H ⟨rfl, hi, p⟩
  by_cases hlt : i < n
  · refine .inr ⟨hlt, Pv (i + 1), fun σ' H' p' => ⟨n - (i + 1), by omega, rfl, hlt, p'⟩, fun v H' y => ?_⟩
    obtain ⟨e, y⟩ := y
    subst e y
    exact hs i σ _ hlt p
  · have e : i = n := by omega
    subst e
    exact .inl ⟨Nat.le_refl _, hd σ H p⟩
/-! items -/
end L2
/-! None in a list of tuples -/
namespace L2
open PySem PySem.Spec PyProof.Rows PySem.Calls
end L2
/-! an expression alone, tried -/
namespace L2
open PySem PySem.Spec PyProof.Rows PySem.Calls
end L2
/-! closures: a def that hands back a lambda which keeps one of its names -/
namespace L2
open PySem PySem.Spec PyProof.Rows PySem.Calls
open PySem.W (tabObj CodeHd kla_obj kla_fn)

/-- a cell with a value -/
def cellO (c : Addr) (v : V) : HO := .ext fun h => ∃ u, RelV v u ∧ h.IsCell c (some u)
/-- a code record -/
def codeO (c : Addr) (q : Str) : HO := .ext fun h => h.CodeRec (.ref c) q
/-- what is written of a lambda: its full name, parameters, body, scope, and the name that it keeps -/
structure LamD where
  qual : Str
  params : Arguments
  body : Expr
  scope : Scope
  x : Str
  y : Str
/-- a lambda's object -/
def lamO (D : LamD) (p cc c' : Addr) : HO := .ext fun h => ∃ pm ctv, h.get? p = some (kla_obj "<lambda>" D.qual D.params D.body D.scope [(D.y, cc)] pm c' ctv)
/-- at p stands the lambda, with v kept -/
def LamAt (D : LamD) (H : Hp) (p : Addr) (v : V) : Prop := ∃ cc c', H p = some (lamO D p cc c') ∧ H cc = some (cellO cc v) ∧ H c' = some (codeO c' D.qual)
/-- the table of the def's code: nothing yet, or the lambda's code -/
def TabE (H : Hp) (P : Addr) : Prop := H P = some (.tbl #[])
def TabG (D : LamD) (pos : Pos) (H : Hp) (P : Addr) : Prop := ∃ c', H P = some (.tbl #[rawInt pos.line, rawInt pos.col, .ref c']) ∧ H c' = some (codeO c' D.qual)
def Tab (D : LamD) (pos : Pos) (H : Hp) (P : Addr) : Prop := TabE H P ∨ TabG D pos H P
/-- the same but at P -/
def SameB (P : Addr) (H H' : Hp) : Prop := ∀ b u, b ≠ P → H b = some u → H' b = some u
theorem SameB.trans {P : Addr} {H H1 H2 : Hp} (a : SameB P H H1) (b : SameB P H1 H2) : SameB P H H2 := fun c u n e => b c u n (a c u n e)
theorem SameB.refl {P : Addr} {H : Hp} : SameB P H H := fun _ _ _ e => e

theorem IsCell.one {h1 h2 : Heap} {c : Addr} {v : Option Value} (x : h1.IsCell c v) (k : ∀ o, h1.get? c = some o → h2.get? c = some o) : h2.IsCell c v :=
  let ⟨o, ho, hd⟩ := x; ⟨o, k o ho, hd⟩
theorem ok_cellO {P : Program} {w : World} {H : Hp} {h : Heap} {c : Addr} {v : V} {u : Value} (r : RelV v u) (x : h.IsCell c (some u)) : ObjOk P w H h c (cellO c v) :=
  ⟨⟨u, r, x⟩, let ⟨o, ho, _⟩ := x; ⟨o, ho⟩, fun _ _ ⟨u, r, x⟩ k => ⟨u, r, IsCell.one x k⟩⟩
theorem ok_codeO {P : Program} {w : World} {H : Hp} {h : Heap} {c : Addr} {q : Str} (x : h.CodeRec (.ref c) q) : ObjOk P w H h c (codeO c q) := by
  refine ⟨x, ?_, fun h1 h2 x k => ?_⟩
  · obtain ⟨c', o, vs, t, e, g, r⟩ := x
    cases e
    exact ⟨o, g⟩
  · obtain ⟨c', o, vs, t, e, g, r⟩ := x
    cases e
    exact ⟨c, o, vs, t, rfl, k o g, r⟩
theorem ok_lamO {P : Program} {w : World} {H : Hp} {h : Heap} {D : LamD} {p cc c' : Addr} {pm ctv : Value} (x : h.get? p = some (kla_obj "<lambda>" D.qual D.params D.body D.scope [(D.y, cc)] pm c' ctv)) : ObjOk P w H h p (lamO D p cc c') :=
  ⟨⟨pm, ctv, x⟩, ⟨_, x⟩, fun _ _ ⟨pm, ctv, x⟩ k => ⟨pm, ctv, k _ x⟩⟩

/-- without what stands at c -/
def del (H : Hp) (c : Addr) : Hp := fun b => if b = c then none else H b
theorem del_same {H : Hp} {c : Addr} : del H c c = none := if_pos rfl
theorem del_ne {H : Hp} {b c : Addr} (h : b ≠ c) : del H c b = H b := if_neg h
theorem del_none {H : Hp} {b c : Addr} (h : H b = none) : del H c b = none := by
  by_cases e : b = c
  · rw [e]; exact del_same
  · rw [del_ne e]; exact h
theorem HOk.del {P : Program} {w : World} {H : Hp} {h : Heap} {c : Addr} {φ : Heap → Prop} (x : HOk P w H h) (hc : H c = some (.ext φ)) : HOk P w (del H c) h := fun b o e => by
  by_cases hb : b = c
  · rw [hb, del_same] at e; cases e
  · rw [del_ne hb] at e
    refine (x b o e).stay (fun _ _ _ q => q) (fun d q => ?_) fun d xs q => ?_
    · rw [del_ne (by rintro rfl; rw [hc] at q; cases q)]; exact q
    · rw [del_ne (by rintro rfl; rw [hc] at q; cases q)]; exact q

/-- the context of a lambda's body -/
def cxLam (CX : CXT) (P : Program) (w : World) (K : PySem.W.Frag) (mg : Str → Option Value) (base : Heap) (D : LamD) (p cc : Addr) (cd : Value) (A : Around) (outer : List Env) (s : Shared) (H : Hp) (E : XK) : Cx where
  prog := P
  w := w
  K := K
  mg := mg
  base := base
  A := A.deeper (PySem.W.envX D.qual D.scope s.heap.objs.size p cd [(D.y, cc)])
  N := [D.x, D.y]
  s₀ := s
  H₀ := del H cc
  env := PySem.W.envX D.qual D.scope s.heap.objs.size p cd [(D.y, cc)]
  outer := outer
  stack := PySem.W.envX D.qual D.scope s.heap.objs.size p cd [(D.y, cc)] :: outer
  ex := []
  calm := true
  fn := fun _ => false
  pn := []
  xe := fun e s' => wpAny (model P w) (A.deeper (PySem.W.envX D.qual D.scope s.heap.objs.size p cd [(D.y, cc)])) (leaving (PySem.W.envX D.qual D.scope s.heap.objs.size p cd [(D.y, cc)]) e) (fun _ s'' => CX outer H s E e s'') (fun e' s'' => CX outer H s E e' s'') s'

structure LamD.Ok (D : LamD) : Prop where
  kind : D.scope.kind = .function
  co : D.scope.isCoroutine = false
  gen : D.scope.isGenerator = false
  names : D.scope.names = [(D.x, .local), (D.y, .free)]
  ne : D.x ≠ D.y
  bind : ∀ (cc : Addr) (pm cdv ct u : Value), bindArgs (kla_fn "<lambda>" D.qual D.params D.body D.scope [(D.y, cc)] pm cdv ct) ⟨[u], []⟩ = pure [(D.x, u)]

theorem LamD.Ok.lx {D : LamD} (O : D.Ok) : D.scope.names.lookup D.x = some .local := by rw [O.names, List.lookup_cons, beq_self_eq_true]
theorem LamD.Ok.ly {D : LamD} (O : D.Ok) : D.scope.names.lookup D.y = some .free := by
  rw [O.names, List.lookup_cons, beq_eq_false_iff_ne.mpr O.ne.symm, List.lookup_cons, beq_self_eq_true]
theorem LamD.Ok.of {D : LamD} (O : D.Ok) {x : Str} {k : NameKind} (h : D.scope.names.lookup x = some k) : (x = D.x ∧ k = .local) ∨ (x = D.y ∧ k = .free) := by
  rw [O.names, List.lookup_cons] at h
  cases e : x == D.x with
  | true => rw [e] at h; cases h; exact .inl ⟨eq_of_beq e, rfl⟩
  | false =>
    rw [e, List.lookup_cons] at h
    cases e2 : x == D.y with
    | true => rw [e2] at h; cases h; exact .inr ⟨eq_of_beq e2, rfl⟩
    | false => rw [e2] at h; cases h

theorem look1 {y z : Str} {cc c : Addr} (h : ([(y, cc)] : List (Str × Addr)).lookup z = some c) : z = y ∧ c = cc := by
  rw [List.lookup_cons] at h
  cases e : z == y with
  | true => rw [e] at h; cases h; exact ⟨eq_of_beq e, rfl⟩
  | false => rw [e] at h; cases h

theorem inv_lam {CX : CXT} {P : Program} {w : World} {K : PySem.W.Frag} {mg : Str → Option Value} {base : Heap} {D : LamD} {p cc : Addr} {cd : Value} {A : Around} {outer : List Env} {s : Shared} {h1 : Heap} {tk : Tok} {H : Hp} {E : XK} {u : Value} {v vc : V} {m : Str → Option Value}
    (O : D.Ok) (hd : A.handled = none) (e0 : Env0 P w K mg base A outer s H) (hc : H cc = some (cellO cc vc)) (r : RelV v u)
    (hn : h1.Ns s.heap.objs.size m) (hm : m D.x = some u) (hk : ∀ b o, s.heap.get? b = some o → h1.get? b = some o) :
    Inv (cxLam CX P w K mg base D p cc cd A outer s H E) [] [some v, some vc] (del H cc) { s with heap := h1, toks := tk } := by
  obtain ⟨⟨uc, rc, hcell⟩, _, _⟩ := e0.hok _ _ hc
  have noA : ∀ b : Addr, b ∉ (cxLam CX P w K mg base D p cc cd A outer s H E).ex := fun b z => absurd (show b ∈ ([] : List Addr) from z) (by simp)
  refine ⟨⟨e0.mod, O.kind, rfl, rfl, Nat.le_refl _, fun y z c h1 h2 => ?_, fun y hy => ?_, fun y c h _ => (by cases (show false = true from h)), fun _ => hd, Around.frames_deeper e0.frames, .inr ⟨rfl, rfl⟩, fun b z => absurd z (noA b), fun b o e => ⟨(e0.bs b o e).1, del_none (e0.bs b o e).2⟩, e0.bsz, fun b _ _ => noA b, fun b z => absurd z (noA b), e0.funs, fun b hb => del_none (e0.frf b hb)⟩,
    rfl, e0.bare, Un.kept hk, ⟨m, hn, fun i y v' h1 h2 h3 => ?_⟩, fun y c h => ?_, del_none (e0.hok.fresh (Nat.le_refl _)), fun y c h => ?_, fun p hp => absurd (show p ∈ ([] : List (Addr × Obj)) from hp) (by simp), ((e0.hok.del hc).kept hk), rfl⟩
  · exact (look1 h1).1.trans (look1 h2).1.symm
  · rcases hy with hy | hy
    · rcases O.of hy with ⟨_, e⟩ | ⟨_, e⟩ <;> cases e
    · rcases O.of hy with ⟨_, e⟩ | ⟨e, _⟩
      · cases e
      · exact ⟨cc, by rw [e]; show List.lookup D.y [(D.y, cc)] = _; rw [List.lookup_cons, beq_self_eq_true]⟩
  · match i, h1, h2 with
    | 0, h1, h2 =>
      cases h1; cases h2
      exact ⟨u, r, .inl ⟨O.lx, hm⟩⟩
    | 1, h1, h2 =>
      cases h1; cases h2
      exact ⟨uc, rc, .inr ⟨.inr O.ly, cc, (by show List.lookup D.y [(D.y, cc)] = _; rw [List.lookup_cons, beq_self_eq_true]), IsCell.one hcell (hk _)⟩⟩
    | i + 2, h1, h2 => simp at h2
  · obtain ⟨_, rfl⟩ := look1 h
    exact ⟨_, IsCell.one hcell (hk _)⟩
  · obtain ⟨_, rfl⟩ := look1 h
    exact del_same
end L2
/-! closures: the call, and the making -/
namespace L2
open PySem PySem.Spec PyProof.Rows PySem.Calls
open PySem.W (tabObj CodeHd kla_obj kla_fn)

/-- the lambda is called; its body changes nothing -/
theorem lam_run {CX : CXT} {P : Program} {w : World} {K : PySem.W.Frag} {mg : Str → Option Value} {base : Heap} {D : LamD} {k : Nat} {tb : TE} (O : D.Ok)
    (hbody : ∀ (p cc : Addr) (cd : Value) (A : Around) (outer : List Env) (s : Shared) (H : Hp) (E : XK), Room k (A.deeper (PySem.W.envX D.qual D.scope s.heap.objs.size p cd [(D.y, cc)])) → PE (cxLam CX P w K mg base D p cc cd A outer s H E) D.body tb)
    {A : Around} {outer : List Env} {s : Shared} {H : Hp} {p cc c' : Addr} {u : Value} {x v : V} {Q : VK} {E : XK} (hr : Room (k + 1) A) (e0 : Env0 P w K mg base A outer s H)
    (hp : H p = some (lamO D p cc c')) (hc : H cc = some (cellO cc v)) (hcd : H c' = some (codeO c' D.qual)) (r : RelV x u)
    (h : tb [some x, some v] (del H cc) (fun y H1 => H1 = del H cc ∧ Q y H)) :
    codeAny (model P w) A (.call (.ref p) ⟨[u], []⟩) (CR CX outer P w H s Q E) s := by
  obtain ⟨⟨pm, ctv, ho⟩, _, _⟩ := e0.hok _ _ hp
  have hrec : s.heap.CodeRec (.ref c') D.qual := (e0.hok _ _ hcd).1
  have lim : s.heap.NoLimit := e0.mod.nolimit.keeps fun b o e => (e0.bs b o e).1
  refine PySem.W.kla_callFunE hr.depth ho rfl O.co O.gen rfl hrec ?_
  rw [O.bind]
  refine wpAny_pure (wpAny_newFunctionEnv (fun y hy => ?_) (fun y hy => ?_) (fun h₁ hns hsb => ⟨lim.fresh _ hsb, ?_⟩) O.kind)
  · have hy : y ∈ D.scope.names := hy
    rw [O.names] at hy
    rcases List.mem_cons.mp hy with rfl | hy
    · intro z; cases z
    · rw [List.mem_singleton.mp hy]; intro z; cases z
  · rw [List.mem_singleton.mp hy]; exact O.lx
  show codeAny _ _ (.expr D.body (PySem.W.envX D.qual D.scope s.heap.objs.size p (.ref c') [(D.y, cc)])) _ _
  have hk₁ : ∀ b o, s.heap.get? b = some o → h₁.get? b = some o := fun b o e => hsb.extBut b o (Nat.ne_of_lt (Heap.lt_size e)) (Heap.get?_push_of_some _ e)
  have I : Inv (cxLam CX P w K mg base D p cc (.ref c') A outer s H E) [] [some x, some v] (del H cc) { s with heap := h₁, toks := s.toks + 1 } :=
    inv_lam O hr.hd e0 hc r hns (by show List.lookup D.x [(D.x, u)] = _; rw [List.lookup_cons, beq_self_eq_true]) hk₁
  refine PySem.W.kla_codeExpr (wpAny_mono (hbody p cc (.ref c') A outer s H E (hr.deeper _) [] _ _ _ _ I h) (fun y s' hs => ?_) fun e s' hs => hs)
  obtain ⟨v', H', J, rv, e, q⟩ := hs
  subst e
  have nf : cc ∉ frs outer := fun z => by have := e0.frf cc z; rw [hc] at this; cases this
  have un := J.base
  refine ⟨v', H, J.os, J.bare, ⟨fun b o e n hb hx => un.keep b o e (del_none n) hb hx, fun b o e n hb hx => un.slot b o e (del_none n) hb hx, fun _ _ _ n _ => n, un.there, fun _ _ e => e, fun _ _ _ e => e, fun _ _ e => ⟨#[], by rw [e]; simp⟩⟩, fun b o e => ?_, rv, q⟩
  by_cases hb : b = cc
  · subst hb
    rw [hc] at e; cases e
    obtain ⟨⟨uc, rc, hcell⟩, _, _⟩ := e0.hok _ _ hc
    exact ok_cellO rc (IsCell.one hcell fun o q => un.keep _ o q del_same nf (by intro z; exact absurd (show b ∈ ([] : List Addr) from z) (by simp)))
  · refine (J.hok b o (by rw [del_ne hb]; exact e)).stay (fun _ _ _ q => q) (fun d q => ?_) fun d xs q => ?_
    · by_cases hd : d = cc
      · rw [hd, del_same] at q; cases q
      · rw [del_ne hd] at q; exact q
    · by_cases hd : d = cc
      · rw [hd, del_same] at q; cases q
      · rw [del_ne hd] at q; exact q

/-- f(e), f a name of the text's block that leads to a lambda -/
def tCallL (D : LamD) (tb tf : TE) (t : TA) : TE := fun σ H Q => tf σ H fun f H1 => ∃ p, f = .ref p ∧ t σ H1 fun vs H2 => ∃ x v cc c', vs = [x] ∧ H2 p = some (lamO D p cc c') ∧ H2 cc = some (cellO cc v) ∧ H2 c' = some (codeO c' D.qual) ∧
  tb [some x, some v] (del H2 cc) fun y H3 => H3 = del H2 cc ∧ Q y H2
theorem pe_callL {X : Cx} {CX : CXT} {D : LamD} {k : Nat} {tb tf : TE} {t : TA} {x : Str} {p pos : Pos} {e : Expr} {E : XK} (O : D.Ok)
    (hbody : ∀ (p cc : Addr) (cd : Value) (A : Around) (outer : List Env) (s : Shared) (H : Hp) (E : XK), Room k (A.deeper (PySem.W.envX D.qual D.scope s.heap.objs.size p cd [(D.y, cc)])) → PE (cxLam CX X.prog X.w X.K X.mg X.base D p cc cd A outer s H E) D.body tb)
    (hr : Room (k + 1) X.A) (hx : Passes CX X E) (hf : PE X (.Name x p) tf) (ha : PA X [e] t) (he : starEach [e] X.env = (false, eval e X.env) :: starEach [] X.env := by rfl) :
    PE X (.Call (.Name x p) [e] [] pos) (tCallL D tb tf t) := by
  intro pins s σ H Q I h
  refine wpAny_Call_Name_kw (thn (hf pins s σ H _ I h) fun f s1 ⟨fv, H1, I1, rf, q, ef, h1⟩ => ?_)
  subst ef
  obtain rfl : f = Value.ref q := rf
  have h2 := ha pos pins s1 σ H1 _ I1 h1
  rw [he] at h2
  show wpAny _ _ (callWith pos (.ref q) [] (backTo pos (starEach [e] X.env)) []) _ _ _
  rw [he]
  refine PySem.W.callWith_of (P := PySem.W.FnAt q) rfl PySem.W.keeps_F (evalArgs_plain (thn h2 fun us s2 ⟨vs, H2, I2, rvs, y, v, cc, c', ev, hp, hc, hcd, hb⟩ => ?_))
  subst ev
  obtain ⟨⟨pm, ctv, ho⟩, _, _⟩ := I2.hok _ _ hp
  refine ⟨⟨_, _, _, _, ho⟩, ?_⟩
  cases rvs with
  | cons r rest =>
    cases rest
    refine wpAny_call (codeAny_mono (lam_run (E := E) O hbody hr I2.env0 hp hc hcd r hb) fun r s' hq => ?_)
    cases r with
    | error e => exact hx pins σ H2 s2 e s' I2 hq
    | ok fl =>
      cases fl with
      | ret u => exact I2.after hq
      | next => exact False.elim hq
      | brk => exact False.elim hq
      | cont => exact False.elim hq

theorem mk_ce {P : Program} {w : World} {outer : List Env} {s : Shared} {h2 : Heap} {H : Hp} {Q : VK} {D : LamD} {Pt cc c' p : Addr} {u : Value} {v : V} {pm ctv : Value} {tk : Tok} {ps ps' : Array Value}
    (hok : HOk P w H s.heap) (hT : H Pt = some (.tbl ps)) (hps : ∃ more, ps' = ps ++ more) (hx : ∀ b o, b ≠ Pt → s.heap.get? b = some o → h2.get? b = some o) (hP2 : h2.get? Pt = some (tabObj ps'))
    (hcell : h2.IsCell cc (some u)) (r : RelV v u) (hrec : h2.CodeRec (.ref c') D.qual) (hp : h2.get? p = some (kla_obj "<lambda>" D.qual D.params D.body D.scope [(D.y, cc)] pm c' ctv))
    (fc : s.heap.objs.size ≤ cc) (fp : s.heap.objs.size ≤ p) (f' : (H c' = none ∧ s.heap.objs.size ≤ c') ∨ H c' = some (codeO c' D.qual)) (bare : AllBare s.gens)
    (q : ∀ H', SameB Pt H H' → H' Pt = some (.tbl ps') → H' p = some (lamO D p cc c') → H' cc = some (cellO cc v) → H' c' = some (codeO c' D.qual) → Q (.ref p) H') :
    CE outer P w H s Q (.ref p) { s with heap := h2, toks := tk } := by
  obtain ⟨oc, hoc, hdc⟩ := hcell
  obtain ⟨c2, o', vs', t', e', ho', hd', hv'⟩ := id hrec
  cases e'
  have hPs := hok _ _ hT
  have hPlt : Pt < s.heap.objs.size := (hok _ _ hT).lt
  have ncc : H cc = none := hok.fresh fc
  have np : H p = none := hok.fresh fp
  have n1 : p ≠ cc := by rintro rfl; rw [hp] at hoc; cases hoc; cases hdc
  have n2 : p ≠ c' := by rintro rfl; rw [hp] at ho'; cases ho'; cases hd'
  have n3 : cc ≠ c' := by rintro rfl; rw [hoc] at ho'; cases ho'; rw [hdc] at hd'; cases hd'
  have n4 : Pt ≠ p := Nat.ne_of_lt (Nat.lt_of_lt_of_le hPlt fp)
  have n5 : Pt ≠ cc := Nat.ne_of_lt (Nat.lt_of_lt_of_le hPlt fc)
  have n6 : Pt ≠ c' := by
    rintro rfl
    rcases f' with ⟨e, _⟩ | e
    · rw [hT] at e; cases e
    · rw [hT] at e; cases e
  generalize eH : upd (upd (upd (upd H Pt (.tbl ps')) c' (codeO c' D.qual)) cc (cellO cc v)) p (lamO D p cc c') = H'
  have g1 : H' p = some (lamO D p cc c') := by rw [← eH]; exact upd_same
  have g2 : H' cc = some (cellO cc v) := by rw [← eH, upd_ne n1.symm]; exact upd_same
  have g3 : H' c' = some (codeO c' D.qual) := by rw [← eH, upd_ne n2.symm, upd_ne n3.symm]; exact upd_same
  have g4 : H' Pt = some (.tbl ps') := by rw [← eH, upd_ne n4, upd_ne n5, upd_ne n6]; exact upd_same
  have g5 : ∀ b, b ≠ p → b ≠ cc → b ≠ c' → b ≠ Pt → H' b = H b := fun b a1 a2 a3 a4 => by rw [← eH, upd_ne a1, upd_ne a2, upd_ne a3, upd_ne a4]
  have sb : SameB Pt H H' := fun b o hb e => by
    have a1 : b ≠ p := ne_of_none e np
    have a2 : b ≠ cc := ne_of_none e ncc
    by_cases a3 : b = c'
    · subst a3
      rcases f' with ⟨z, _⟩ | z
      · rw [z] at e; cases e
      · rw [z] at e; cases e; exact g3
    · rw [g5 b a1 a2 a3 hb]; exact e
  have old : ∀ b o, s.heap.get? b = some o → H b = none → b ≠ Pt ∧ H' b = none := fun b o e n => by
    have lt := Heap.lt_size e
    have a4 : b ≠ Pt := by rintro rfl; rw [hT] at n; cases n
    refine ⟨a4, ?_⟩
    rw [g5 b (Nat.ne_of_lt (Nat.lt_of_lt_of_le lt fp)) (Nat.ne_of_lt (Nat.lt_of_lt_of_le lt fc)) ?_ a4]
    · exact n
    · rintro rfl
      rcases f' with ⟨_, z⟩ | z
      · exact absurd (Nat.lt_of_lt_of_le lt z) (Nat.lt_irrefl _)
      · rw [n] at z; cases z
  refine ⟨.ref p, H', rfl, bare, ⟨fun b o e n _ _ => hx b o (old b o e n).1 e, fun b o e n _ _ => ⟨o.slots, hx b o (old b o e n).1 e⟩, fun b o e n _ => (old b o e n).2, fun b o e _ => ?_, fun b xs e => ?_, fun b o z e => ?_, fun b qs e => ?_⟩, fun b o e => ?_, rfl, q H' sb g4 g1 g2 g3⟩
  · by_cases hb : b = Pt
    · exact ⟨_, by rw [hb]; exact hP2⟩
    · exact ⟨o, hx b o hb e⟩
  · exact sb b _ (by rintro rfl; rw [hT] at e; cases e) e
  · exact sb b _ (by rintro rfl; rw [hT] at e; cases e) e
  · by_cases hb : b = Pt
    · subst hb
      rw [hT] at e; cases e
      obtain ⟨more, rfl⟩ := hps
      exact ⟨more, g4⟩
    · exact ⟨#[], by rw [sb b _ hb e]; simp⟩
  · by_cases a1 : b = p
    · subst a1; rw [g1] at e; cases e; exact ok_lamO hp
    by_cases a2 : b = cc
    · subst a2; rw [g2] at e; cases e; exact ok_cellO r ⟨oc, hoc, hdc⟩
    by_cases a3 : b = c'
    · subst a3; rw [g3] at e; cases e; exact ok_codeO hrec
    by_cases a4 : b = Pt
    · subst a4; rw [g4] at e; cases e; exact hP2
    rw [g5 b a1 a2 a3 a4] at e
    refine (hok b o e).stay (fun d z hd ez => hx d z ?_ ez) (fun d z => sb d _ ?_ z) fun d xs z => sb d _ ?_ z
    · rcases hd with rfl | hd
      · exact a4
      · rintro rfl; rw [hT] at hd; cases hd
    · rintro rfl; rw [hT] at z; cases z
    · rintro rfl; rw [hT] at z; cases z

/-- the module of the builtins -/
def BMain (mg : Str → Option Value) (h : Heap) : Prop := ∃ bm ob, mg "__builtins__" = some (.ref bm) ∧ bm ≠ builtinsNs ∧ h.get? bm = some ob ∧ ob.cls = .type "module" ∧ ob.dict = some builtinsNs ∧ ob.data = .plain

theorem closure1 {D : LamD} (O : D.Ok) {env : Env} {cc : Addr} (h : env.cells.lookup D.y = some cc) : closureFor D.scope env = pure [(D.y, cc)] := by
  have e : cellOf env D.y = pure cc := by unfold cellOf; rw [h]
  unfold closureFor
  rw [O.names]
  simp only [List.forIn_cons, List.forIn_nil]
  rw [if_neg (by decide)]
  simp only [pure_bind, e, beq_self_eq_true, if_true]

/-- a def that hands back a lambda -/
def spLam (D : LamD) (pos : Pos) (Pt : Addr) : Sp := fun vs H Q _ => ∃ v, vs = [v] ∧ Tab D pos H Pt ∧ ∀ p H', H p = none → SameB Pt H H' → TabG D pos H' Pt → LamAt D H' p v → Q (.ref p) H'

theorem fn_lam {CX : CXT} {P : Program} {w : World} {K : PySem.W.Frag} {mg : Str → Option Value} {base : Heap} {k : Nat} {f : Addr} {name qual : Str} {params : Arguments} {scope : Scope} {dV kV doc pm cdv ct oc : Value} {an od : Option Addr}
    {osl : Array (Option Value)} {N : List Str} {D : LamD} {c Pt : Addr} {pos pos2 : Pos}
    (lk : K.lookup f = some ⟨oc, od, .func (PySem.W.fnOf name qual params [.Return (some (.Lambda D.params D.body D.scope pos)) pos2] scope dV kV doc pm an cdv ct), osl⟩) (hcd : PySem.W.codeIn K cdv qual = true) (S : FnScope N [D.y] scope)
    (hcl : scope.names.lookup D.y = some .cell) (O : D.Ok) (hq : qual ++ ".<locals>." ++ "<lambda>" = D.qual) (hdef : ∀ env, defaultsOf D.params env = ([], [])) (hcv : cdv = .ref c) (hch : PySem.W.codeHdIn K c Pt = true) (hB : BMain mg base) :
    FnOk P w K mg base CX (k + 1) f (PySem.W.fnOf name qual params [.Return (some (.Lambda D.params D.body D.scope pos)) pos2] scope dV kV doc pm an cdv ct) [D.y] (spLam D pos Pt) := by
  refine ⟨fun vs H Q E ⟨v, e, _⟩ => by rw [e]; rfl, fun A outer s H args us vs Q E hr e0 hb r hsp => ?_⟩
  obtain ⟨v, rfl, hTab, hQ⟩ := hsp
  have KX : K.In s.heap := e0.mod.kin.keeps fun b o e => (e0.bs b o e).1
  have lim : s.heap.NoLimit := e0.mod.nolimit.keeps fun b o e => (e0.bs b o e).1
  have hkind : ∀ y ∈ [D.y].zip us, scope.names.lookup y.1 = some .local ∨ (scope.names.lookup y.1 = some .cell ∧ ((cellsFrom (s.heap.objs.size + 1) scope.names []).lookup y.1).isSome = true) := fun ⟨n, v⟩ hy => by
    rcases S.par n (List.of_mem_zip hy).1 with q | q
    · exact .inl q
    · exact .inr ⟨q, PySem.W.cellsFrom_some _ _ _ (.inl q)⟩
  refine codeAny_call_function hr.depth (KX _ _ lk) rfl S.co S.gen rfl (PySem.W.codeRec_of KX hcd) (hb _ _ _ _ ?_)
  refine wpAny_newFunctionEnv_cells S.kind hkind fun env he s1 x => ?_
  subst he
  refine ⟨lim.keeps x.toInCall.keep, codeAny_func ?_⟩
  have I : Inv (cxOf CX P w K mg base N qual scope f cdv A outer s H E) [] (start N [v]) H s1 := inv_start S hr.hd e0 rfl r x
  obtain ⟨h1, tk1, es1, hk1⟩ := x.done
  obtain ⟨m, hns, hloc⟩ := I.loc
  have hN : N[0]? = some D.y := by
    have := S.pre
    cases N with
    | nil => cases this
    | cons a t => cases this; rfl
  obtain ⟨u, ru, lk0⟩ := hloc 0 D.y v hN rfl (.inr (.inl hcl))
  have hcell : ∃ cc, (envOfC qual scope s.heap.objs.size f cdv).cells.lookup D.y = some cc ∧ s1.heap.IsCell cc (some u) := by
    rcases lk0 with ⟨z, _⟩ | ⟨_, cc, e1, e2⟩
    · have z : scope.names.lookup D.y = some .local := z
      rw [hcl] at z; cases z
    · exact ⟨cc, e1, e2⟩
  obtain ⟨cc, ecc, hcc⟩ := hcell
  have fcc : s.heap.objs.size ≤ cc := I.ok.cab D.y cc rfl ecc
  have hT : ∃ ps, H Pt = some (.tbl ps) := by
    rcases hTab with e | ⟨c', e, _⟩
    · exact ⟨_, e⟩
    · exact ⟨_, e⟩
  have hsome : H Pt ≠ none := by obtain ⟨ps, e⟩ := hT; rw [e]; simp
  have hgs : s1.heap.Ns mainGlobals mg := I.mod.glob.keeps I.bk
  have C : CodeHd s1.heap c Pt := PySem.W.codeHd_of_K I.kIn hch
  have hgP : mainGlobals ≠ Pt := fun e => by
    obtain ⟨o, _, _, z, _⟩ := I.mod.glob
    exact hsome (e ▸ (I.bs _ _ z).2)
  have hBA : s1.heap.BuiltinsAt mg Pt := by
    obtain ⟨bm, ob, a1, a2, a3, a4, a5, a6⟩ := hB
    refine ⟨bm, ob, a1, a2, fun e => ?_, fun e => hsome (e ▸ (I.bs _ _ a3).2), (I.bs _ _ a3).1, a4, a5, a6⟩
    obtain ⟨o, _, _, z, d, _⟩ := e0.mod.glob
    rw [e, z] at a3; cases a3; rw [d] at a6; cases a6
  have hclos := closure1 O ecc
  refine wpAny_execs_cons (wpAny_Return_some (PySem.W.kla_eval (hdef _) ?_))
  show wpAny _ _ (makeFunction "<lambda>" (qual ++ ".<locals>." ++ "<lambda>") D.params (.expr D.body) D.scope (envOfC qual scope s.heap.objs.size f cdv) [] [] [] pos pos.line) _ _ _
  rw [hq]
  rcases hTab with hE | ⟨c', hG, hGc⟩
  · have hP : s1.heap.get? Pt = some (tabObj #[]) := I.hok _ _ hE
    refine PySem.W.kla_makeFunction (mg := mg) hclos rfl hgs hcv C hP trivial rfl hgP hBA fun c' ctv h' tk hx hge hlt hrec htb => ?_
    subst es1
    have hk2 : ∀ b o, b ≠ Pt → s.heap.get? b = some o → (h'.push (kla_obj "<lambda>" D.qual D.params D.body D.scope [(D.y, cc)] ((mg "__name__").getD .none) c' ctv)).get? b = some o := fun b o hb e => Heap.get?_push_of_some _ (hx b o hb (hk1 b o e))
    have sz : s.heap.objs.size ≤ h1.objs.size := I.sz
    have nP : cc ≠ Pt := by
      rintro rfl
      exact absurd (Nat.lt_of_lt_of_le (e0.hok _ _ hE).lt fcc) (Nat.lt_irrefl _)
    refine mk_ce (ps := #[]) (ps' := #[] ++ #[rawInt pos.line, rawInt pos.col, .ref c']) e0.hok hE ⟨_, rfl⟩ hk2 (Heap.get?_push_of_some _ htb) (IsCell.one hcc fun o e => Heap.get?_push_of_some _ (hx cc o nP e)) ru (hrec.push _) (Heap.get?_push_size _ rfl) fcc
      (Nat.le_trans sz (Nat.le_trans hge (Nat.le_of_lt hlt))) (.inl ⟨e0.hok.fresh (Nat.le_trans sz hge), Nat.le_trans sz hge⟩) e0.bare fun H' sb q1 q2 q3 q4 => ?_
    exact hQ _ H' (e0.hok.fresh (Nat.le_trans sz (Nat.le_trans hge (Nat.le_of_lt hlt)))) sb ⟨c', by simpa using q1, q4⟩ ⟨cc, c', q2, q3, q4⟩
  · have hP : s1.heap.get? Pt = some (tabObj #[rawInt pos.line, rawInt pos.col, .ref c']) := I.hok _ _ hG
    refine PySem.W.kla_makeFunctionHit (mg := mg) (cv := .ref c') hclos rfl hgs hcv C hP trivial (by simp [codeAmong, rawInt]) hBA fun ctv h' tk hx hsz => ?_
    subst es1
    have sz : s.heap.objs.size ≤ h1.objs.size := I.sz
    have hk2 : ∀ b o, b ≠ Pt → s.heap.get? b = some o → (h'.push { cls := .type "function", data := .func (kla_fn "<lambda>" D.qual D.params D.body D.scope [(D.y, cc)] ((mg "__name__").getD .none) (.ref c') ctv) }).get? b = some o := fun b o hb e => Heap.get?_push_of_some _ (hx b o (hk1 b o e))
    have hrec : s.heap.CodeRec (.ref c') D.qual := (e0.hok _ _ hGc).1
    have nc' : c' ≠ Pt := by rintro rfl; rw [hG] at hGc; cases hGc
    refine mk_ce (ps := _) (ps' := #[rawInt pos.line, rawInt pos.col, .ref c']) e0.hok hG ⟨#[], by simp⟩ hk2 (Heap.get?_push_of_some _ (hx _ _ hP)) (IsCell.one hcc fun o e => Heap.get?_push_of_some _ (hx cc o e)) ru ?_ (Heap.get?_push_size _ rfl) fcc
      (Nat.le_trans sz hsz) (.inr hGc) e0.bare fun H' sb q1 q2 q3 q4 => ?_
    · obtain ⟨c2, o2, vs2, t2, e2, g2, r2⟩ := hrec
      cases e2
      exact ⟨c', o2, vs2, t2, rfl, hk2 _ _ nc' g2, r2⟩
    · exact hQ _ H' (e0.hok.fresh (Nat.le_trans sz hsz)) sb ⟨c', q1, q4⟩ ⟨cc, c', q2, q3, q4⟩
end L2
/-! sum of a list of whole numbers; the head of a law with a def that makes functions -/
namespace L2
open PySem PySem.Spec PyProof.Rows PySem.Calls
open PySem.W (tabObj CodeHd kla_obj kla_fn)

theorem call_sum {X : Cx} (hc : X.calm = true) : CallR X (.builtin "sum") (fun xs H Q => ∃ (p : Addr) (ns : List Int), xs = [.ref p] ∧ SqL X.K H p (ns.map V.int) ∧ Q (.int ns.sum) H) := by
  intro pins s σ H xs us Q I r h
  obtain ⟨p, ns, rfl, hq, q⟩ := h
  obtain ⟨u, rfl, ru⟩ := vals1 r
  cases ru
  obtain ⟨its, rv, pl, hz⟩ := I.list hq
  have hi : IntsAre its ns := intsAre_of rv
  obtain ⟨ys, hys⟩ := hi.allInts.items
  have hl := pl.isList
  rw [hys] at hl
  refine PySem.sum_intListG (I.ok.hd hc) hl fun h' tk t' hk => ?_
  have e : preSum (numAt ys) ys.size = ns.sum := by
    rw [preSum_eq, List.take_of_length_le (by simp)]
    have h1 := hi.numsOf
    have h2 := nums_intItems (xs := ys)
    rw [← hys] at h2
    rw [← h1, ← h2]
  rw [e]
  exact ⟨.int ns.sum, H, I.kept (t' := tk) hk, ⟨_, rfl⟩, q⟩

/-- nothing is tracked but the script and the table at Pt -/
def OnlyT (Pt : Addr) (H : Hp) : Prop := H Pt = some (.tbl #[]) ∧ ∀ b, b ≠ Pt → H b = none ∨ ∃ o xs, H b = some (.frz o (.lst xs))

theorem law_callT {P : Program} {w : World} {K : PySem.W.Frag} {mg mb : Str → Option Value} {CX : CXT} {k : Nat} {fa a : Addr} {fd : FuncData} {x : Str} {sp : Sp} {s₁ : Shared} {vs : List Value} {ns : List Int} {c Pt : Addr}
    (KX : K.In s₁.heap) (hns : s₁.heap.Ns mainGlobals mg) (hb : s₁.heap.Ns builtinsNs mb) (hbb : ∀ x : Str, x ≠ "__name__" → mb x = bootBuiltins x) (hlim : s₁.heap.NoLimit) (hg : s₁.gens = #[]) (hB : BMain mg s₁.heap)
    (hC : CodeHd s₁.heap c Pt) (hP : s₁.heap.get? Pt = some (tabObj #[])) (hKP : K.lookup Pt = none)
    (ha : s₁.heap.get? a = some { cls := .type "list", data := .seq vs.toArray }) (hi : IntsAre vs ns) (hl : ns.length ≤ sizeLine) (hr : Room k callerA)
    (F : ∀ base : Heap, K.In base → base.Ns mainGlobals mg → BMain mg base → FnOk P w K mg base CX k fa fd [x] sp) (hbind : ∀ (s : Shared) (u : Value), BindsTo s fd ⟨[u], []⟩ [(x, u)])
    (hsp : ∀ H : Hp, OnlyT Pt H → SqL K H a (ns.map V.int) → sp [.ref a] H (fun v _ => v = .bl true) fun _ _ _ => False)
    (hCX : ∀ H e s', CX [] H s₁ (fun _ _ _ => False) e s' → False) :
    codeAny (model P w) callerA (.call (.ref fa) ⟨[.ref a], []⟩) (fun r s' => r = .ok (.ret (.bool true)) ∧ OldK s₁.heap s'.heap ∧ s'.os = s₁.os ∧ AllBare s'.gens) s₁ := by
  have rv := vals_ints hi
  have lenV := hi.length
  have naP : a ≠ Pt := by rintro rfl; rw [ha] at hP; cases hP
  have core : ∀ H : Hp, OnlyT Pt H → SqL K H a (ns.map V.int) → HOk P w H s₁.heap → (∀ b, H b ≠ none → b = a ∨ b = Pt) → (H a ≠ none → K.lookup a = none) →
      codeAny (model P w) callerA (.call (.ref fa) ⟨[.ref a], []⟩) (fun r s' => r = .ok (.ret (.bool true)) ∧ OldK s₁.heap s'.heap ∧ s'.os = s₁.os ∧ AllBare s'.gens) s₁ := by
    intro H hO hS hok hA hK
    have base_of : ∀ {b : Addr} {o : Obj}, s₁.heap.get? b = some o → H b = none → (hidT s₁.heap H).get? b = some o := fun e n => hidT_get e n
    have noB : ∀ {b : Addr} {o : Obj}, s₁.heap.get? b = some o → (∀ its n, o.data ≠ .seq its n) → (∀ vs, o.data ≠ .fields vs) → H b = none := fun {b o} e d1 d2 => by
      cases q : H b with
      | none => rfl
      | some u =>
        rcases hA b (by rw [q]; simp) with e' | e'
        · subst e'; rw [ha] at e; cases e; exact absurd rfl (d1 _ _)
        · subst e'; rw [hP] at e; cases e; exact absurd rfl (d2 _)
    have noA : ∀ {b : Addr} {o : Obj} {es : Array DictEntry} {ep : Nat}, s₁.heap.get? b = some o → o.data = .dict es ep → H b = none := fun {b o es ep} e d =>
      noB e (fun _ _ z => by rw [d] at z; cases z) fun _ z => by rw [d] at z; cases z
    have nsK : ∀ {b : Addr} {m : Str → Option Value}, s₁.heap.Ns b m → (hidT s₁.heap H).Ns b m := fun {b m} ⟨o, es, ep, e, d, r⟩ => ⟨o, es, ep, base_of e (noA e d), d, r⟩
    have hKb : K.In (hidT s₁.heap H) := fun b o e => base_of (KX b o e) (by
      cases q : H b with
      | none => rfl
      | some u =>
        rcases hA b (by rw [q]; simp) with e' | e'
        · subst e'
          rw [hK (by rw [q]; simp)] at e; cases e
        · subst e'
          rw [hKP] at e; cases e)
    have hBb : BMain mg (hidT s₁.heap H) := by
      obtain ⟨bm, ob, a1, a2, a3, a4, a5, a6⟩ := hB
      exact ⟨bm, ob, a1, a2, base_of a3 (noB a3 (fun _ _ z => by rw [a6] at z; cases z) fun _ z => by rw [a6] at z; cases z), a4, a5, a6⟩
    have hM : Mod K mg (hidT s₁.heap H) := ⟨hKb, nsK hns, ⟨mb, nsK hb, hbb⟩, let ⟨mc, h1, h2⟩ := hlim; ⟨mc, nsK h1, h2⟩⟩
    have e0 : Env0 P w K mg (hidT s₁.heap H) callerA [] s₁ H := ⟨rfl, hM, fun b o e => of_hidT e, Nat.le_of_eq (hidT_size _ _), trivial, fun b hb => absurd (show b ∈ ([] : List Addr) from hb) (by simp), hok, .of_eq hg⟩
    refine codeAny_mono ((F _ hKb (nsK hns) hBb).run callerA [] s₁ H ⟨[.ref a], []⟩ [.ref a] [.ref a] _ _ hr e0 (hbind s₁ (.ref a)) (.cons rfl .nil) (hsp H hO hS)) fun r s' h => ?_
    cases r with
    | error e => exact (hCX H e s' h).elim
    | ok fl =>
      cases fl with
      | next => exact False.elim h
      | brk => exact False.elim h
      | cont => exact False.elim h
      | ret u =>
        obtain ⟨v, H', os, bare, un, hok', r', q⟩ := h
        have q' : v = .bl true := q
        subst q'
        obtain rfl : u = Value.bool true := r'
        obtain ⟨more, hmore⟩ := un.tbls Pt _ hO.1
        have hP' : s'.heap.get? Pt = some (tabObj (#[] ++ more)) := hok' Pt _ hmore
        have keep : ∀ b o, b ≠ Pt → s₁.heap.get? b = some o → s'.heap.get? b = some o := fun b o hb e => by
          cases q : H b with
          | none => exact un.keep b o e q (by intro z; exact absurd (show b ∈ ([] : List Addr) from z) (by simp)) (by simp)
          | some u =>
            rcases hO.2 b hb with z | ⟨ob, xs, z⟩
            · rw [q] at z; cases z
            · have z2 := un.frzs b ob _ z
              obtain ⟨e1, _⟩ := hok b _ z
              obtain ⟨e2, _⟩ := hok' b _ z2
              rw [e] at e1; cases e1
              exact e2
        refine ⟨rfl, ⟨fun b o e => ?_, fun b o e => ?_⟩, os, bare⟩
        · by_cases hb : b = Pt
          · subst hb
            rw [hP] at e; cases e
            exact .inr (.inl ⟨(hC.tab hP).isCodeTable, rfl, #[], #[] ++ more, rfl, by rw [Array.empty_append]; exact hP'⟩)
          · exact .inl (keep b o hb e)
        · by_cases hb : b = Pt
          · subst hb; exact ⟨_, hP'⟩
          · exact ⟨o, keep b o hb e⟩
  cases hk : K.lookup a with
  | some o =>
    have e := KX a o hk
    rw [ha] at e
    cases e
    refine core (fun b => if b = Pt then some (.tbl #[]) else none) ⟨if_pos rfl, fun b hb => .inl (if_neg hb)⟩ (.inr ⟨_, vs.toArray, _, hk, rfl, rfl, rfl, by rw [List.size_toArray, lenV]; exact hl, by simpa using rv⟩) (fun b u z => ?_) (fun b z => ?_) fun z => absurd (if_neg naP) z
    · by_cases hb : b = Pt
      · have z' := (if_pos hb).symm.trans z
        cases z'
        subst hb
        exact hP
      · have z' := (if_neg hb).symm.trans z
        cases z'
    · by_cases hb : b = Pt
      · exact .inr hb
      · exact absurd (if_neg hb) z
  | none =>
    refine core (fun b => if b = Pt then some (.tbl #[]) else if b = a then some (.frz { cls := .type "list", data := .seq vs.toArray } (.lst (ns.map V.int))) else none) ⟨if_pos rfl, fun b hn => ?_⟩ (.inl (.inr ⟨{ cls := .type "list", data := .seq vs.toArray }, (if_neg naP).trans (if_pos rfl)⟩)) (fun b u z => ?_) (fun b z => ?_) fun _ => hk
    · by_cases hb : b = a
      · exact .inr ⟨_, _, (if_neg hn).trans (if_pos hb)⟩
      · exact .inl ((if_neg hn).trans (if_neg hb))
    · by_cases hn : b = Pt
      · have z' := (if_pos hn).symm.trans z
        cases z'
        subst hn
        exact hP
      · by_cases hb : b = a
        · have z' := ((if_neg hn).trans (if_pos hb)).symm.trans z
          cases z'
          subst hb
          exact ⟨ha, by rw [List.length_map]; exact hl, vs, _, rv, ha⟩
        · have z' := ((if_neg hn).trans (if_neg hb)).symm.trans z
          cases z'
    · by_cases hn : b = Pt
      · exact .inr hn
      · by_cases hb : b = a
        · exact .inl hb
        · exact absurd ((if_neg hn).trans (if_neg hb)) z

/-- walk_ofB, with a table -/
theorem walk_ofT {l : PySem.W.OpenLaw} {n k : Nat} {q : Program} {loose : List Str} {XP : (Str → Option Value) → Heap → Prop} {YP : World → Heap → Prop} {d : DefRec} {K : Params → PySem.W.Frag} {CX : World → CXT} {sp : Addr → World → Sp} {x : Str}
    (hn : l.most = some n) (hn2 : n ≤ sizeLine) (hdf : d.params.defaults = []) (hr : Room k callerA)
    (hY : ∀ (w : World) (h : Heap), YP w h → (K w.params).In h)
    (F : ∀ (w : World) (mg : Str → Option Value) (fa : Addr) (h : Heap), YP w h → (K w.params).In h → h.Ns mainGlobals mg → mg d.name = some (.ref fa) →
      ∃ (c Pt : Addr) (fd : FuncData), PySem.W.codeHdIn (K w.params) c Pt = true ∧ h.get? Pt = some (tabObj #[]) ∧ (K w.params).lookup Pt = none ∧ (∀ (s : Shared) (u : Value), BindsTo s fd ⟨[u], []⟩ [(x, u)]) ∧
        (∀ base : Heap, (K w.params).In base → base.Ns mainGlobals mg → BMain mg base → FnOk l.prog w (K w.params) mg base (CX w) k fa fd [x] (sp Pt w)))
    (hsp : ∀ (Pt : Addr) (w : World) (H : Hp) (a : Addr) (ns : List Int), ns.length ≤ n → (∀ n ∈ ns, Builtin.Int.intBits n ≤ 1048576) → OnlyT Pt H → SqL (K w.params) H a (ns.map V.int) → sp Pt w [.ref a] H (fun v _ => v = .bl true) fun _ _ _ => False)
    (hCX : ∀ (w : World) (H : Hp) (s : Shared) (e : Value) (s' : Shared), CX w [] H s (fun _ _ _ => False) e s' → False) :
    PySem.W.WalkO q loose XP YP l.row.toRowW d [] (fun f vs => PySem.call f vs) := by
  refine Att.attach_callB hn hdf fun w s₀ s₁ mg mb fa o pm cd doc a vs ns G Y ho hd hcd hmg hobj hints hlen hbits hg => ?_
  have KX := hY w _ Y
  obtain ⟨c, Pt, fd, h1, h2, h3, hb, hF⟩ := F w mg fa _ Y KX G.T.g hmg
  exact law_callT KX G.T.g G.T.b G.T.builtins G.T.nolimit hg G.T.bmain (PySem.W.codeHd_of_K KX h1) h2 h3 hobj hints (Nat.le_trans hlen hn2) hr hF hb (fun H hO hS => hsp Pt w H a ns hlen hbits hO hS) fun H e s' => hCX w H s₁ e s'
end L2
namespace K13
open PySem L2
def top (i : Nat) : Stmt := PySem.Challenge.pw_askpaper_k13_worth.main.body.getD i (.Pass ⟨0, 0, 0, 0⟩)
abbrev s_worth : Stmt := top 1
abbrev s_law_cell_at : Stmt := top 3
abbrev s_law_whole : Stmt := top 4
abbrev s_law_names : Stmt := top 5
abbrev s_law_number : Stmt := top 6
abbrev s_law_part : Stmt := top 7
abbrev s_law_parts_by : Stmt := top 8
abbrev s_law_look : Stmt := top 9
abbrev s_law_due : Stmt := top 10
abbrev s_law_right : Stmt := top 11
abbrev s_law : Stmt := top 12
structure Adr where
  f_worth : Addr
  d_worth : FuncData
  f_law_cell_at : Addr
  d_law_cell_at : FuncData
  f_law_whole : Addr
  d_law_whole : FuncData
  f_law_names : Addr
  d_law_names : FuncData
  f_law_number : Addr
  d_law_number : FuncData
  f_law_part : Addr
  d_law_part : FuncData
  f_law_parts_by : Addr
  d_law_parts_by : FuncData
  f_law_look : Addr
  d_law_look : FuncData
  f_law_due : Addr
  d_law_due : FuncData
  f_law_right : Addr
  d_law_right : FuncData
  f_law : Addr
  d_law : FuncData
structure Txt (K : PySem.W.Frag) (mg : Str → Option Value) (A : Adr) : Prop where
  F_worth : Fun K "worth" "worth" s_worth A.f_worth A.d_worth
  b_worth : Binds K A.d_worth ["parts", "look"] []
  k_worth : PySem.W.keepIn K (.ref A.f_worth) = true
  m_worth : mg "worth" = some (.ref A.f_worth)
  F_law_cell_at : Fun K "_law_cell_at" "_law_cell_at" s_law_cell_at A.f_law_cell_at A.d_law_cell_at
  b_law_cell_at : Binds K A.d_law_cell_at ["_law_script", "_law_k"] []
  k_law_cell_at : PySem.W.keepIn K (.ref A.f_law_cell_at) = true
  m_law_cell_at : mg "_law_cell_at" = some (.ref A.f_law_cell_at)
  F_law_whole : Fun K "_law_whole" "_law_whole" s_law_whole A.f_law_whole A.d_law_whole
  b_law_whole : Binds K A.d_law_whole ["_law_found"] []
  k_law_whole : PySem.W.keepIn K (.ref A.f_law_whole) = true
  m_law_whole : mg "_law_whole" = some (.ref A.f_law_whole)
  F_law_names : Fun K "_law_names" "_law_names" s_law_names A.f_law_names A.d_law_names
  b_law_names : Binds K A.d_law_names ["_law_script"] []
  k_law_names : PySem.W.keepIn K (.ref A.f_law_names) = true
  m_law_names : mg "_law_names" = some (.ref A.f_law_names)
  F_law_number : Fun K "_law_number" "_law_number" s_law_number A.f_law_number A.d_law_number
  b_law_number : Binds K A.d_law_number ["_law_cell"] []
  k_law_number : PySem.W.keepIn K (.ref A.f_law_number) = true
  m_law_number : mg "_law_number" = some (.ref A.f_law_number)
  F_law_part : Fun K "_law_part" "_law_part" s_law_part A.f_law_part A.d_law_part
  b_law_part : Binds K A.d_law_part ["_law_cell", "_law_names_here", "_law_used"] []
  k_law_part : PySem.W.keepIn K (.ref A.f_law_part) = true
  m_law_part : mg "_law_part" = some (.ref A.f_law_part)
  F_law_parts_by : Fun K "_law_parts_by" "_law_parts_by" s_law_parts_by A.f_law_parts_by A.d_law_parts_by
  b_law_parts_by : Binds K A.d_law_parts_by ["_law_cells", "_law_names_here"] []
  k_law_parts_by : PySem.W.keepIn K (.ref A.f_law_parts_by) = true
  m_law_parts_by : mg "_law_parts_by" = some (.ref A.f_law_parts_by)
  F_law_look : Fun K "_law_look" "_law_look" s_law_look A.f_law_look A.d_law_look
  b_law_look : Binds K A.d_law_look ["_law_worths"] []
  k_law_look : PySem.W.keepIn K (.ref A.f_law_look) = true
  m_law_look : mg "_law_look" = some (.ref A.f_law_look)
  F_law_due : Fun K "_law_due" "_law_due" s_law_due A.f_law_due A.d_law_due
  b_law_due : Binds K A.d_law_due ["_law_parts", "_law_worths"] []
  k_law_due : PySem.W.keepIn K (.ref A.f_law_due) = true
  m_law_due : mg "_law_due" = some (.ref A.f_law_due)
  F_law_right : Fun K "_law_right" "_law_right" s_law_right A.f_law_right A.d_law_right
  b_law_right : Binds K A.d_law_right ["_law_parts", "_law_worths", "_law_others", "_law_at"] []
  k_law_right : PySem.W.keepIn K (.ref A.f_law_right) = true
  m_law_right : mg "_law_right" = some (.ref A.f_law_right)
  F_law : Fun K "law" "law" s_law A.f_law A.d_law
  b_law : Binds K A.d_law ["_law_script"] []
  k_law : PySem.W.keepIn K (.ref A.f_law) = true
  m_law : mg "law" = some (.ref A.f_law)
  n_bool : mg "bool" = none
  n_int : mg "int" = none
  n_isinstance : mg "isinstance" = none
  n_len : mg "len" = none
  n_list : mg "list" = none
  n_range : mg "range" = none
  n_sum : mg "sum" = none
  i_NoneType_int : PySem.W.kitOne K (.type "NoneType") (.type "int") = some false
  i_bool_int : PySem.W.kitOne K (.type "bool") (.type "int") = some true
  i_int_int : PySem.W.kitOne K (.type "int") (.type "int") = some true
  i_str_int : PySem.W.kitOne K (.type "str") (.type "int") = some false
  i_list_int : PySem.W.kitOne K (.type "list") (.type "int") = some false
  i_tuple_int : PySem.W.kitOne K (.type "tuple") (.type "int") = some false
  i_dict_int : PySem.W.kitOne K (.type "dict") (.type "int") = some false
  i_NoneType_bool : PySem.W.kitOne K (.type "NoneType") (.type "bool") = some false
  i_bool_bool : PySem.W.kitOne K (.type "bool") (.type "bool") = some true
  i_int_bool : PySem.W.kitOne K (.type "int") (.type "bool") = some false
  i_str_bool : PySem.W.kitOne K (.type "str") (.type "bool") = some false
  i_list_bool : PySem.W.kitOne K (.type "list") (.type "bool") = some false
  i_tuple_bool : PySem.W.kitOne K (.type "tuple") (.type "bool") = some false
  i_dict_bool : PySem.W.kitOne K (.type "dict") (.type "bool") = some false
theorem sc_worth : FnScope ["parts", "look"] ["parts", "look"] (defScope s_worth) := ⟨rfl, rfl, rfl, by decide +kernel, rfl, by decide +kernel, by decide +kernel⟩
theorem sc_law_cell_at : FnScope ["_law_script", "_law_k"] ["_law_script", "_law_k"] (defScope s_law_cell_at) := ⟨rfl, rfl, rfl, by decide +kernel, rfl, by decide +kernel, by decide +kernel⟩
theorem sc_law_whole : FnScope ["_law_found"] ["_law_found"] (defScope s_law_whole) := ⟨rfl, rfl, rfl, by decide +kernel, rfl, by decide +kernel, by decide +kernel⟩
theorem sc_law_names : FnScope ["_law_script", "_law_letters", "_law_cell", "_law_way", "_law_size", "_law_base", "_law_at", "_law_names_here", "_law_k", "_law_name"] ["_law_script"] (defScope s_law_names) := ⟨rfl, rfl, rfl, by decide +kernel, rfl, by decide +kernel, by decide +kernel⟩
theorem sc_law_number : FnScope ["_law_cell"] ["_law_cell"] (defScope s_law_number) := ⟨rfl, rfl, rfl, by decide +kernel, rfl, by decide +kernel, by decide +kernel⟩
theorem sc_law_part : FnScope ["_law_cell", "_law_names_here", "_law_used", "_law_name", "_law_times"] ["_law_cell", "_law_names_here", "_law_used"] (defScope s_law_part) := ⟨rfl, rfl, rfl, by decide +kernel, rfl, by decide +kernel, by decide +kernel⟩
theorem sc_law_parts_by : FnScope ["_law_cells", "_law_names_here", "_law_parts", "_law_one"] ["_law_cells", "_law_names_here"] (defScope s_law_parts_by) := ⟨rfl, rfl, rfl, by decide +kernel, rfl, by decide +kernel, by decide +kernel⟩
theorem sc_law_look : FnScope ["_law_worths"] ["_law_worths"] (defScope s_law_look) := ⟨rfl, rfl, rfl, by decide +kernel, rfl, by decide +kernel, by decide +kernel⟩
theorem sc_law_due : FnScope ["_law_parts", "_law_worths", "_law_total", "_law_times", "_law_name"] ["_law_parts", "_law_worths"] (defScope s_law_due) := ⟨rfl, rfl, rfl, by decide +kernel, rfl, by decide +kernel, by decide +kernel⟩
theorem sc_law_right : FnScope ["_law_parts", "_law_worths", "_law_others", "_law_at", "_law_handed", "_law_due_here", "_law_found", "_law_first"] ["_law_parts", "_law_worths", "_law_others", "_law_at"] (defScope s_law_right) := ⟨rfl, rfl, rfl, by decide +kernel, rfl, by decide +kernel, by decide +kernel⟩
theorem sc_law : FnScope ["_law_script", "_law_names_here", "_law_worths", "_law_others", "_law_k", "_law_cells", "_law_parts"] ["_law_script"] (defScope s_law) := ⟨rfl, rfl, rfl, by decide +kernel, rfl, by decide +kernel, by decide +kernel⟩
end K13
set_option maxHeartbeats 1000000
namespace K13
open PySem L2
seal PE PT PW PA PS PSs PG PGs PI PO PSet OpR UnR CallR TruR IxR SlR PC PPs
local macro_rules | `(tactic| walk_at "rd1") => `(tactic| first
  | (refine And.intro rfl ?_)
  | (refine And.intro (by assumption) ?_)
  | (refine And.intro (fun _ e => e) ?_)
  | (refine And.intro (TyOf.str _) ?_) | (refine And.intro (TyOf.int _) ?_) | (refine And.intro (TyOf.bl _) ?_) | (refine And.intro TyOf.non ?_)
  | (refine iteT ?_) | (refine iteF ?_)
  | (apply Exists.intro))
local macro_rules | `(tactic| walk_at "rd") => `(tactic| repeat (walk_at "rd1"))

def kws : List V := [.str "and", .str "each", .str "end", .str "is", .str "not", .str "or", .str "unless", .str "when"]
def inL (c : Nat) : Bool := !(Builtin.Str.occurrences "abcdefghijklmnopqrstuvwxyz" (S [c]) 0 ("abcdefghijklmnopqrstuvwxyz" : Str).length 1).isEmpty
def nameB (z : Str) : Bool := !(inV (.str z) kws) && decide ((1 : Int) ≤ z.length) && decide ((z.length : Int) ≤ 12) && (cd z).all inL
abbrev Part := Int × Option Str
def nv : Option Str → V
  | none => .non
  | some z => .str z
def PR (K : PySem.W.Frag) (H : Hp) (x : V) (p : Part) : Prop := ∃ a, x = .ref a ∧ SqT K H a [.int p.1, nv p.2]
abbrev PsR (K : PySem.W.Frag) (H : Hp) : List V → List Part → Prop := Paired (PR K H)
theorem PR.same {K : PySem.W.Frag} {H H' : Hp} {x : V} {p : Part} (e : Same H H') (h : PR K H x p) : PR K H' x p := let ⟨a, h1, h2⟩ := h; ⟨a, h1, e.seqT h2⟩
theorem PsR.same {K : PySem.W.Frag} {H H' : Hp} {xs : List V} {ps : List Part} (e : Same H H') (h : PsR K H xs ps) : PsR K H' xs ps := by
  induction h with
  | nil => exact .nil
  | cons a _ ih => exact .cons (a.same e) ih
theorem PsR.at {K : PySem.W.Frag} {H : Hp} {xs : List V} {ps : List Part} (h : PsR K H xs ps) : ∀ {i : Nat} {x : V}, xs[i]? = some x → ∃ p, ps[i]? = some p ∧ PR K H x p := by
  induction h with
  | nil => intro i x e; simp at e
  | cons a _ ih =>
    intro i x e
    cases i with
    | zero => cases e; exact ⟨_, rfl, a⟩
    | succ j => exact ih e
theorem PsR.len {K : PySem.W.Frag} {H : Hp} {xs : List V} {ps : List Part} (h : PsR K H xs ps) : xs.length = ps.length := by
  induction h with
  | nil => rfl
  | cons _ _ ih => rw [List.length_cons, List.length_cons, ih]
def PGood (p : Part) : Prop := p.1.natAbs < 10 ^ 60 ∧ ∀ z, p.2 = some z → nameB z = true ∧ p.1 ≠ 0
theorem inL_of {c : Nat} (h : 97 ≤ c ∧ c ≤ 122) : inL c = true := by
  have e0 : inL c = decide (c ∈ ("abcdefghijklmnopqrstuvwxyz" : Str).cps.toList) := StrLaws.found_one "abcdefghijklmnopqrstuvwxyz" c
  have e : ("abcdefghijklmnopqrstuvwxyz" : Str).cps.toList = (List.range 26).map (97 + ·) := by decide +kernel
  rw [e0, e]
  refine decide_eq_true (List.mem_map.mpr ⟨c - 97, List.mem_range.mpr (by omega), by omega⟩)
theorem paired_app {α β : Type} {R : α → β → Prop} {as as' : List α} {bs bs' : List β} (h : Paired R as bs) (k : Paired R as' bs') : Paired R (as ++ as') (bs ++ bs') := by
  induction h with
  | nil => exact k
  | cons r _ ih => exact .cons r ih
end K13
set_option maxHeartbeats 1000000
namespace K13
open PySem L2
seal PE PT PW PA PS PSs PG PGs PI PO PSet OpR UnR CallR TruR IxR SlR PC PPs
local macro_rules | `(tactic| walk_at "rd1") => `(tactic| first
  | (refine And.intro rfl ?_)
  | (refine And.intro (by assumption) ?_)
  | (refine And.intro (fun _ e => e) ?_)
  | (refine And.intro (TyOf.str _) ?_) | (refine And.intro (TyOf.int _) ?_) | (refine And.intro (TyOf.bl _) ?_) | (refine And.intro TyOf.non ?_)
  | (refine iteT ?_) | (refine iteF ?_)
  | (apply Exists.intro))
local macro_rules | `(tactic| walk_at "rd") => `(tactic| repeat (walk_at "rd1"))

def spCell (K : PySem.W.Frag) : Sp := fun vs H Q _ => ∃ (a : Addr) (ns : List Int) (k : Int), vs = [.ref a, .int k] ∧ SqL K H a (ns.map V.int) ∧ 0 ≤ k ∧ (∀ n ∈ ns, ib n ≤ 1048576) ∧ ∀ n : Int, ib n ≤ 1048576 → Q (.int n) H
def spIsWhole (K : PySem.W.Frag) : Sp := fun vs H Q _ => ∃ x t bi bb, vs = [x] ∧ TyE K H x t ∧ PySem.W.kitOne K t (.type "int") = some bi ∧ PySem.W.kitOne K t (.type "bool") = some bb ∧ Q (.bl (bi && !bb)) H
def spNames (K : PySem.W.Frag) : Sp := fun vs H Q _ => ∃ (a : Addr) (ns : List Int), vs = [.ref a] ∧ SqL K H a (ns.map V.int) ∧ (∀ n ∈ ns, ib n ≤ 1048576) ∧ ∀ (pn : Addr) (zs : List Str) (H' : Hp), zs.length = 12 → (∀ z ∈ zs, nameB z = true) → Same H H' → H' pn = some (.lst (zs.map V.str)) → Q (.ref pn) H'
def spNumber : Sp := fun vs H Q _ => ∃ n : Int, vs = [.int n] ∧ ib n ≤ 1048600 ∧ ∀ m : Int, m.natAbs < 10 ^ 60 → Q (.int m) H
def spPartL (K : PySem.W.Frag) : Sp := fun vs H Q _ => ∃ (c : Int) (pn pu : Addr) (zs : List Str) (us : List V), vs = [.int c, .ref pn, .ref pu] ∧ ib c ≤ 1048576 ∧ SqL K H pn (zs.map V.str) ∧ zs.length = 12 ∧ (∀ z ∈ zs, nameB z = true) ∧ SqL K H pu us ∧ us.all flatV = true ∧ ∀ x p H', Same H H' → PR K H' x p → PGood p → (∀ z, p.2 = some z → inV (.str z) us = false ∧ z ∈ zs) → Q x H'
def one (b : List Nat) : List Str := b.map fun c => S [c]
theorem one_sum (b : List Nat) : ((one b).map (·.length)).sum = b.length := by
  induction b with
  | nil => rfl
  | cons c r ih =>
    show (S [c]).length + ((one r).map (·.length)).sum = _
    rw [ih, len_S, List.length_cons, List.length_cons, List.length_nil]; omega
theorem one_join (b : List Nat) : joinS "" (one b) = S b := by
  rw [joinS_is, show cd ("" : Str) = [] by decide +kernel]
  congr 1
  induction b with
  | nil => rfl
  | cons c r ih =>
    cases r with
    | nil => rfl
    | cons d r =>
      show [c] ++ [] ++ joinL [] ((one (d :: r)).map cd) = _
      rw [ih]; rfl
theorem one_map (b : List Nat) : (one b).map V.str = b.map fun c => V.str (S [c]) := by unfold one; rw [List.map_map]; rfl
abbrev KW : List Str := ["and", "each", "end", "is", "not", "or", "unless", "when"]
theorem inV_strs (z : Str) (ws : List Str) : inV (.str z) (ws.map V.str) = decide (z ∈ ws) := by
  unfold inV
  rw [List.any_map, Bool.eq_iff_iff, List.any_eq_true, decide_eq_true_iff]
  constructor
  · rintro ⟨y, hy, e⟩
    have : y = z := eq_of_beq e
    rw [← this]; exact hy
  · intro h; exact ⟨z, h, by show (z == z) = true; exact beq_self_eq_true z⟩
theorem name_of {l : List Nat} (h : l.length ≤ 12 ∧ 1 ≤ l.length ∧ ∀ c ∈ l, 97 ≤ c ∧ c ≤ 122) (k : S l ∉ KW) : nameB (S l) = true := by
  unfold nameB
  have e1 : inV (.str (S l)) kws = false := by
    show inV (.str (S l)) (KW.map V.str) = false
    rw [inV_strs]; exact decide_eq_false k
  have e2 : l.all inL = true := List.all_eq_true.mpr fun c hc => inL_of (h.2.2 c hc)
  rw [e1, len_S, cd_S, e2, decide_eq_true (by omega), decide_eq_true (by omega)]
  rfl
theorem kw_x : ∀ z ∈ KW, nameB (z ++ Str.ofString "x") = true := by decide +kernel
theorem kw_len : ∀ z ∈ KW, z.length ≤ 6 := by decide +kernel
theorem let_at (i : Int) (h0 : 0 ≤ i) (h1 : i < 26) : ∃ c, atI ("abcdefghijklmnopqrstuvwxyz" : Str).cps.toList i = some c ∧ 97 ≤ c ∧ c ≤ 122 := by
  have key : ∀ k : Nat, k < 26 → ("abcdefghijklmnopqrstuvwxyz" : Str).cps.toList[k]? = some (97 + k) := by decide +kernel
  refine ⟨97 + i.toNat, ?_, by omega, by omega⟩
  have := atI_nat (key i.toNat (by omega))
  rw [show ((i.toNat : Nat) : Int) = i by omega] at this
  exact this
theorem repN_mem : ∀ (k : Nat) {c : Nat}, c ∈ repN [101] k → c = 101
  | 0, c, h => by cases h
  | k + 1, c, h => by
    have h' : c ∈ [101] ++ repN [101] k ∨ c ∈ repN [101] k ++ [101] := by first | exact .inl h | exact .inr h
    rcases h' with h' | h' <;> rcases List.mem_append.mp h' with e | e
    · exact List.mem_singleton.mp e
    · exact repN_mem k e
    · exact repN_mem k e
    · exact List.mem_singleton.mp e
theorem ib_k {k : Int} (h0 : 0 ≤ k) (h : k < 100) : ib k ≤ 60000000 := Nat.le_trans (ib_small (by omega) (by omega)) (by decide)
section
variable {P : Program} {w : World} {K : PySem.W.Frag} {mg : Str → Option Value} {base : Heap} {A : Adr}
theorem ok_law_cell_at (T : Txt K mg A) : FnOk P w K mg base CX0 1 A.f_law_cell_at A.d_law_cell_at ["_law_script", "_law_k"] (spCell K) := by
  refine T.F_law_cell_at.ok sc_law_cell_at (fun vs H Q E h => ?_) (fun cdv A0 outer s H vs Q E hr h => ?_)
  · obtain ⟨a, ns, k, rfl, _⟩ := h
    rfl
  obtain ⟨a, ns, k, rfl, hS, hk, hb, q⟩ := h
  refine ⟨_, (pss_cons (ps_if (pt_cmpR op_lt (pv 1) (pe_callB call_len_seq (by rfl) T.n_len PySem.boot_len (pa_cons (pv 0) pa_nil)) (nomark _)) (pss_one (ps_ret (pe_ix ix_list (pv 0) (pv 1) (fun _ _ => rfl)))) pss_nil)
      (pss_one (ps_ret pe_int))), ?_⟩
  refine ⟨_, rfl, _, rfl, a, _, rfl, .inl hS, _, _, rfl, rfl, _, rfl, ?_⟩
  refine ite2 (fun c => ?_) (fun c => ?_)
  · have c' : k < ((ns.map V.int).length : Nat) := of_decide_eq_true c
    obtain ⟨v, hv, hv2⟩ := at_some (l := ns.map V.int) hk c'
    obtain ⟨n, hn, rfl⟩ := map_get hv2
    exact ⟨_, rfl, _, rfl, a, _, _, _, rfl, rfl, hS, hv, q _ (hb n (List.mem_of_getElem? hn))⟩
  · exact q _ (by decide)
theorem ok_law_whole (T : Txt K mg A) : FnOk P w K mg base CX0 1 A.f_law_whole A.d_law_whole ["_law_found"] (spIsWhole K) := by
  refine T.F_law_whole.ok sc_law_whole (fun vs H Q E h => ?_) (fun cdv A0 outer s H vs Q E hr h => ?_)
  · obtain ⟨x, _, _, _, rfl, _⟩ := h
    rfl
  obtain ⟨x, t, bi, bb, rfl, ty, k1, k2, q⟩ := h
  refine ⟨_, (pss_one (ps_ret (pe_and (pe_callB call_isi (by rfl) T.n_isinstance Bt.isinstance (pa_cons (pv 0) (pa_cons (pe_bltn (v := .ty "int") rfl T.n_int Bt.int rfl) pa_nil))) (pe_one (pe_not (pe_callB call_isi (by rfl) T.n_isinstance Bt.isinstance (pa_cons (pv 0) (pa_cons (pe_bltn (v := .ty "bool") rfl T.n_bool Bt.bool rfl) pa_nil)))))))), ?_⟩
  refine ⟨_, rfl, _, _, _, _, rfl, rfl, ty, k1, _, rfl, ?_⟩
  cases bi with
  | false => exact iteF q
  | true => exact iteT ⟨_, rfl, _, _, _, _, rfl, rfl, ty, k2, _, rfl, q⟩
theorem ok_law_names (T : Txt K mg A) : FnOk P w K mg base CX0 2 A.f_law_names A.d_law_names ["_law_script"] (spNames K) := by
  have G_law_cell_at := ok_law_cell_at (P := P) (w := w) (base := base) T
  refine T.F_law_names.ok sc_law_names (fun vs H Q E h => ?_) (fun cdv A0 outer s H vs' Q E hr h => ?_)
  · obtain ⟨a, ns, rfl, _⟩ := h
    rfl
  obtain ⟨a, ns, rfl, hS, hb, q⟩ := h
  refine ⟨_, (pss_cons (ps_set (i := 1) sc_law_names.nd rfl (by first | exact Or.inl rfl | exact Or.inr rfl) pe_str)
      (pss_cons (ps_set (i := 2) sc_law_names.nd rfl (by first | exact Or.inl rfl | exact Or.inr rfl) (pe_call G_law_cell_at (hr.mono (by decide)) rfl T.m_law_cell_at T.k_law_cell_at T.b_law_cell_at .nil pass0 (pa_cons (pv 0) (pa_cons pe_int pa_nil))))
      (pss_cons (ps_set (i := 3) sc_law_names.nd rfl (by first | exact Or.inl rfl | exact Or.inr rfl) (pe_op op_mod (pe_call G_law_cell_at (hr.mono (by decide)) rfl T.m_law_cell_at T.k_law_cell_at T.b_law_cell_at .nil pass0 (pa_cons (pv 0) (pa_cons pe_int pa_nil))) pe_int))
      (pss_cons (ps_set (i := 4) sc_law_names.nd rfl (by first | exact Or.inl rfl | exact Or.inr rfl) (pe_op op_add pe_int (pe_op op_mulB (pe_op op_mod (pv 2) pe_int) (pe_op op_sub pe_int (pv 3)))))
      (pss_cons (ps_set (i := 5) sc_law_names.nd rfl (by first | exact Or.inl rfl | exact Or.inr rfl) (pe_compR (compOk_of (x := "_law_j") (M := ["_law_script", "_law_letters", "_law_cell", "_law_way", "_law_size", "_law_base", "_law_at", "_law_names_here", "_law_k", "_law_name"]) rfl (by rfl)) rfl (pi_range1 rfl T.n_range (pa_cons (pv 4) pa_nil)) (fun _ _ _ _ => (pe_op op_mod (pe_op op_add (pe_op op_fdiv (pv 3) (pe_op op_add (pv 0) pe_int)) (pe_op op_mulB (pv 0) (pv 0))) pe_int))))
      (pss_cons (ps_set (i := 6) sc_law_names.nd rfl (by first | exact Or.inl rfl | exact Or.inr rfl) (pe_op op_mod (pe_op op_fdiv (pe_call G_law_cell_at (hr.mono (by decide)) rfl T.m_law_cell_at T.k_law_cell_at T.b_law_cell_at .nil pass0 (pa_cons (pv 0) (pa_cons pe_int pa_nil))) pe_int) (pv 4)))
      (pss_cons (ps_set (i := 7) sc_law_names.nd rfl (by first | exact Or.inl rfl | exact Or.inr rfl) (pe_lst pa_nil))
      (pss_cons (ps_forR PassesOwn.never rfl (pi_range1 rfl T.n_range (pa_cons pe_int pa_nil)) (pg_name (i := 8) sc_law_names.nd rfl (by first | exact Or.inl rfl | exact Or.inr rfl)) (pss_cons (ps_set (i := 9) sc_law_names.nd rfl (by first | exact Or.inl rfl | exact Or.inr rfl) (pe_bm PySem.F.plainAttrs_str PySem.F.slot_str_join PySem.F.type_str_join mt_join pe_str (pa_cons (pe_compR (compOk_of (x := "_law_j") (M := ["_law_script", "_law_letters", "_law_cell", "_law_way", "_law_size", "_law_base", "_law_at", "_law_names_here", "_law_k", "_law_name"]) rfl (by rfl)) rfl (pi_range1 rfl T.n_range (pa_cons (pv 4) pa_nil)) (fun _ _ _ _ => pe_eqv (by exact (pe_ix ix_str (pv 2) (pe_op op_mod (pe_op op_add (pe_ix ix_list (pv 6) (pv 0) (fun _ _ => rfl)) (pe_op op_mulB (pv 9) (pe_callTy call_int1 (by rfl) T.n_int Bt.int (pa_cons (pe_and (pe_cmpR op_eq (pv 4) pe_int (nomark _)) (pe_one (pe_cmpR op_eq (pv 0) (pv 7) (nomark _)))) pa_nil)))) pe_int) (fun _ _ => rfl))) (by dsimp only [compCx] <;> rfl))) pa_nil)))
      (pss_cons (ps_set (i := 9) sc_law_names.nd rfl (by first | exact Or.inl rfl | exact Or.inr rfl) (pe_op op_add_str (pv 9) (pe_op op_mul_str pe_str (pe_op op_mulB (pv 8) (pv 3)))))
      (pss_cons (ps_if (pt_cmpR op_in_seq (pv 9) (pe_lst (pa_cons pe_str (pa_cons pe_str (pa_cons pe_str (pa_cons pe_str (pa_cons pe_str (pa_cons pe_str (pa_cons pe_str (pa_cons pe_str pa_nil))))))))) (by rfl)) (pss_one (ps_set (i := 9) sc_law_names.nd rfl (by first | exact Or.inl rfl | exact Or.inr rfl) (pe_op op_add_str (pv 9) pe_str))) pss_nil)
      (pss_one (ps_expr (pe_bm PySem.F.plainAttrs_list PySem.F.slot_list_append PySem.F.type_list_append mt_append (pv 7) (pa_cons (pv 9) pa_nil))))))))
      (pss_one (ps_ret (pv 7))))))))))), ?_⟩
  refine ⟨_, rfl, a, ns, 0, rfl, hS, by decide, hb, fun c0 hc0 => ?_⟩
  refine ⟨_, rfl, a, ns, 1, rfl, hS, by decide, hb, fun c1 hc1 => ⟨_, _, rfl, rfl, (by show (0 : Int) < 2; decide), ?_⟩⟩
  have w0 : 0 ≤ c1 % 2 := Int.emod_nonneg _ (by decide)
  have w1 : c1 % 2 < 2 := Int.emod_lt_of_pos _ (by decide)
  have m0 : 0 ≤ c0 % 12 := Int.emod_nonneg _ (by decide)
  have m1 : c0 % 12 < 12 := Int.emod_lt_of_pos _ (by decide)
  refine ⟨_, rfl, _, _, rfl, rfl, (by show (0 : Int) < 12; decide), _, rfl, _, _, rfl, rfl, _, _, rfl, rfl, ⟨ib_k m0 (by omega), ib_k (by show 0 ≤ 1 - c1 % 2; omega) (by show 1 - c1 % 2 < 100; omega)⟩, _, _, rfl, rfl, ?_⟩
  obtain ⟨n, hn, hn1, hn2⟩ : ∃ n : Nat, 1 + c0 % 12 * (1 - c1 % 2) = (n : Int) ∧ 1 ≤ n ∧ (c1 % 2 = 0 → n ≤ 12) ∧ (c1 % 2 = 1 → n = 1) := by
    rcases (by omega : c1 % 2 = 0 ∨ c1 % 2 = 1) with e | e
    · rw [e]; exact ⟨(1 + c0 % 12).toNat, by omega, by omega, fun _ => by omega, fun z => (by cases z)⟩
    · rw [e]; exact ⟨1, by omega, by omega, fun z => (by cases z), fun _ => rfl⟩
  have hn12 : n ≤ 12 := by rcases (by omega : c1 % 2 = 0 ∨ c1 % 2 = 1) with e | e; (exact hn2.1 e); (have := hn2.2 e; omega)
  dsimp only
  rw [hn]
  refine ⟨_, rfl, _, rfl, (by omega), (by omega), ?_⟩
  rw [show ((n : Int)).toNat = n by omega]
  refine comp_rangeR (small_of (m := 12) hn12) (fun i ys H' => H = H' ∧ ∃ b : List Int, ys = b.map V.int ∧ ∀ c ∈ b, 0 ≤ c ∧ c < 26) ⟨rfl, [], rfl, fun c h => by cases h⟩ (fun i ys H' hi hl hw => ?_) (fun ys H' hl hw pb hpb => ?_)
  · obtain ⟨rfl, b, rfl, hc⟩ := hw
    refine ⟨_, rfl, _, rfl, _, _, rfl, rfl, _, _, rfl, rfl, ⟨by show (0 : Int) < 0 + (i : Nat) + 1; omega, by show (0 : Int) + (i : Nat) + 1 < 1073741824; omega⟩, ?_⟩
    refine ⟨_, rfl, _, rfl, _, _, rfl, rfl, ⟨ib_k (by omega) (by omega), ib_k (by omega) (by omega)⟩, _, _, rfl, rfl, _, _, rfl, rfl, (by show (0 : Int) < 26; decide), rfl, b ++ [_], (by rw [List.map_append]; rfl), fun k hk => ?_⟩
    rcases List.mem_append.mp hk with z | z
    · exact hc k z
    · rw [List.mem_singleton.mp z]; exact ⟨Int.emod_nonneg _ (by decide), Int.emod_lt_of_pos _ (by decide)⟩
  obtain ⟨rfl, b, rfl, hc⟩ := hw
  rw [List.length_map] at hl
  have sb := same_new hpb (.lst (b.map V.int))
  refine ⟨_, rfl, a, ns, 1, rfl, sb.seq hS, by decide, hb, fun c2 hc2 => ?_⟩
  refine ⟨_, _, rfl, rfl, ⟨by decide, by decide⟩, _, rfl, _, _, rfl, rfl, (by show (0 : Int) < (n : Nat); omega), ?_⟩
  refine ⟨(by show 0 ≤ sizeLine; decide), fun pn hpn => ?_⟩
  have sn := same_new hpn (.lst [])
  have hpn0 : H pn = none := by
    cases e : H pn with
    | none => rfl
    | some o => rw [sb pn o e] at hpn; cases hpn
  refine ⟨_, rfl, (by decide), (by decide), ?_⟩
  dsimp only
  generalize ht : c2 / 2 % ((n : Nat) : Int) = t
  have hw01 : c1 % 2 = 0 ∨ c1 % 2 = 1 := by omega
  generalize hwy : c1 % 2 = wy at hw01 hn2
  refine for_rangeR (n := 12) (fun i σ H' => (∃ u v, σ = [some (.ref a), some (.str (Str.ofString "abcdefghijklmnopqrstuvwxyz")), some (.int c0), some (.int wy), some (.int (n : Nat)), some (.ref pb), some (.int t), some (.ref pn), u, v]) ∧ Same H H' ∧ H' pb = some (.lst (b.map V.int)) ∧ ∃ zs : List Str, zs.length = i ∧ (∀ z ∈ zs, nameB z = true) ∧ H' pn = some (.lst (zs.map V.str))) ⟨⟨_, _, rfl⟩, sb.trans sn, sn _ _ upd_same, [], rfl, fun z h => (by cases h), upd_same⟩ (fun i σ H' hi hp => ?_) (fun σ H' hp => ?_)
  · obtain ⟨⟨u, v, rfl⟩, sH, hpb', zs, hzl, hzn, hpn'⟩ := hp
    refine ⟨rfl, _, rfl, _, rfl, (by omega), (by omega), ?_⟩
    rw [show ((n : Int)).toNat = n by omega]
    refine comp_rangeR (n := n) (small_of (m := 12) hn12) (fun j ys G => H' = G ∧ ∃ l : List Nat, ys = (l.map fun c => V.str (S [c])) ∧ ∀ c ∈ l, 97 ≤ c ∧ c ≤ 122) ⟨rfl, [], rfl, fun c h => by cases h⟩ (fun j ys G hj hl2 hw => ?_) (fun ys G hl2 hw p hpp => ?_)
    · obtain ⟨sG, l, rfl, hlc⟩ := hw
      subst sG
      have sG : H' = H' := rfl
      obtain ⟨x, hx1, hx2⟩ := at_some (l := b.map V.int) (i := (0 + (j : Int))) (by omega) (by rw [List.length_map]; omega)
      obtain ⟨bv, hbv, rfl⟩ := map_get hx2
      refine ⟨_, rfl, _, rfl, _, rfl, pb, _, _, _, rfl, rfl, SqL.of hpb', hx1, _, rfl, _, rfl, rfl, _, rfl, ite2 (fun _ => ?_) (fun _ => ?_)⟩
      · refine ⟨_, rfl, _, rfl, rfl, .inr ⟨_, rfl, _, _, rfl, rfl, ⟨ib_k (by omega) (by omega), by split <;> decide⟩, _, _, rfl, rfl, _, _, rfl, rfl, (by show (0 : Int) < 26; decide), ?_⟩⟩
        obtain ⟨c, hc1, hc2⟩ := let_at ((bv + (0 + (i : Int)) * (if (decide (V.int (0 + (j : Int)) = V.int t)) = true then 1 else 0)) % 26) (Int.emod_nonneg _ (by decide)) (Int.emod_lt_of_pos _ (by decide))
        refine ⟨_, _, c, rfl, rfl, (by decide +kernel), hc1, sG, l ++ [c], (by rw [List.map_append]; rfl), fun d hd => ?_⟩
        rcases List.mem_append.mp hd with z | z
        · exact hlc d z
        · rw [List.mem_singleton.mp z]; exact hc2
      · refine .inr ⟨_, rfl, _, _, rfl, rfl, ⟨ib_k (by omega) (by omega), by split <;> decide⟩, _, _, rfl, rfl, _, _, rfl, rfl, (by show (0 : Int) < 26; decide), ?_⟩
        obtain ⟨c, hc1, hc2⟩ := let_at ((bv + (0 + (i : Int)) * (if false = true then 1 else 0)) % 26) (Int.emod_nonneg _ (by decide)) (Int.emod_lt_of_pos _ (by decide))
        refine ⟨_, _, c, rfl, rfl, (by decide +kernel), hc1, sG, l ++ [c], (by rw [List.map_append]; rfl), fun d hd => ?_⟩
        rcases List.mem_append.mp hd with z | z
        · exact hlc d z
        · rw [List.mem_singleton.mp z]; exact hc2
    · obtain ⟨rfl, l, rfl, hlc⟩ := hw
      rw [List.length_map] at hl2
      have sp := same_new hpp (.lst (l.map fun c => V.str (S [c])))
      refine ⟨_, p, one l, rfl, rfl, .inl (SqL.of (by rw [upd_same, one_map])), (by rw [one_sum]; show _ + _ * 0 ≤ _; omega), ?_⟩
      rw [show joinS (Str.ofString "") (one l) = S l from one_join _]
      obtain ⟨m, hm, hm1, hm2⟩ : ∃ m : Nat, (0 + (i : Int)) * wy = (m : Int) ∧ n + m ≤ 12 ∧ m ≤ 12 := by
        rcases hw01 with e | e
        · exact ⟨0, by rw [e]; omega, by omega, by omega⟩
        · have := hn2.2 e
          exact ⟨i, by rw [e]; omega, by omega, by omega⟩
      have hwb : ib wy ≤ 60000000 := ib_k (by omega) (by omega)
      refine ⟨_, rfl, _, rfl, _, rfl, _, _, rfl, rfl, ⟨ib_k (by omega) (by omega), hwb⟩, ?_⟩
      dsimp only
      rw [hm]
      have ee : cd (Str.ofString "e") = [101] := by decide +kernel
      have el : (Str.ofString "e").length = 1 := by decide +kernel
      refine ⟨_, _, rfl, rfl, by omega, by omega, by rw [el]; omega, by rw [el]; decide, ?_⟩
      rw [ee, show ((m : Int)).toNat = m by omega]
      have hrl := repN_len [101] m
      rw [show ([101] : List Nat).length = 1 from rfl, Nat.mul_one] at hrl
      refine ⟨_, _, rfl, rfl, small_of (m := 100) (by rw [len_S, len_S]; omega), ?_⟩
      rw [S_app]
      generalize hL : l ++ repN [101] m = L
      have hLl : L.length = n + m := by rw [← hL, List.length_append]; omega
      have hLc : ∀ c ∈ L, 97 ≤ c ∧ c ≤ 122 := fun c hc => by
        rw [← hL] at hc
        rcases List.mem_append.mp hc with e | e
        · exact hlc c e
        · have := repN_mem m e; omega
      have s1 : Same H (upd H' p (.lst (l.map fun c => V.str (S [c])))) := sH.trans sp
      refine ⟨_, rfl, (by show 8 ≤ sizeLine; decide), fun p2 hp2 => ⟨p2, _, rfl, .inl (SqL.of upd_same), rfl, rfl, _, rfl, ?_⟩⟩
      have sp2 := same_new hp2 (.lst (KW.map V.str))
      have s2 := s1.trans sp2
      have hpb2 := sp2 _ _ (sp _ _ hpb')
      have hpn2 := sp2 _ _ (sp _ _ hpn')
      generalize hG : upd (upd H' p (.lst (l.map fun c => V.str (S [c])))) p2 (.lst (KW.map V.str)) = G at s2 hpb2 hpn2
      have hG' : upd (upd H' p (.lst (l.map fun c => V.str (S [c])))) p2 (.lst [V.str (Str.ofString "and"), V.str (Str.ofString "each"), V.str (Str.ofString "end"), V.str (Str.ofString "is"), V.str (Str.ofString "not"), V.str (Str.ofString "or"), V.str (Str.ofString "unless"), V.str (Str.ofString "when")]) = G := hG
      rw [hG']
      have fin : ∀ y : Str, nameB y = true → Same H (upd G pn (.lst (zs.map V.str ++ [.str y]))) ∧ upd G pn (.lst (zs.map V.str ++ [.str y])) pb = some (.lst (b.map V.int)) ∧ ∃ zs' : List Str, zs'.length = i + 1 ∧ (∀ z ∈ zs', nameB z = true) ∧ upd G pn (.lst (zs.map V.str ++ [.str y])) pn = some (.lst (zs'.map V.str)) := fun y hy => by
        refine ⟨fun x o ho => by rw [upd_ne (ne_of_none ho hpn0)]; exact s2 x o ho, ?_, zs ++ [y], by rw [List.length_append, hzl]; rfl, fun z hz => ?_, by rw [upd_same, List.map_append]; rfl⟩
        · have : pb ≠ pn := fun e => by rw [← e, upd_same] at hpn; cases hpn
          rw [upd_ne this]; exact hpb2
        · rcases List.mem_append.mp hz with e | e
          · exact hzn z e
          · rw [List.mem_singleton.mp e]; exact hy
      have hsz : (zs.map V.str).length < sizeLine := by
        have := small_of (n := 100) (m := 100) (Nat.le_refl _)
        rw [List.length_map]; omega
      show if (inV (.str (S L)) (KW.map V.str)) = true then _ else _
      rw [inV_strs]
      refine ite2 (fun c => ?_) (fun c => ?_)
      · have c' : S L ∈ KW := of_decide_eq_true c
        have hx := kw_x _ c'
        refine ⟨_, rfl, _, _, rfl, rfl, small_of (m := 100) (by have := kw_len _ c'; rw [show (Str.ofString "x").length = 1 by decide +kernel]; omega), ?_⟩
        obtain ⟨f1, f2, f3⟩ := fin _ hx
        exact ⟨_, rfl, Or.inl ⟨rfl, _, SqL.of hpn2⟩, _, rfl, pn, _, _, rfl, rfl, hpn2, hsz, ⟨_, _, rfl⟩, f1, f2, f3⟩
      · have hx : nameB (S L) = true := name_of ⟨by omega, by omega, hLc⟩ fun z => c (decide_eq_true z)
        obtain ⟨f1, f2, f3⟩ := fin _ hx
        exact ⟨_, rfl, Or.inl ⟨rfl, _, SqL.of hpn2⟩, _, rfl, pn, _, _, rfl, rfl, hpn2, hsz, ⟨_, _, rfl⟩, f1, f2, f3⟩
  · obtain ⟨⟨u, v, rfl⟩, sH, _, zs, hzl, hzn, hpn'⟩ := hp
    exact ⟨_, rfl, q pn zs _ hzl hzn sH hpn'⟩
end
end K13
set_option maxHeartbeats 1000000
namespace K13
open PySem L2
seal PE PT PW PA PS PSs PG PGs PI PO PSet OpR UnR CallR TruR IxR SlR PC PPs
local macro_rules | `(tactic| walk_at "rd1") => `(tactic| first
  | (refine And.intro rfl ?_)
  | (refine And.intro (by assumption) ?_)
  | (refine And.intro (fun _ e => e) ?_)
  | (refine And.intro (TyOf.str _) ?_) | (refine And.intro (TyOf.int _) ?_) | (refine And.intro (TyOf.bl _) ?_) | (refine And.intro TyOf.non ?_)
  | (refine iteT ?_) | (refine iteF ?_)
  | (apply Exists.intro))
local macro_rules | `(tactic| walk_at "rd") => `(tactic| repeat (walk_at "rd1"))

theorem ib_add7 {x : Int} {m : Nat} (h : ib x ≤ m) : ib (x + 7) ≤ m + 3 := by
  refine intBits_le_iff.mpr ?_
  have h1 : x.natAbs < 2 ^ m := intBits_le_iff.mp h
  have h2 : 0 < 2 ^ m := Nat.two_pow_pos m
  rw [Nat.pow_add]
  generalize 2 ^ m = y at h1 h2
  have : (2 : Nat) ^ 3 = 8 := by decide
  rw [this]
  omega
theorem ib_mul {a b : Int} {m k : Nat} (h : ib a ≤ m) (h' : ib b ≤ k) : ib (a * b) ≤ m + k := by
  refine intBits_le_iff.mpr ?_
  have h1 : a.natAbs < 2 ^ m := intBits_le_iff.mp h
  have h2 : b.natAbs < 2 ^ k := intBits_le_iff.mp h'
  rw [Int.natAbs_mul, Nat.pow_add]
  exact Nat.mul_lt_mul_of_lt_of_lt h1 h2
theorem ibc {x : Int} (h : x.natAbs < 2 ^ 256) : ib x ≤ 60000000 := Nat.le_trans (ib_big (m := 256) h) (by decide)
section
variable {P : Program} {w : World} {K : PySem.W.Frag} {mg : Str → Option Value} {base : Heap} {A : Adr}
theorem ok_law_number (T : Txt K mg A) : FnOk P w K mg base CX0 1 A.f_law_number A.d_law_number ["_law_cell"] spNumber := by
  refine T.F_law_number.ok sc_law_number (fun vs H Q E h => ?_) (fun cdv A0 outer s H vs Q E hr h => ?_)
  · obtain ⟨n, rfl, _⟩ := h
    rfl
  obtain ⟨n, rfl, hb, q⟩ := h
  refine ⟨_, (pss_cons (ps_if (pt_cmpR op_eq (pe_op op_mod (pv 0) pe_int) pe_int (nomark _)) (pss_one (ps_ret (pe_op op_sub (pe_op op_mod (pe_op op_fdiv (pv 0) pe_int) pe_int) pe_int))) pss_nil)
      (pss_cons (ps_if (pt_cmpR op_eq (pe_op op_mod (pv 0) pe_int) pe_int (nomark _)) (pss_one (ps_ret (pe_op op_sub (pe_op op_mod (pe_op op_mulB (pe_op op_fdiv (pv 0) pe_int) pe_int) (pe_op op_add (pe_op op_mulB pe_int (pe_op op_pow pe_int pe_int)) pe_int)) (pe_op op_pow pe_int pe_int)))) pss_nil)
      (pss_one (ps_ret (pe_op op_sub (pe_op op_mod (pe_op op_mulB (pe_op op_mulB (pe_op op_add (pe_op op_fdiv (pv 0) pe_int) pe_int) pe_int) (pe_op op_pow pe_int pe_int)) (pe_op op_add (pe_op op_mulB pe_int (pe_op op_pow pe_int pe_int)) pe_int)) (pe_op op_pow pe_int pe_int)))))), ?_⟩
  have hb3 : ib (n / 3) ≤ 1048600 := ib_div (by decide) hb
  have p60 : (1000 : Nat) < 10 ^ 60 := by decide +kernel
  refine ⟨_, rfl, _, _, rfl, rfl, (by show (0 : Int) < 3; decide), rfl, _, rfl, ite2 (fun _ => ?_) (fun _ => ?_)⟩
  · have r0 : 0 ≤ n / 3 % 25 := Int.emod_nonneg _ (by decide)
    have r1 : n / 3 % 25 < 25 := Int.emod_lt_of_pos _ (by decide)
    refine ⟨_, rfl, _, _, rfl, rfl, ⟨by decide, by decide⟩, _, _, rfl, rfl, (by show (0 : Int) < 25; decide), _, _, rfl, rfl, q _ ?_⟩
    show (n / 3 % 25 - 12).natAbs < 10 ^ 60
    omega
  refine ⟨_, rfl, _, _, rfl, rfl, (by show (0 : Int) < 3; decide), rfl, _, rfl, ite2 (fun _ => ?_) (fun _ => ?_)⟩
  · refine ⟨_, rfl, _, _, rfl, rfl, ⟨by decide, by decide⟩, _, _, rfl, rfl, ⟨Nat.le_trans hb3 (by decide), by decide⟩, ?_⟩
    refine ⟨_, _, rfl, rfl, ⟨by decide, by decide, by decide⟩, _, _, rfl, rfl, ⟨by decide, ibc (by decide +kernel)⟩, _, _, rfl, rfl, _, _, rfl, rfl, (by show (0 : Int) < 2 * 10 ^ (18 : Int).toNat + 1; decide +kernel), ?_⟩
    refine ⟨_, _, rfl, rfl, ⟨by decide, by decide, by decide⟩, _, _, rfl, rfl, q _ ?_⟩
    have r0 := Int.emod_nonneg (n / 3 * 69621) (b := 2 * 10 ^ (18 : Int).toNat + 1) (by decide +kernel)
    have r1 := Int.emod_lt_of_pos (n / 3 * 69621) (b := 2 * 10 ^ (18 : Int).toNat + 1) (by decide +kernel)
    show (n / 3 * 69621 % (2 * 10 ^ (18 : Int).toNat + 1) - 10 ^ (18 : Int).toNat).natAbs < 10 ^ 60
    have e18 : (10 : Int) ^ (18 : Int).toNat = 1000000000000000000 := by decide +kernel
    have b60 : (1000000000000000001 : Nat) < 10 ^ 60 := by decide +kernel
    rw [e18] at r0 r1 ⊢
    generalize n / 3 * 69621 % (2 * 1000000000000000000 + 1) = r at r0 r1
    omega
  · have h7 : ib (n / 3 + 7) ≤ 1048603 := ib_add7 hb3
    have h8 : ib ((n / 3 + 7) * 982451653) ≤ 60000000 := Nat.le_trans (ib_mul h7 (show ib (982451653 : Int) ≤ 64 from ib_small (by decide) (by decide))) (by decide)
    refine ⟨_, rfl, _, _, rfl, rfl, ⟨by decide, by decide⟩, _, _, rfl, rfl, _, _, rfl, rfl, ⟨Nat.le_trans h7 (by decide), by decide⟩, ?_⟩
    refine ⟨_, _, rfl, rfl, ⟨by decide, by decide, by decide⟩, _, _, rfl, rfl, ⟨h8, ibc (by decide +kernel)⟩, ?_⟩
    refine ⟨_, _, rfl, rfl, ⟨by decide, by decide, by decide⟩, _, _, rfl, rfl, ⟨by decide, ibc (by decide +kernel)⟩, _, _, rfl, rfl, _, _, rfl, rfl, (by show (0 : Int) < 2 * 10 ^ (59 : Int).toNat + 9; decide +kernel), ?_⟩
    refine ⟨_, _, rfl, rfl, ⟨by decide, by decide, by decide⟩, _, _, rfl, rfl, q _ ?_⟩
    have r0 := Int.emod_nonneg ((n / 3 + 7) * 982451653 * 10 ^ (42 : Int).toNat) (b := 2 * 10 ^ (59 : Int).toNat + 9) (by decide +kernel)
    have r1 := Int.emod_lt_of_pos ((n / 3 + 7) * 982451653 * 10 ^ (42 : Int).toNat) (b := 2 * 10 ^ (59 : Int).toNat + 9) (by decide +kernel)
    show ((n / 3 + 7) * 982451653 * 10 ^ (42 : Int).toNat % (2 * 10 ^ (59 : Int).toNat + 9) - 10 ^ (59 : Int).toNat).natAbs < 10 ^ 60
    generalize (n / 3 + 7) * 982451653 * 10 ^ (42 : Int).toNat % (2 * 10 ^ (59 : Int).toNat + 9) = r at r0 r1
    have hb1 : (10 : Int) ^ (59 : Int).toNat + 9 < ((10 ^ 60 : Nat) : Int) := by decide +kernel
    have hb2 : (0 : Int) < (10 : Int) ^ (59 : Int).toNat := by decide +kernel
    generalize (10 : Int) ^ (59 : Int).toNat = y at r1 hb1 hb2
    generalize (10 : Nat) ^ 60 = z at hb1
    omega
theorem ok_law_part (T : Txt K mg A) : FnOk P w K mg base CX0 2 A.f_law_part A.d_law_part ["_law_cell", "_law_names_here", "_law_used"] (spPartL K) := by
  have G_law_number := ok_law_number (P := P) (w := w) (base := base) T
  refine T.F_law_part.ok sc_law_part (fun vs H Q E h => ?_) (fun cdv A0 outer s H vs Q E hr h => ?_)
  · obtain ⟨c, pn, pu, zs, us, rfl, _⟩ := h
    rfl
  obtain ⟨c, pn, pu, zs, us, rfl, hb, hpn, hzl, hzn, hpu, hfl, q⟩ := h
  refine ⟨_, (pss_cons (ps_set (i := 3) sc_law_part.nd rfl (by first | exact Or.inl rfl | exact Or.inr rfl) (pe_ix ix_list (pv 1) (pe_op op_mod (pe_op op_mod (pe_op op_mulB (pv 0) pe_int) pe_int) pe_int) (fun _ _ => rfl)))
      (pss_cons (ps_set (i := 4) sc_law_part.nd rfl (by first | exact Or.inl rfl | exact Or.inr rfl) (pe_call G_law_number (hr.mono (by decide)) rfl T.m_law_number T.k_law_number T.b_law_number .nil pass0 (pa_cons (pe_op op_fdiv (pv 0) pe_int) pa_nil)))
      (pss_cons (ps_if (PW.pt (pw_or (pt_cmpR op_eq (pe_op op_mod (pv 0) pe_int) pe_int (nomark _)) (pw_or1 (pt_cmpR op_in_seq (pv 3) (pv 2) (by rfl))))) (pss_one (ps_ret (pe_tup (pa_cons (pv 4) (pa_cons pe_non pa_nil))))) pss_nil)
      (pss_cons (ps_if (pt_cmpR op_eq (pe_op op_mod (pv 0) pe_int) pe_int (nomark _)) (pss_one (ps_ret (pe_tup (pa_cons (pe_op op_sub pe_int (pe_op op_mulB (pe_op op_mod (pe_op op_fdiv (pv 0) pe_int) pe_int) pe_int)) (pa_cons (pv 3) pa_nil))))) pss_nil)
      (pss_cons (ps_if (pt_cmpR op_eq (pv 4) pe_int (nomark _)) (pss_one (ps_set (i := 4) sc_law_part.nd rfl (by first | exact Or.inl rfl | exact Or.inr rfl) pe_int)) pss_nil)
      (pss_one (ps_ret (pe_tup (pa_cons (pv 4) (pa_cons (pv 3) pa_nil)))))))))), ?_⟩
  have i0 : 0 ≤ c * 48271 % 2147483647 % 12 := Int.emod_nonneg _ (by decide)
  have i1 : c * 48271 % 2147483647 % 12 < 12 := Int.emod_lt_of_pos _ (by decide)
  obtain ⟨x, hx1, hx2⟩ := at_some (l := zs.map V.str) i0 (by rw [List.length_map, hzl]; exact i1)
  obtain ⟨z, hz, rfl⟩ := map_get hx2
  have hzn' := hzn z (List.mem_of_getElem? hz)
  refine ⟨_, rfl, _, rfl, _, _, rfl, rfl, ⟨Nat.le_trans hb (by decide), by decide⟩, _, _, rfl, rfl, (by show (0 : Int) < 2147483647; decide), _, _, rfl, rfl, (by show (0 : Int) < 12; decide), pn, _, _, _, rfl, rfl, hpn, hx1, ?_⟩
  refine ⟨_, rfl, _, _, rfl, rfl, ⟨by decide, by decide⟩, _, rfl, Nat.le_trans (ib_div (by decide) hb) (by decide), fun m hm => ?_⟩
  have p60 : (1000 : Nat) < 10 ^ 60 := by decide +kernel
  have non : ∀ (D : Ends), D.rt = Q → tRet (tTup (tCons (tVar 4) (tCons (tC .non) tNil))) D [some (.int c), some (.ref pn), some (.ref pu), some (.str z), some (.int m)] H := fun D eD => by
    refine ⟨_, rfl, (by show 2 ≤ sizeLine; decide), fun t ht => ?_⟩
    rw [eD]
    exact q _ (m, none) _ (same_new ht _) ⟨t, rfl, SqT.of upd_same⟩ ⟨hm, fun z e => by cases e⟩ (fun z e => by cases e)
  refine ⟨_, rfl, _, _, rfl, rfl, (by show (0 : Int) < 5; decide), rfl, _, rfl, ite2 (fun _ => ?_) (fun _ => ?_)⟩
  · exact iteT (non _ rfl)
  refine ⟨_, rfl, _, rfl, pu, _, rfl, .inl hpu, rfl, hfl, _, rfl, ite2 (fun _ => non _ rfl) (fun d => ?_)⟩
  have d' : inV (.str z) us = false := Bool.eq_false_iff.mpr d
  refine ⟨_, rfl, _, _, rfl, rfl, (by show (0 : Int) < 5; decide), rfl, _, rfl, ite2 (fun _ => ?_) (fun _ => ?_)⟩
  · have r0 : 0 ≤ c / 5 % 2 := Int.emod_nonneg _ (by decide)
    have r1 : c / 5 % 2 < 2 := Int.emod_lt_of_pos _ (by decide)
    refine ⟨_, rfl, _, _, rfl, rfl, ⟨by decide, by decide⟩, _, _, rfl, rfl, (by show (0 : Int) < 2; decide), _, _, rfl, rfl, ⟨ib_k r0 (by show c / 5 % 2 < 100; omega), by decide⟩, _, _, rfl, rfl, _, rfl, (by show 2 ≤ sizeLine; decide), fun t ht => ?_⟩
    refine q _ (1 - c / 5 % 2 * 2, some z) _ (same_new ht _) ⟨t, rfl, SqT.of upd_same⟩ ⟨?_, fun y e => ?_⟩ (fun y e => by cases e; exact ⟨d', List.mem_of_getElem? hz⟩)
    · show (1 - c / 5 % 2 * 2).natAbs < 10 ^ 60
      omega
    · cases e
      refine ⟨hzn', ?_⟩
      show 1 - c / 5 % 2 * 2 ≠ 0
      omega
  · have fin : ∀ m' : Int, m'.natAbs < 10 ^ 60 → m' ≠ 0 → ∀ t, H t = none → Q (.ref t) (upd H t (.tup [.int m', .str z])) := fun m' h1 h2 t ht => q _ (m', some z) _ (same_new ht _) ⟨t, rfl, SqT.of upd_same⟩ ⟨h1, fun y e => by cases e; exact ⟨hzn', h2⟩⟩ (fun y e => by cases e; exact ⟨d', List.mem_of_getElem? hz⟩)
    refine ⟨_, rfl, rfl, _, rfl, ite2 (fun _ => ?_) (fun e => ?_)⟩
    · exact ⟨_, rfl, _, rfl, (by show 2 ≤ sizeLine; decide), fin 2 (by omega) (by decide)⟩
    · exact ⟨_, rfl, _, rfl, (by show 2 ≤ sizeLine; decide), fin m hm (fun z => e (decide_eq_true (by rw [z])))⟩
end
end K13
set_option maxHeartbeats 1000000
namespace K13
open PySem L2
seal PE PT PW PA PS PSs PG PGs PI PO PSet OpR UnR CallR TruR IxR SlR PC PPs
local macro_rules | `(tactic| walk_at "rd1") => `(tactic| first
  | (refine And.intro rfl ?_)
  | (refine And.intro (by assumption) ?_)
  | (refine And.intro (fun _ e => e) ?_)
  | (refine And.intro (TyOf.str _) ?_) | (refine And.intro (TyOf.int _) ?_) | (refine And.intro (TyOf.bl _) ?_) | (refine And.intro TyOf.non ?_)
  | (refine iteT ?_) | (refine iteF ?_)
  | (apply Exists.intro))
local macro_rules | `(tactic| walk_at "rd") => `(tactic| repeat (walk_at "rd1"))

theorem tt_true {σ : St} {H : Hp} {a b : Hp → Prop} (h : a H) : tTrue σ H (fun c H3 => if c = true then a H3 else b H3) := by
  show if true = true then a H else b H
  rw [if_pos rfl]; exact h
theorem SqT.updL {K : PySem.W.Frag} {H : Hp} {a pl : Addr} {xs ys : List V} {o : HO} (h : SqT K H a xs) (hp : H pl = some (.lst ys)) : SqT K (upd H pl o) a xs := by
  rcases h with h | h
  · left
    rcases h with h | ⟨o', h⟩
    · exact .inl (by rw [upd_ne (ne_of h hp (by intro z; cases z))]; exact h)
    · exact .inr ⟨o', by rw [upd_ne (ne_of h hp (by intro z; cases z))]; exact h⟩
  · exact .inr h
theorem PsR.updL {K : PySem.W.Frag} {H : Hp} {pl : Addr} {xs ys : List V} {ps : List Part} {o : HO} (h : PsR K H xs ps) (hp : H pl = some (.lst ys)) : PsR K (upd H pl o) xs ps := by
  induction h with
  | nil => exact .nil
  | cons a _ ih => obtain ⟨b, e, hb⟩ := a; exact .cons ⟨b, e, SqT.updL hb hp⟩ ih
def spPartsBy (K : PySem.W.Frag) : Sp := fun vs H Q _ => ∃ (pc pn : Addr) (ms : List Int) (zs : List Str), vs = [.ref pc, .ref pn] ∧ SqL K H pc (ms.map V.int) ∧ 1 ≤ ms.length ∧ ms.length ≤ 12 ∧ (∀ n ∈ ms, ib n ≤ 1048576) ∧ SqL K H pn (zs.map V.str) ∧ zs.length = 12 ∧ (∀ z ∈ zs, nameB z = true) ∧
  ∀ (pl : Addr) (xs : List V) (ps : List Part) (H' : Hp), Same H H' → H' pl = some (.lst xs) → PsR K H' xs ps → ps ≠ [] → ps.length ≤ 12 → (∀ p ∈ ps, PGood p) → (ps.filterMap (·.2)).Nodup → (∀ p ∈ ps, ∀ z, p.2 = some z → z ∈ zs) → Q (.ref pl) H'
theorem used_in {ps : List Part} {z : Str} (h : z ∈ ps.filterMap (·.2)) : inV (.str z) (ps.map fun p => nv p.2) = true := by
  obtain ⟨p, hp, e⟩ := List.mem_filterMap.mp h
  unfold inV
  rw [List.any_eq_true]
  refine ⟨nv p.2, List.mem_map.mpr ⟨p, hp, rfl⟩, ?_⟩
  rw [e]
  show (z == z) = true
  exact beq_self_eq_true z
theorem flat_nv (ps : List Part) : (ps.map fun p => nv p.2).all flatV = true := by
  rw [List.all_map, List.all_eq_true]
  intro p _
  show flatV (nv p.2) = true
  cases p.2 <;> rfl
section
variable {P : Program} {w : World} {K : PySem.W.Frag} {mg : Str → Option Value} {base : Heap} {A : Adr}
theorem ok_law_parts_by (T : Txt K mg A) : FnOk P w K mg base CX0 3 A.f_law_parts_by A.d_law_parts_by ["_law_cells", "_law_names_here"] (spPartsBy K) := by
  have G_law_part := ok_law_part (P := P) (w := w) (base := base) T
  refine T.F_law_parts_by.ok sc_law_parts_by (fun vs H Q E h => ?_) (fun cdv A0 outer s H vs' Q E hr h => ?_)
  · obtain ⟨pc, pn, ms, zs, rfl, _⟩ := h
    rfl
  obtain ⟨pc, pn, ms, zs, rfl, hpc, hm1, hm12, hbits, hpn, hzl, hzn, q⟩ := h
  refine ⟨_, (pss_cons (ps_set (i := 2) sc_law_parts_by.nd rfl (by first | exact Or.inl rfl | exact Or.inr rfl) (pe_lst pa_nil))
      (pss_cons (ps_forR PassesOwn.never rfl (pi_list (pv 0)) (pg_name (i := 3) sc_law_parts_by.nd rfl (by first | exact Or.inl rfl | exact Or.inr rfl)) (pss_one (ps_expr (pe_bm PySem.F.plainAttrs_list PySem.F.slot_list_append PySem.F.type_list_append mt_append (pv 2) (pa_cons (pe_call G_law_part (hr.mono (by decide)) rfl T.m_law_part T.k_law_part T.b_law_part .nil pass0 (pa_cons (pv 3) (pa_cons (pv 1) (pa_cons (pe_compT (compOk2_of (compOk_of (x := "_law_times") (M := ["_law_cells", "_law_names_here", "_law_parts", "_law_one"]) rfl (by rfl)) (by rfl) (by decide +kernel)) rfl (pi_list (pv 2)) (fun _ _ _ _ => pifs_nil) (fun _ _ _ _ => (pv 1))) pa_nil)))) pa_nil)))))
      (pss_one (ps_ret (pv 2))))), ?_⟩
  refine ⟨(by show 0 ≤ sizeLine; decide), fun pl hpl => ?_⟩
  have sl := same_new hpl (.lst [])
  refine ⟨_, rfl, pc, rfl, ⟨_, sl.seq hpc⟩, ?_⟩
  refine for_listR (xs := ms.map V.int) (fun i σ H' => (∃ u, σ = [some (.ref pc), some (.ref pn), some (.ref pl), u]) ∧ Same H H' ∧ ∃ (xs : List V) (ps : List Part), H' pl = some (.lst xs) ∧ PsR K H' xs ps ∧ ps.length = i ∧ (∀ p ∈ ps, PGood p) ∧ (ps.filterMap (·.2)).Nodup ∧ (∀ p ∈ ps, ∀ z, p.2 = some z → z ∈ zs)) ⟨⟨_, rfl⟩, sl, [], [], upd_same, .nil, rfl, fun p hp => (by cases hp), List.nodup_nil, fun p hp => (by cases hp)⟩ (fun i σ H' _ hh => hh.2.1.seq hpc) (fun i x σ H' hx hh => ?_) (fun σ H' hh => ?_)
  · obtain ⟨⟨u, rfl⟩, sH, xs, ps, hx1, hps, hpl', hgd, hnd, hmz⟩ := hh
    obtain ⟨c, hci, rfl⟩ := map_get hx
    have hil := (List.getElem?_eq_some_iff.mp hci).1
    refine ⟨_, rfl, Or.inl ⟨rfl, _, SqL.of hx1⟩, _, rfl, _, rfl, _, rfl, pl, rfl, ⟨_, SqL.of hx1⟩, ?_⟩
    refine comp_listT (xs := xs) (small_of (m := 100) (by rw [hps.len]; omega)) (fun j ys G => H' = G ∧ ys = (ps.take j).map fun p => nv p.2) ⟨rfl, rfl⟩ (fun j ys G hw => hw.1 ▸ SqL.of hx1) (fun j x ys G hxj _ hw => ?_) (fun ys G hw p2 hp2 => ?_)
    · obtain ⟨rfl, rfl⟩ := hw
      obtain ⟨p, hpj, a, rfl, ha⟩ := hps.at hxj
      refine ⟨a, _, _, rfl, ha, tt_true ?_⟩
      refine ⟨_, rfl, rfl, ?_⟩
      rw [List.take_succ, hpj, List.map_append]; rfl
    · obtain ⟨rfl, rfl⟩ := hw
      rw [hps.len, List.take_length]
      have s2 := same_new hp2 (.lst (ps.map fun p => nv p.2))
      refine ⟨c, pn, p2, zs, _, rfl, hbits c (List.mem_of_getElem? hci), (sH.trans s2).seq hpn, hzl, hzn, SqL.of upd_same, flat_nv ps, fun x p H3 s3 hpr hgp hnu => ?_⟩
      have s13 := s2.trans s3
      have hx3 : H3 pl = some (.lst xs) := s13 _ _ hx1
      refine ⟨pl, _, _, rfl, rfl, hx3, ?_, ⟨_, rfl⟩, ?_, xs ++ [x], ps ++ [p], upd_same, ?_, ?_, ?_, ?_, ?_⟩
      · have := small_of (n := 100) (m := 100) (Nat.le_refl _)
        rw [hps.len]; omega
      · intro b o hb
        rw [upd_ne (ne_of_none hb hpl)]; exact (sH.trans s13) b o hb
      · obtain ⟨a, e, ha⟩ := hpr
        exact paired_app (PsR.updL (hps.same s13) hx3) (.cons ⟨a, e, SqT.updL ha hx3⟩ .nil)
      · rw [List.length_append, hpl']; rfl
      · intro p' hp'
        rcases List.mem_append.mp hp' with e | e
        · exact hgd p' e
        · rw [List.mem_singleton.mp e]; exact hgp
      · rw [List.filterMap_append]
        obtain ⟨t, n⟩ := p
        cases n with
        | none => show (ps.filterMap (fun p : Part => p.2) ++ []).Nodup; rw [List.append_nil]; exact hnd
        | some z =>
          show (ps.filterMap (fun p : Part => p.2) ++ [z]).Nodup
          rw [List.nodup_append]
          refine ⟨hnd, by simp, fun a ha b hb e => ?_⟩
          rw [List.mem_singleton.mp hb] at e
          have h1 := used_in ha
          rw [e, (hnu z rfl).1] at h1
          cases h1
      · intro p' hp' z ez
        rcases List.mem_append.mp hp' with e | e
        · exact hmz p' e z ez
        · rw [List.mem_singleton.mp e] at ez; exact (hnu z ez).2
  · obtain ⟨⟨u, rfl⟩, sH, xs, ps, hx1, hps, hpl', hgd, hnd, hmz⟩ := hh
    rw [List.length_map] at hpl'
    exact ⟨_, rfl, q pl xs ps _ sH hx1 hps (fun e => by rw [e] at hpl'; simp at hpl'; omega) (by omega) hgd hnd hmz⟩
end
end K13
set_option maxHeartbeats 1000000
namespace K13
open PySem L2
seal PE PT PW PA PS PSs PG PGs PI PO PSet OpR UnR CallR TruR IxR SlR PC PPs
local macro_rules | `(tactic| walk_at "rd1") => `(tactic| first
  | (refine And.intro rfl ?_)
  | (refine And.intro (by assumption) ?_)
  | (refine And.intro (fun _ e => e) ?_)
  | (refine And.intro (TyOf.str _) ?_) | (refine And.intro (TyOf.int _) ?_) | (refine And.intro (TyOf.bl _) ?_) | (refine And.intro TyOf.non ?_)
  | (refine iteT ?_) | (refine iteF ?_)
  | (apply Exists.intro))
local macro_rules | `(tactic| walk_at "rd") => `(tactic| repeat (walk_at "rd1"))

def retE (s : Stmt) : Expr := match defBody s with
  | [.Return (some e) _] => e
  | _ => .Name "" ⟨0, 0, 0, 0⟩
def lamA (e : Expr) : Arguments := match e with
  | .Lambda a _ _ _ => a
  | _ => { posonlyargs := [], args := [], vararg := none, kwonlyargs := [], kw_defaults := [], kwarg := none, defaults := [] }
def lamB (e : Expr) : Expr := match e with
  | .Lambda _ b _ _ => b
  | _ => .Name "" ⟨0, 0, 0, 0⟩
def lamS (e : Expr) : Scope := match e with
  | .Lambda _ _ s _ => s
  | _ => { kind := .function, names := [], isGenerator := false, isCoroutine := false }
def lamP (e : Expr) : Pos := match e with
  | .Lambda _ _ _ p => p
  | _ => ⟨0, 0, 0, 0⟩
/-- the lambda of the law -/
def DL : LamD := { qual := Str.ofString "_law_look" ++ ".<locals>." ++ "<lambda>", params := lamA (retE s_law_look), body := lamB (retE s_law_look), scope := lamS (retE s_law_look), x := "_law_name", y := "_law_worths" }
abbrev posL : Pos := lamP (retE s_law_look)
theorem lam_ok : DL.Ok := ⟨rfl, rfl, rfl, rfl, by decide, fun _ _ _ _ _ => rfl⟩
theorem lam_body {P : Program} {w : World} {K : PySem.W.Frag} {mg : Str → Option Value} {base : Heap} {p cc : Addr} {cd : Value} {A : Around} {outer : List Env} {s : Shared} {H : Hp} {E : XK} (hr : Room 0 (A.deeper (PySem.W.envX DL.qual DL.scope s.heap.objs.size p cd [(DL.y, cc)]))) :
    PE (cxLam CX0 P w K mg base DL p cc cd A outer s H E) DL.body (tDGet (tVar 1) (tVar 0)) := by
  show PE _ (.Subscript (.Name "_law_worths" _) (.Name "_law_name" _) _) _
  exact pe_dget (hu_of hr) (pv 1) (pv 0) (fun _ _ => rfl)
/-- what a part is worth -/
def wv (W : Str → Int) (p : Part) : Int := match p.2 with
  | none => p.1
  | some z => p.1 * W z
/-- the dict at d has these worths for these names -/
def DW (H : Hp) (d : Addr) (W : Str → Int) (zs : List Str) : Prop := ∃ kvs, H d = some (.dK kvs) ∧ ∀ z ∈ zs, valV kvs (Sum.inr z) = some (.int (W z)) ∧ (W z).natAbs < 10 ^ 61
theorem DW.same {H H' : Hp} {d : Addr} {W : Str → Int} {zs : List Str} (s : Same H H') (h : DW H d W zs) : DW H' d W zs := let ⟨kvs, e, k⟩ := h; ⟨kvs, s _ _ e, k⟩
theorem LamAt.same {H H' : Hp} {D : LamD} {p : Addr} {v : V} (s : Same H H') (h : LamAt D H p v) : LamAt D H' p v := let ⟨cc, c', a, b, c⟩ := h; ⟨cc, c', s _ _ a, s _ _ b, s _ _ c⟩
def spWorth (K : PySem.W.Frag) : Sp := fun vs H Q _ => ∃ (pl p d : Addr) (xs : List V) (ps : List Part) (zs : List Str) (W : Str → Int), vs = [.ref pl, .ref p] ∧ SqL K H pl xs ∧ PsR K H xs ps ∧ ps.length ≤ 12 ∧ (∀ p ∈ ps, PGood p) ∧ (∀ p ∈ ps, ∀ z, p.2 = some z → z ∈ zs) ∧ LamAt DL H p (.ref d) ∧ DW H d W zs ∧
  ∀ H', Same H H' → Q (.int (ps.map (wv W)).sum) H'
def spDue (K : PySem.W.Frag) : Sp := fun vs H Q _ => ∃ (pl d : Addr) (xs : List V) (ps : List Part) (zs : List Str) (W : Str → Int), vs = [.ref pl, .ref d] ∧ SqL K H pl xs ∧ PsR K H xs ps ∧ ps.length ≤ 12 ∧ (∀ p ∈ ps, PGood p) ∧ (∀ p ∈ ps, ∀ z, p.2 = some z → z ∈ zs) ∧ DW H d W zs ∧ Q (.int (ps.map (wv W)).sum) H
theorem big {x : Int} {n : Nat} (h : x.natAbs < 10 ^ n) (hn : n ≤ 61) : ib x ≤ 60000000 := by
  refine Nat.le_trans (ib_big (m := 244) (Nat.lt_of_lt_of_le h ?_)) (by decide)
  exact Nat.le_trans (Nat.pow_le_pow_right (by decide) hn) (by decide +kernel)
theorem take_sum {ps : List Part} {W : Str → Int} {i : Nat} {p : Part} (h : ps[i]? = some p) : ((ps.take (i + 1)).map (wv W)) = ((ps.take i).map (wv W)) ++ [wv W p] := by
  rw [List.take_succ, h, List.map_append]; rfl
section
variable {P : Program} {w : World} {K : PySem.W.Frag} {mg : Str → Option Value} {base : Heap} {A : Adr}
theorem ok_worth (T : Txt K mg A) : FnOk P w K mg base CX0 3 A.f_worth A.d_worth ["parts", "look"] (spWorth K) := by
  refine T.F_worth.ok sc_worth (fun vs H Q E h => ?_) (fun cdv A0 outer s H vs Q E hr h => ?_)
  · obtain ⟨pl, p, d, xs, ps, zs, W, rfl, _⟩ := h
    rfl
  obtain ⟨pl, p, d, xs, ps, zs, W, rfl, hl, hps, h12, hg, hz, hlam, hd, q⟩ := h
  refine ⟨_, (pss_one (ps_ret (pe_callB (call_sum rfl) (by rfl) T.n_sum PyProof.Rows.boot_sum (pa_cons (pe_compT (compOk2_of (compOk_of (x := "times") (M := ["parts", "look"]) rfl (by rfl)) (by rfl) (by decide +kernel)) rfl (pi_list (pv 0)) (fun _ _ _ _ => pifs_nil) (fun _ _ _ _ => (pe_ifExp (pt_cmpR op_isN (pv 1) pe_non (nomark _)) (pv 0) (pe_op op_mulB (pv 0) (pe_callL lam_ok (fun _ _ _ _ _ _ _ _ hr => lam_body hr) (hr.mono (by decide)) pass0 (pv 3) (pa_cons (pv 1) pa_nil)))))) pa_nil)))), ?_⟩
  refine ⟨_, rfl, pl, rfl, ⟨_, hl⟩, ?_⟩
  refine comp_listT (xs := xs) (small_of (m := 100) (by rw [hps.len]; omega)) (fun j ys G => H = G ∧ ys = ((ps.take j).map (wv W)).map V.int) ⟨rfl, rfl⟩ (fun j ys G hw => hw.1 ▸ hl) (fun j x ys G hxj _ hw => ?_) (fun ys G hw p2 hp2 => ?_)
  · obtain ⟨rfl, rfl⟩ := hw
    obtain ⟨⟨t, n⟩, hpj, a, rfl, ha⟩ := hps.at hxj
    have hgp := hg _ (List.mem_of_getElem? hpj)
    have hzp := hz _ (List.mem_of_getElem? hpj)
    refine ⟨a, _, _, rfl, ha, tt_true ?_⟩
    rw [take_sum hpj, List.map_append]
    cases n with
    | none => exact ⟨_, rfl, rfl, _, rfl, iteT ⟨_, rfl, rfl, rfl⟩⟩
    | some z =>
      obtain ⟨kvs, hk, hv⟩ := hd
      obtain ⟨hv1, hv2⟩ := hv z (hzp z rfl)
      obtain ⟨cc, c', l1, l2, l3⟩ := hlam
      refine ⟨_, rfl, rfl, _, rfl, iteF ⟨_, rfl, _, rfl, p, rfl, _, rfl, .str z, .ref d, cc, c', rfl, l1, l2, l3, ?_⟩⟩
      have hne : d ≠ cc := fun e => by rw [e, l2] at hk; cases hk
      refine ⟨_, rfl, _, rfl, d, .int (W z), rfl, ?_, rfl, ?_⟩
      · rw [← hv1]; exact DGet.k (k := Sum.inr z) (by rw [del_ne hne]; exact hk)
      · exact ⟨_, _, rfl, rfl, ⟨big hgp.1 (by decide), big hv2 (by decide)⟩, rfl, rfl⟩
  · obtain ⟨rfl, rfl⟩ := hw
    rw [hps.len, List.take_length]
    have s2 := same_new hp2 (.lst ((ps.map (wv W)).map V.int))
    exact ⟨p2, _, rfl, SqL.of upd_same, q _ s2⟩
theorem ok_law_due (T : Txt K mg A) : FnOk P w K mg base CX0 1 A.f_law_due A.d_law_due ["_law_parts", "_law_worths"] (spDue K) := by
  refine T.F_law_due.ok sc_law_due (fun vs H Q E h => ?_) (fun cdv A0 outer s H vs Q E hr h => ?_)
  · obtain ⟨pl, d, xs, ps, zs, W, rfl, _⟩ := h
    rfl
  obtain ⟨pl, d, xs, ps, zs, W, rfl, hl, hps, h12, hg, hz, ⟨kvs, hk, hv⟩, q⟩ := h
  refine ⟨_, (pss_cons (ps_set (i := 2) sc_law_due.nd rfl (by first | exact Or.inl rfl | exact Or.inr rfl) pe_int)
      (pss_cons (ps_forR PassesOwn.never rfl (pi_list (pv 0)) (pg_tup rfl (pgs_cons (pg_name (i := 3) sc_law_due.nd rfl (by first | exact Or.inl rfl | exact Or.inr rfl)) (pgs_cons (pg_name (i := 4) sc_law_due.nd rfl (by first | exact Or.inl rfl | exact Or.inr rfl)) pgs_nil))) (pss_one (ps_if (pt_cmpR op_isN (pv 4) pe_non (nomark _)) (pss_one (ps_set (i := 2) sc_law_due.nd rfl (by first | exact Or.inl rfl | exact Or.inr rfl) (pe_op op_add (pv 2) (pv 3)))) (pss_one (ps_set (i := 2) sc_law_due.nd rfl (by first | exact Or.inl rfl | exact Or.inr rfl) (pe_op op_add (pv 2) (pe_op op_mulB (pv 3) (pe_dget (hu_of hr) (pv 1) (pv 4) (fun _ _ => rfl)))))))))
      (pss_one (ps_ret (pv 2))))), ?_⟩
  refine ⟨_, rfl, pl, rfl, ⟨_, hl⟩, ?_⟩
  refine for_listR (xs := xs) (fun i σ H' => H = H' ∧ ∃ u v, σ = [some (.ref pl), some (.ref d), some (.int ((ps.take i).map (wv W)).sum), u, v]) ⟨rfl, _, _, rfl⟩ (fun i σ H' _ hh => hh.1 ▸ hl) (fun i x σ H' hx hh => ?_) (fun σ H' hh => ?_)
  · obtain ⟨rfl, u, v, rfl⟩ := hh
    obtain ⟨⟨t, n⟩, hpj, a, rfl, ha⟩ := hps.at hx
    have hgp := hg _ (List.mem_of_getElem? hpj)
    have hzp := hz _ (List.mem_of_getElem? hpj)
    rw [take_sum hpj, List.sum_append]
    refine ⟨a, _, rfl, ha, rfl, _, _, rfl, _, _, rfl, rfl, ?_⟩
    cases n with
    | none => exact ⟨_, rfl, rfl, _, rfl, iteT ⟨_, rfl, _, rfl, _, _, rfl, rfl, rfl, some (.int t), some .non, by simp [wv, nv]⟩⟩
    | some z =>
      obtain ⟨hv1, hv2⟩ := hv z (hzp z rfl)
      refine ⟨_, rfl, rfl, _, rfl, iteF ⟨_, rfl, _, rfl, _, rfl, _, rfl, d, .int (W z), rfl, ?_, ?_⟩⟩
      · rw [← hv1]; exact DGet.k (k := Sum.inr z) hk
      · exact ⟨_, _, rfl, rfl, ⟨big hgp.1 (by decide), big hv2 (by decide)⟩, _, _, rfl, rfl, rfl, some (.int t), some (.str z), by simp [wv, nv]⟩
  · obtain ⟨rfl, u, v, rfl⟩ := hh
    rw [hps.len, List.take_length]
    exact ⟨_, rfl, q⟩
theorem ok_law_look (T : Txt K mg A) (B : BMain mg base) {c Pt : Addr} (hc : A.d_law_look.code = .ref c) (hh : PySem.W.codeHdIn K c Pt = true) : FnOk P w K mg base CX0 1 A.f_law_look A.d_law_look ["_law_worths"] (spLam DL posL Pt) := by
  obtain ⟨oc, od, kV, doc, pm, an, cdv, ct, osl, e, lk, hcd⟩ := id T.F_law_look.ex
  rw [e] at lk hc ⊢
  exact fn_lam (D := DL) (pos := posL) lk hcd sc_law_look rfl lam_ok rfl (fun _ => rfl) hc hh B
end
end K13
set_option maxHeartbeats 1000000
namespace K13
open PySem L2
seal PE PT PW PA PS PSs PG PGs PI PO PSet OpR UnR CallR TruR IxR SlR PC PPs
local macro_rules | `(tactic| walk_at "rd1") => `(tactic| first
  | (refine And.intro rfl ?_)
  | (refine And.intro (by assumption) ?_)
  | (refine And.intro (fun _ e => e) ?_)
  | (refine And.intro (TyOf.str _) ?_) | (refine And.intro (TyOf.int _) ?_) | (refine And.intro (TyOf.bl _) ?_) | (refine And.intro TyOf.non ?_)
  | (refine iteT ?_) | (refine iteF ?_)
  | (apply Exists.intro))
local macro_rules | `(tactic| walk_at "rd") => `(tactic| repeat (walk_at "rd1"))

/-- the same but for tables -/
def SameN (H H' : Hp) : Prop := ∀ b o, H b = some o → (∀ ps, o ≠ .tbl ps) → H' b = some o
theorem SameN.refl (H : Hp) : SameN H H := fun _ _ e _ => e
theorem SameN.trans {H H1 H2 : Hp} (a : SameN H H1) (b : SameN H1 H2) : SameN H H2 := fun c o e n => b c o (a c o e n) n
theorem SameN.of {H H' : Hp} (a : Same H H') : SameN H H' := fun c o e _ => a c o e
theorem SameN.ofB {D : LamD} {pos : Pos} {Pt : Addr} {H H' : Hp} (t : Tab D pos H Pt) (a : SameB Pt H H') : SameN H H' := fun c o e n => a c o (by
  rintro rfl
  rcases t with t | ⟨c', t, _⟩
  · rw [t] at e; cases e; exact n _ rfl
  · rw [t] at e; cases e; exact n _ rfl) e
theorem SameN.lst {H H' : Hp} {a : Addr} {xs : List V} (s : SameN H H') (h : H a = some (.lst xs)) : H' a = some (.lst xs) := s _ _ h (by intro _ z; cases z)
theorem SameN.sqL {K : PySem.W.Frag} {H H' : Hp} {a : Addr} {xs : List V} (s : SameN H H') (h : SqL K H a xs) : SqL K H' a xs := by
  rcases h with (h | ⟨o, h⟩) | h
  · exact .inl (.inl (s _ _ h (by intro _ z; cases z)))
  · exact .inl (.inr ⟨o, s _ _ h (by intro _ z; cases z)⟩)
  · exact .inr h
theorem SameN.sqT {K : PySem.W.Frag} {H H' : Hp} {a : Addr} {xs : List V} (s : SameN H H') (h : SqT K H a xs) : SqT K H' a xs := by
  rcases h with (h | ⟨o, h⟩) | h
  · exact .inl (.inl (s _ _ h (by intro _ z; cases z)))
  · exact .inl (.inr ⟨o, s _ _ h (by intro _ z; cases z)⟩)
  · exact .inr h
theorem SameN.psR {K : PySem.W.Frag} {H H' : Hp} {xs : List V} {ps : List Part} (s : SameN H H') (h : PsR K H xs ps) : PsR K H' xs ps := by
  induction h with
  | nil => exact .nil
  | cons a _ ih => obtain ⟨b, e, hb⟩ := a; exact .cons ⟨b, e, s.sqT hb⟩ ih
theorem SameN.dw {H H' : Hp} {d : Addr} {W : Str → Int} {zs : List Str} (s : SameN H H') (h : DW H d W zs) : DW H' d W zs := let ⟨kvs, e, k⟩ := h; ⟨kvs, s _ _ e (by intro _ z; cases z), k⟩
theorem Tab.same {D : LamD} {pos : Pos} {Pt : Addr} {H H' : Hp} (s : Same H H') (h : Tab D pos H Pt) : Tab D pos H' Pt := by
  rcases h with t | ⟨c', t, u⟩
  · exact .inl (s _ _ t)
  · exact .inr ⟨c', s _ _ t, s _ _ u⟩
theorem PsR.take {K : PySem.W.Frag} {H : Hp} {xs : List V} {ps : List Part} (h : PsR K H xs ps) : ∀ n, PsR K H (xs.take n) (ps.take n) := by
  induction h with
  | nil => intro n; rw [List.take_nil, List.take_nil]; exact .nil
  | cons a _ ih =>
    intro n
    cases n with
    | zero => exact .nil
    | succ n => exact .cons a (ih n)
theorem PsR.drop {K : PySem.W.Frag} {H : Hp} {xs : List V} {ps : List Part} (h : PsR K H xs ps) : ∀ n, PsR K H (xs.drop n) (ps.drop n) := by
  induction h with
  | nil => intro n; rw [List.drop_nil, List.drop_nil]; exact .nil
  | cons a r ih =>
    intro n
    cases n with
    | zero => exact .cons a r
    | succ n => exact ih n
theorem cut_take {xs : List V} {m : Nat} (h : m ≤ xs.length) : cutV xs none (some (m : Int)) = xs.take m := by
  unfold cutV
  have e1 : HT.sIx xs.length 0 none = 0 := rfl
  have e2 : HT.sIx xs.length xs.length (some (m : Int)) = m := by
    show (if (m : Int) < 0 then ((m : Int) + (xs.length : Nat)).toNat else min (m : Int).toNat xs.length) = _
    rw [if_neg (by omega)]; omega
  rw [e1, e2]; rfl
theorem cut_drop {xs : List V} {m : Nat} (h : m ≤ xs.length) : cutV xs (some (m : Int)) none = xs.drop m := by
  unfold cutV
  have e1 : HT.sIx xs.length 0 (some (m : Int)) = m := by
    show (if (m : Int) < 0 then ((m : Int) + (xs.length : Nat)).toNat else min (m : Int).toNat xs.length) = _
    rw [if_neg (by omega)]; omega
  have e2 : HT.sIx xs.length xs.length none = xs.length := rfl
  rw [e1, e2]
  exact List.take_of_length_le (by rw [List.length_drop]; omega)
theorem halves {ps : List Part} {W : Str → Int} (m : Nat) : ((ps.take m).map (wv W)).sum + ((ps.drop m).map (wv W)).sum = (ps.map (wv W)).sum := by
  rw [← List.sum_append, ← List.map_append, List.take_append_drop]
def spRight (K : PySem.W.Frag) (Pt : Addr) : Sp := fun vs H Q _ => ∃ (pl d1 d2 : Addr) (m : Int) (xs : List V) (ps : List Part) (zs : List Str) (W1 W2 : Str → Int), vs = [.ref pl, .ref d1, .ref d2, .int m] ∧ H pl = some (.lst xs) ∧ PsR K H xs ps ∧ ps.length ≤ 12 ∧ (∀ p ∈ ps, PGood p) ∧ (∀ p ∈ ps, ∀ z, p.2 = some z → z ∈ zs) ∧ DW H d1 W1 zs ∧ DW H d2 W2 zs ∧ Tab DL posL H Pt ∧ ∀ H', SameN H H' → Tab DL posL H' Pt → Q (.bl true) H'
section
variable {P : Program} {w : World} {K : PySem.W.Frag} {mg : Str → Option Value} {base : Heap} {A : Adr}
theorem ok_law_right (T : Txt K mg A) (B : BMain mg base) {c Pt : Addr} (hc : A.d_law_look.code = .ref c) (hh : PySem.W.codeHdIn K c Pt = true) : FnOk P w K mg base CX0 4 A.f_law_right A.d_law_right ["_law_parts", "_law_worths", "_law_others", "_law_at"] (spRight K Pt) := by
  have G_law_due := ok_law_due (P := P) (w := w) (base := base) T
  have G_worth := ok_worth (P := P) (w := w) (base := base) T
  have G_law_whole := ok_law_whole (P := P) (w := w) (base := base) T
  have G_law_look := ok_law_look (P := P) (w := w) (base := base) T B hc hh
  refine T.F_law_right.ok sc_law_right (fun vs H Q E h => ?_) (fun cdv A0 outer s H vs Q E hr h => ?_)
  · obtain ⟨pl, d1, d2, m, xs, ps, zs, W1, W2, rfl, _⟩ := h
    rfl
  obtain ⟨pl, d1, d2, m, xs, ps, zs, W1, W2, rfl, hpl, hps, h12, hg, hz, w1, w2, tb, q⟩ := h
  refine ⟨_, (pss_cons (ps_set (i := 4) sc_law_right.nd rfl (by first | exact Or.inl rfl | exact Or.inr rfl) (pe_callTy call_list_of (by rfl) T.n_list Bt.list (pa_cons (pv 0) pa_nil)))
      (pss_cons (ps_set (i := 5) sc_law_right.nd rfl (by first | exact Or.inl rfl | exact Or.inr rfl) (pe_call G_law_due (hr.mono (by decide)) rfl T.m_law_due T.k_law_due T.b_law_due .nil pass0 (pa_cons (pv 0) (pa_cons (pv 1) pa_nil))))
      (pss_cons (ps_set (i := 6) sc_law_right.nd rfl (by first | exact Or.inl rfl | exact Or.inr rfl) (pe_call G_worth (hr.mono (by decide)) rfl T.m_worth T.k_worth T.b_worth .nil pass0 (pa_cons (pv 4) (pa_cons (pe_call G_law_look (hr.mono (by decide)) rfl T.m_law_look T.k_law_look T.b_law_look .nil pass0 (pa_cons (pv 1) pa_nil)) pa_nil))))
      (pss_cons (ps_if (PW.pt (pw_or (pt_not (pt_val (pe_call G_law_whole (hr.mono (by decide)) rfl T.m_law_whole T.k_law_whole T.b_law_whole .nil pass0 (pa_cons (pv 6) pa_nil)))) (pw_or (pt_cmpR op_ne (pv 6) (pv 5) (nomark _)) (pw_or1 (pt_cmpR (op_neJ (hu20 hr)) (pv 4) (pv 0) (nomark _)))))) (pss_one (ps_ret pe_bl)) pss_nil)
      (pss_cons (ps_if (pt_cmpR op_ne (pe_call G_worth (hr.mono (by decide)) rfl T.m_worth T.k_worth T.b_worth .nil pass0 (pa_cons (pv 4) (pa_cons (pe_call G_law_look (hr.mono (by decide)) rfl T.m_law_look T.k_law_look T.b_law_look .nil pass0 (pa_cons (pv 2) pa_nil)) pa_nil))) (pe_call G_law_due (hr.mono (by decide)) rfl T.m_law_due T.k_law_due T.b_law_due .nil pass0 (pa_cons (pv 0) (pa_cons (pv 2) pa_nil))) (nomark _)) (pss_one (ps_ret pe_bl)) pss_nil)
      (pss_cons (ps_if (pt_chain op_lt op_lt pe_int (pv 3) (pe_callB call_len_seq (by rfl) T.n_len PySem.boot_len (pa_cons (pv 0) pa_nil))) (pss_cons (ps_set (i := 7) sc_law_right.nd rfl (by first | exact Or.inl rfl | exact Or.inr rfl) (pe_call G_worth (hr.mono (by decide)) rfl T.m_worth T.k_worth T.b_worth .nil pass0 (pa_cons (pe_slice sl_list (pv 0) po_none (po_some (pv 3))) (pa_cons (pe_call G_law_look (hr.mono (by decide)) rfl T.m_law_look T.k_law_look T.b_law_look .nil pass0 (pa_cons (pv 1) pa_nil)) pa_nil))))
      (pss_one (ps_if (pt_cmpR op_ne (pe_op op_add (pv 7) (pe_call G_worth (hr.mono (by decide)) rfl T.m_worth T.k_worth T.b_worth .nil pass0 (pa_cons (pe_slice sl_list (pv 0) (po_some (pv 3)) po_none) (pa_cons (pe_call G_law_look (hr.mono (by decide)) rfl T.m_law_look T.k_law_look T.b_law_look .nil pass0 (pa_cons (pv 1) pa_nil)) pa_nil)))) (pv 5) (nomark _)) (pss_one (ps_ret pe_bl)) pss_nil))) pss_nil)
      (pss_one (ps_ret (pe_cmpR op_eq (pe_call G_worth (hr.mono (by decide)) rfl T.m_worth T.k_worth T.b_worth .nil pass0 (pa_cons (pv 4) (pa_cons (pe_call G_law_look (hr.mono (by decide)) rfl T.m_law_look T.k_law_look T.b_law_look .nil pass0 (pa_cons (pv 1) pa_nil)) pa_nil))) (pv 5) (nomark _)))))))))), ?_⟩
  refine ⟨_, rfl, pl, _, rfl, .inl (SqL.of hpl), fun ph hph => ?_⟩
  have s1 := same_new hph (.lst xs)
  have n1 := SameN.of s1
  refine ⟨_, rfl, _, rfl, pl, d1, xs, ps, zs, W1, rfl, SqL.of (s1 _ _ hpl), n1.psR hps, h12, hg, hz, n1.dw w1, ?_⟩
  generalize hX : (ps.map (wv W1)).sum = X1
  -- the first asking
  refine ⟨_, rfl, _, rfl, .ref d1, rfl, Tab.same s1 tb, fun p1 H2 _ b2 g2 l2 => ?_⟩
  have n2 := n1.trans (SameN.ofB (Tab.same s1 tb) b2)
  have hph2 : H2 ph = some (.lst xs) := (SameN.ofB (Tab.same s1 tb) b2).lst upd_same
  refine ⟨ph, p1, d1, xs, ps, zs, W1, rfl, SqL.of hph2, n2.psR hps, h12, hg, hz, l2, n2.dw w1, fun H3 s3 => ?_⟩
  have n3 := n2.trans (SameN.of s3)
  have hph3 := s3 _ _ hph2
  have t3 : Tab DL posL H3 Pt := Tab.same s3 (.inr g2)
  rw [hX]
  refine ⟨_, rfl, _, _, _, _, rfl, .old (.int _), T.i_int_int, T.i_int_bool, _, rfl, iteF ?_⟩
  refine ⟨_, rfl, _, rfl, rfl, _, rfl, iteN (by rw [decide_eq_true rfl]; rfl) ?_⟩
  refine ⟨_, rfl, _, rfl, _, eqj_lists (n := 19) (e := fun _ => true) (SqL.of hph3) (SqL.of (n3.lst hpl)) rfl (fun j x y hxj hyj => ?_), _, rfl, ?_⟩
  · obtain ⟨p, hpj, a, rfl, ha⟩ := (n3.psR hps).at hxj
    have e : V.ref a = y := Option.some.inj (hxj.symm.trans hyj)
    subst e
    exact eqi_same
  rw [show (List.range xs.length).all (fun _ => true) = true by simp]
  refine iteF ?_
  -- by the other worths
  refine ⟨_, rfl, _, rfl, .ref d2, rfl, t3, fun p4 H4 _ b4 g4 l4 => ?_⟩
  have n4 := n3.trans (SameN.ofB t3 b4)
  have hph4 := (SameN.ofB t3 b4).lst hph3
  refine ⟨ph, p4, d2, xs, ps, zs, W2, rfl, SqL.of hph4, n4.psR hps, h12, hg, hz, l4, n4.dw w2, fun H5 s5 => ?_⟩
  have n5 := n4.trans (SameN.of s5)
  have hph5 := s5 _ _ hph4
  have t5 : Tab DL posL H5 Pt := Tab.same s5 (.inr g4)
  refine ⟨_, rfl, _, rfl, pl, d2, xs, ps, zs, W2, rfl, SqL.of (n5.lst hpl), n5.psR hps, h12, hg, hz, n5.dw w2, rfl, _, rfl, iteN (by rw [decide_eq_true rfl]; rfl) ?_⟩
  -- the last asking
  have last : ∀ (H6 : Hp) (u : Option V), SameN H H6 → H6 ph = some (.lst xs) → Tab DL posL H6 Pt → tRet (tOp rEq (tCall (spWorth K) [] E0 (tCons (tVar 4) (tCons (tCall (spLam DL posL Pt) [] E0 (tCons (tVar 1) tNil)) tNil))) (tVar 5))
      { nx := fun _ H' => Q .non H', rt := Q } [some (.ref pl), some (.ref d1), some (.ref d2), some (.int m), some (.ref ph), some (.int X1), some (.int X1), u] H6 := fun H6 u n6 hph6 t6 => by
    refine ⟨_, rfl, _, rfl, .ref d1, rfl, t6, fun p7 H7 _ b7 g7 l7 => ?_⟩
    have n7 := n6.trans (SameN.ofB t6 b7)
    refine ⟨ph, p7, d1, xs, ps, zs, W1, rfl, SqL.of ((SameN.ofB t6 b7).lst hph6), n7.psR hps, h12, hg, hz, l7, n7.dw w1, fun H8 s8 => ?_⟩
    rw [hX]
    refine ⟨_, rfl, rfl, ?_⟩
    rw [decide_eq_true rfl]
    exact q _ (n7.trans (SameN.of s8)) (Tab.same s8 (.inr g7))
  refine ⟨_, rfl, _, _, rfl, rfl, _, rfl, ?_⟩
  by_cases c1 : 0 < m
  rotate_left
  · rw [decide_eq_false c1]
    exact iteF ⟨_, rfl, iteF (last _ _ n5 hph5 t5)⟩
  rw [decide_eq_true c1]
  refine iteT ⟨_, rfl, pl, _, rfl, .inl (SqL.of (n5.lst hpl)), _, _, rfl, rfl, _, rfl, ?_⟩
  by_cases c2 : m < (xs.length : Int)
  rotate_left
  · rw [decide_eq_false c2]
    exact iteF (last _ _ n5 hph5 t5)
  rw [decide_eq_true c2]
  refine iteT ?_
  obtain ⟨k, rfl⟩ : ∃ k : Nat, m = (k : Int) := ⟨m.toNat, by omega⟩
  have hk : k ≤ xs.length := by omega
  have hgT : ∀ p ∈ ps.take k, PGood p := fun p hp => hg p (List.mem_of_mem_take hp)
  have hgD : ∀ p ∈ ps.drop k, PGood p := fun p hp => hg p (List.mem_of_mem_drop hp)
  have hzT : ∀ p ∈ ps.take k, ∀ z, p.2 = some z → z ∈ zs := fun p hp => hz p (List.mem_of_mem_take hp)
  have hzD : ∀ p ∈ ps.drop k, ∀ z, p.2 = some z → z ∈ zs := fun p hp => hz p (List.mem_of_mem_drop hp)
  refine ⟨_, rfl, _, rfl, _, rfl, pl, _, rfl, SqL.of (n5.lst hpl), fun pa hpa => ?_⟩
  rw [cut_take hk]
  have s6 := same_new hpa (.lst (xs.take k))
  have n6 := n5.trans (SameN.of s6)
  have t6 := Tab.same s6 t5
  refine ⟨_, rfl, .ref d1, rfl, t6, fun p7 H7 _ b7 g7 l7 => ?_⟩
  have n7 := n6.trans (SameN.ofB t6 b7)
  refine ⟨pa, p7, d1, _, ps.take k, zs, W1, rfl, SqL.of ((SameN.ofB t6 b7).lst upd_same), (n7.psR hps).take k, (by rw [List.length_take]; omega), hgT, hzT, l7, n7.dw w1, fun H8 s8 => ?_⟩
  have n8 := n7.trans (SameN.of s8)
  have t8 : Tab DL posL H8 Pt := Tab.same s8 (.inr g7)
  have hph8 : H8 ph = some (.lst xs) := s8 _ _ ((SameN.ofB t6 b7).lst (s6 _ _ hph5))
  refine ⟨_, rfl, _, rfl, _, rfl, _, rfl, pl, _, rfl, SqL.of (n8.lst hpl), fun pb hpb => ?_⟩
  rw [cut_drop hk]
  have s9 := same_new hpb (.lst (xs.drop k))
  have n9 := n8.trans (SameN.of s9)
  have t9 := Tab.same s9 t8
  refine ⟨_, rfl, .ref d1, rfl, t9, fun p10 H10 _ b10 g10 l10 => ?_⟩
  have n10 := n9.trans (SameN.ofB t9 b10)
  refine ⟨pb, p10, d1, _, ps.drop k, zs, W1, rfl, SqL.of ((SameN.ofB t9 b10).lst upd_same), (n10.psR hps).drop k, (by rw [List.length_drop]; omega), hgD, hzD, l10, n10.dw w1, fun H11 s11 => ?_⟩
  have n11 := n10.trans (SameN.of s11)
  have t11 : Tab DL posL H11 Pt := Tab.same s11 (.inr g10)
  have hph11 : H11 ph = some (.lst xs) := s11 _ _ ((SameN.ofB t9 b10).lst (s9 _ _ hph8))
  refine ⟨_, _, rfl, rfl, _, rfl, rfl, _, rfl, iteN (congrArg not (decide_eq_true (congrArg V.int ((halves k).trans hX)))) ?_⟩
  exact last _ _ n11 hph11 t11
end
end K13
set_option maxHeartbeats 1000000
namespace K13
open PySem L2
seal PE PT PW PA PS PSs PG PGs PI PO PSet OpR UnR CallR TruR IxR SlR PC PPs
local macro_rules | `(tactic| walk_at "rd1") => `(tactic| first
  | (refine And.intro rfl ?_)
  | (refine And.intro (by assumption) ?_)
  | (refine And.intro (fun _ e => e) ?_)
  | (refine And.intro (TyOf.str _) ?_) | (refine And.intro (TyOf.int _) ?_) | (refine And.intro (TyOf.bl _) ?_) | (refine And.intro TyOf.non ?_)
  | (refine iteT ?_) | (refine iteF ?_)
  | (apply Exists.intro))
local macro_rules | `(tactic| walk_at "rd") => `(tactic| repeat (walk_at "rd1"))

def sp_law (K : PySem.W.Frag) (Pt : Addr) : Sp := fun vs H Q _ => ∃ (a : Addr) (ns : List Int), vs = [.ref a] ∧ SqL K H a (ns.map V.int) ∧ ns.length ≤ 63 ∧ (∀ n ∈ ns, ib n ≤ 1048576) ∧ Tab DL posL H Pt ∧ ∀ H', Q (.bl true) H'
theorem div_ok : ∀ k : Nat, k < 80 → Builtin.divisionGoesByPylong ((k : Int) - 0) 12 = false ∧ Builtin.Range.small 0 (k : Int) 12 = true := by decide +kernel
theorem cut_seg {ms : List Int} {k : Nat} (h : k < ms.length) : cutV (ms.map V.int) (some (k : Int)) (some ((k : Int) + 12)) = ((ms.drop k).take 12).map V.int := by
  unfold cutV
  have e1 : HT.sIx (ms.map V.int).length 0 (some (k : Int)) = k := by
    show (if (k : Int) < 0 then ((k : Int) + ((ms.map V.int).length : Nat)).toNat else min (k : Int).toNat (ms.map V.int).length) = _
    rw [if_neg (by omega), List.length_map]; omega
  have e2 : HT.sIx (ms.map V.int).length (ms.map V.int).length (some ((k : Int) + 12)) = min (k + 12) ms.length := by
    show (if (k : Int) + 12 < 0 then ((k : Int) + 12 + ((ms.map V.int).length : Nat)).toNat else min ((k : Int) + 12).toNat (ms.map V.int).length) = _
    rw [if_neg (by omega), List.length_map]; omega
  rw [e1, e2, ← List.map_drop, ← List.map_take]
  congr 1
  by_cases c : k + 12 ≤ ms.length
  · rw [show min (k + 12) ms.length - k = 12 by omega]
  · rw [List.take_of_length_le (by rw [List.length_drop]; omega), List.take_of_length_le (by rw [List.length_drop]; omega)]
theorem ib_addk {x j : Int} {m : Nat} (h : ib x ≤ m) (h0 : 0 ≤ j) (h7 : j ≤ 7) : ib (x + j) ≤ m + 3 := by
  refine intBits_le_iff.mpr ?_
  have h1 : x.natAbs < 2 ^ m := intBits_le_iff.mp h
  have h2 : 0 < 2 ^ m := Nat.two_pow_pos m
  rw [Nat.pow_add]
  generalize 2 ^ m = y at h1 h2
  have : (2 : Nat) ^ 3 = 8 := by decide
  rw [this]
  omega
theorem seq_mid {t u : TS} {D : Ends} {σ : St} {H : Hp} (R : St → Hp → Prop) (hk : ∀ σ' H', R σ' H' → u D σ' H') (hm : (∀ σ' H', R σ' H' → u D σ' H') → t { D with nx := u D } σ H) : tSeq t u D σ H := hm hk
/-- the dict, so far -/
def DK (kvs : List (Key × V)) (zs : List Str) : Prop := ∀ z ∈ zs, ∃ n : Int, valV kvs (Sum.inr z) = some (.int n) ∧ n.natAbs < 10 ^ 61
theorem DK.put {kvs : List (Key × V)} {zs : List Str} {z : Str} {m : Int} (h : DK kvs zs) (hm : m.natAbs < 10 ^ 61) : DK (putK kvs (Sum.inr z) (.int m)) (zs ++ [z]) := fun y hy => by
  rw [valV_put]
  by_cases e : y = z
  · rw [if_pos (by rw [e])]; exact ⟨m, rfl, hm⟩
  · rw [if_neg (fun q => e (Sum.inr.inj q))]
    rcases List.mem_append.mp hy with q | q
    · exact h y q
    · exact absurd (List.mem_singleton.mp q) e
theorem DK.dw {kvs : List (Key × V)} {zs : List Str} {H : Hp} {d : Addr} (h : DK kvs zs) (e : H d = some (.dK kvs)) : ∃ W, DW H d W zs := by
  refine ⟨fun z => match valV kvs (Sum.inr z) with | some (.int n) => n | _ => 0, kvs, e, fun z hz => ?_⟩
  obtain ⟨n, h1, h2⟩ := h z hz
  dsimp only
  rw [h1]
  exact ⟨rfl, h2⟩
section
variable {P : Program} {w : World} {K : PySem.W.Frag} {mg : Str → Option Value} {base : Heap} {A : Adr}
theorem ok_law (T : Txt K mg A) (B : BMain mg base) {c Pt : Addr} (hc : A.d_law_look.code = .ref c) (hh : PySem.W.codeHdIn K c Pt = true) : FnOk P w K mg base CX0 5 A.f_law A.d_law ["_law_script"] (sp_law K Pt) := by
  have G_law_cell_at := ok_law_cell_at (P := P) (w := w) (base := base) T
  have G_law_names := ok_law_names (P := P) (w := w) (base := base) T
  have G_law_number := ok_law_number (P := P) (w := w) (base := base) T
  have G_law_parts_by := ok_law_parts_by (P := P) (w := w) (base := base) T
  have G_law_right := ok_law_right (P := P) (w := w) (base := base) T B hc hh
  refine T.F_law.ok sc_law (fun vs H Q E h => ?_) (fun cdv A0 outer s H vs Q E hr h => ?_)
  · obtain ⟨a, ns, rfl, _⟩ := h
    rfl
  obtain ⟨a, ns, rfl, hS, hlen, hbits, tb, q⟩ := h
  refine ⟨_, (pss_cons (ps_set (i := 1) sc_law.nd rfl (by first | exact Or.inl rfl | exact Or.inr rfl) (pe_call G_law_names (hr.mono (by decide)) rfl T.m_law_names T.k_law_names T.b_law_names .nil pass0 (pa_cons (pv 0) pa_nil)))
      (pss_cons (ps_set (i := 2) sc_law.nd rfl (by first | exact Or.inl rfl | exact Or.inr rfl) pe_dnewK)
      (pss_cons (ps_set (i := 3) sc_law.nd rfl (by first | exact Or.inl rfl | exact Or.inr rfl) pe_dnewK)
      (pss_cons (ps_forR PassesOwn.never rfl (pi_range1 rfl T.n_range (pa_cons pe_int pa_nil)) (pg_name (i := 4) sc_law.nd rfl (by first | exact Or.inl rfl | exact Or.inr rfl)) (pss_cons (ps_dput (hu_of hr) (pv 2) (pe_ix ix_list (pv 1) (pv 4) (fun _ _ => rfl)) (pe_call G_law_number (hr.mono (by decide)) rfl T.m_law_number T.k_law_number T.b_law_number .nil pass0 (pa_cons (pe_op op_add (pe_call G_law_cell_at (hr.mono (by decide)) rfl T.m_law_cell_at T.k_law_cell_at T.b_law_cell_at .nil pass0 (pa_cons (pv 0) (pa_cons (pe_op op_add pe_int (pe_op op_mod (pv 4) pe_int)) pa_nil))) (pe_op op_fdiv (pv 4) pe_int)) pa_nil)) rfl)
      (pss_one (ps_dput (hu_of hr) (pv 3) (pe_ix ix_list (pv 1) (pv 4) (fun _ _ => rfl)) (pe_op op_add (pe_call G_law_number (hr.mono (by decide)) rfl T.m_law_number T.k_law_number T.b_law_number .nil pass0 (pa_cons (pe_call G_law_cell_at (hr.mono (by decide)) rfl T.m_law_cell_at T.k_law_cell_at T.b_law_cell_at .nil pass0 (pa_cons (pv 0) (pa_cons (pe_op op_sub pe_int (pe_op op_mod (pv 4) pe_int)) pa_nil))) pa_nil)) (pv 4)) rfl))))
      (pss_cons (ps_set (i := 5) sc_law.nd rfl (by first | exact Or.inl rfl | exact Or.inr rfl) (pe_slice sl_list (pv 0) (po_some pe_int) (po_some pe_int)))
      (pss_cons (ps_if (pt_cmpR (op_eqJ (hu20 hr)) (pv 5) (pe_lst pa_nil) (nomark _)) (pss_one (ps_set (i := 5) sc_law.nd rfl (by first | exact Or.inl rfl | exact Or.inr rfl) (pe_lst (pa_cons (pe_call G_law_cell_at (hr.mono (by decide)) rfl T.m_law_cell_at T.k_law_cell_at T.b_law_cell_at .nil pass0 (pa_cons (pv 0) (pa_cons pe_int pa_nil))) pa_nil)))) pss_nil)
      (pss_cons (ps_forR PassesOwn.never rfl (pi_range3 rfl T.n_range (pa_cons pe_int (pa_cons (pe_callB call_len_seq (by rfl) T.n_len PySem.boot_len (pa_cons (pv 5) pa_nil)) (pa_cons pe_int pa_nil)))) (pg_name (i := 4) sc_law.nd rfl (by first | exact Or.inl rfl | exact Or.inr rfl)) (pss_cons (ps_set (i := 6) sc_law.nd rfl (by first | exact Or.inl rfl | exact Or.inr rfl) (pe_call G_law_parts_by (hr.mono (by decide)) rfl T.m_law_parts_by T.k_law_parts_by T.b_law_parts_by .nil pass0 (pa_cons (pe_slice sl_list (pv 5) (po_some (pv 4)) (po_some (pe_op op_add (pv 4) pe_int))) (pa_cons (pv 1) pa_nil))))
      (pss_one (ps_if (pt_not (pt_val (pe_call G_law_right (hr.mono (by decide)) rfl T.m_law_right T.k_law_right T.b_law_right .nil pass0 (pa_cons (pv 6) (pa_cons (pv 2) (pa_cons (pv 3) (pa_cons (pe_op op_mod (pe_call G_law_cell_at (hr.mono (by decide)) rfl T.m_law_cell_at T.k_law_cell_at T.b_law_cell_at .nil pass0 (pa_cons (pv 0) (pa_cons (pe_op op_add pe_int (pe_op op_mod (pe_op op_fdiv (pv 4) pe_int) pe_int)) pa_nil))) pe_int) pa_nil))))))) (pss_one (ps_ret pe_bl)) pss_nil))))
      (pss_one (ps_ret pe_bl))))))))), ?_⟩
  refine ⟨_, rfl, a, ns, rfl, hS, hbits, fun pn zs H1 hzl hzn s1 hpn => ?_⟩
  intro d1 hd1 d2 hd2
  have sd1 := same_new hd1 (.dK [])
  have hd2' : H1 d2 = none := by
    by_cases e : d2 = d1
    · rw [e] at hd2; rw [upd_same] at hd2; cases hd2
    · rw [upd_ne e] at hd2; exact hd2
  have ne21 : d1 ≠ d2 := fun e => by rw [← e, upd_same] at hd2; cases hd2
  have sd2 := same_new hd2 (.dK [])
  refine ⟨12, rfl, by decide, by decide, ?_⟩
  refine for_rangeR (fun i σ H' => Same H1 H' ∧ (∃ u, σ = [some (.ref a), some (.ref pn), some (.ref d1), some (.ref d2), u, none, none]) ∧ ∃ k1 k2, H' d1 = some (.dK k1) ∧ H' d2 = some (.dK k2) ∧ k1.length ≤ i ∧ k2.length ≤ i ∧ DK k1 (zs.take i) ∧ DK k2 (zs.take i))
    ⟨sd1.trans sd2, ⟨_, rfl⟩, [], [], sd2 _ _ upd_same, upd_same, Nat.le_refl _, Nat.le_refl _, (fun z hz => by cases hz), fun z hz => by cases hz⟩ (fun i σ H' hi hw => ?_) (fun σ H' hw => ?_)
  · obtain ⟨sH, ⟨u, rfl⟩, k1, k2, e1, e2, l1, l2, g1, g2⟩ := hw
    have hi12 : i < 12 := hi
    have r5a : 0 ≤ (0 + (i : Int)) % 5 := Int.emod_nonneg _ (by decide)
    have r5b : (0 + (i : Int)) % 5 < 5 := Int.emod_lt_of_pos _ (by decide)
    obtain ⟨z, hz⟩ : ∃ z, zs[i]? = some z := ⟨_, List.getElem?_eq_getElem (by omega)⟩
    have hat : atI (zs.map V.str) (0 + (i : Int)) = some (.str z) := by rw [Int.zero_add]; exact atI_nat (by rw [List.getElem?_map, hz]; rfl)
    have et : zs.take (i + 1) = zs.take i ++ [z] := by rw [List.take_succ, hz]; rfl
    have p61 : (10 : Nat) ^ 60 + 100 < 10 ^ 61 := by decide +kernel
    refine ⟨_, rfl, _, rfl, _, _, rfl, rfl, (by show (0 : Int) < 5; decide), _, _, rfl, rfl, a, ns, _, rfl, (s1.trans sH).seq hS, (by show 0 ≤ 2 + (0 + (i : Int)) % 5; omega), hbits, fun c1 hc1 => ?_⟩
    refine ⟨_, rfl, _, _, rfl, rfl, ⟨by decide, by decide⟩, _, _, rfl, rfl, _, rfl, Nat.le_trans (ib_addk hc1 (by omega) (by omega)) (by decide), fun m1 hm1 => ?_⟩
    refine ⟨_, rfl, _, rfl, _, rfl, pn, _, _, _, rfl, rfl, SqL.of (sH _ _ hpn), hat, d1, _, rfl, DPut.k (k := Sum.inr z) e1 (small1000 (by omega)), ?_⟩
    have sU : Same H1 (upd H' d1 (.dK (putK k1 (Sum.inr z) (.int m1)))) := fun b o hb => by rw [upd_ne (ne_of_none hb hd1)]; exact sH b o hb
    refine ⟨_, rfl, _, rfl, _, _, rfl, rfl, (by show (0 : Int) < 5; decide), _, _, rfl, rfl, a, ns, _, rfl, (s1.trans sU).seq hS, (by show 0 ≤ 6 - (0 + (i : Int)) % 5; omega), hbits, fun c2 hc2 => ?_⟩
    refine ⟨_, rfl, Nat.le_trans hc2 (by decide), fun m2 hm2 => ?_⟩
    refine ⟨_, rfl, _, _, rfl, rfl, _, rfl, _, rfl, _, rfl, pn, _, _, _, rfl, rfl, SqL.of (sU _ _ hpn), hat, d2, _, rfl, DPut.k (k := Sum.inr z) (by rw [upd_ne ne21.symm]; exact e2) (small1000 (by omega)), ?_⟩
    have sV : Same H1 (upd (upd H' d1 (.dK (putK k1 (Sum.inr z) (.int m1)))) d2 (.dK (putK k2 (Sum.inr z) (.int (m2 + (0 + (i : Int))))))) := fun b o hb => by rw [upd_ne (ne_of_none hb hd2')]; exact sU b o hb
    refine ⟨sV, ⟨_, rfl⟩, _, _, (by rw [upd_ne ne21]; exact upd_same), upd_same, Nat.le_trans (length_putK _ _ _) (by omega), Nat.le_trans (length_putK _ _ _) (by omega), ?_, ?_⟩
    · rw [et]; exact g1.put (by omega)
    · rw [et]; exact g2.put (by show (m2 + (0 + (i : Int))).natAbs < 10 ^ 61; omega)
  obtain ⟨sH, ⟨u, rfl⟩, k1, k2, e1, e2, l1, l2, g1, g2⟩ := hw
  rw [show ((12 : Int)).toNat = zs.length by rw [hzl]; rfl, List.take_length] at g1 g2
  obtain ⟨W1, w1⟩ := g1.dw e1
  obtain ⟨W2, w2⟩ := g2.dw e2
  have s2 := s1.trans sH
  have tb2 : Tab DL posL H' Pt := Tab.same s2 tb
  refine ⟨_, rfl, _, rfl, _, rfl, a, _, rfl, s2.seq hS, fun pc hpc => ?_⟩
  obtain ⟨ms, em, hm, hml⟩ := cutV_map V.int ns (some 7) (some 79)
  rw [em]
  have sc := same_new hpc (.lst (ms.map V.int))
  dsimp only [gName]
  refine seq_mid (fun σ' G => Same H' G ∧ ∃ (pg : Addr) (gs : List Int), σ' = [some (.ref a), some (.ref pn), some (.ref d1), some (.ref d2), u, some (.ref pg), none] ∧ G pg = some (.lst (gs.map V.int)) ∧ gs.length ≤ 72 ∧ ∀ n ∈ gs, ib n ≤ 1048576) ?kk ?mm
  case mm =>
    intro key
    refine ⟨_, rfl, (by show 0 ≤ sizeLine; decide), fun p0 hp0 => ?_⟩
    have s8 := same_new hp0 (.lst [])
    by_cases he : ms = []
    · subst he
      refine ⟨_, eqj_lists (n := 19) (e := fun _ => true) (SqL.of (s8 _ _ upd_same)) (SqL.of upd_same) rfl (fun j x y hx => by simp at hx), _, rfl, iteT ?_⟩
      refine ⟨_, rfl, a, ns, 2, rfl, (s2.trans (sc.trans s8)).seq hS, by decide, hbits, fun c2 hc2 => ⟨(by show 1 ≤ sizeLine; decide), fun p1 hp1 => ?_⟩⟩
      have s9 := same_new hp1 (.lst [.int c2])
      exact key _ _ ⟨sc.trans (s8.trans s9), p1, [c2], rfl, upd_same, (by show 1 ≤ 72; decide), fun n hn => by rw [List.mem_singleton.mp hn]; exact hc2⟩
    · have hxl : (ms.map V.int).length ≠ ([] : List V).length := fun e => he (by rw [List.length_map] at e; exact List.length_eq_zero_iff.mp e)
      refine ⟨_, eqj_lists_len (n := 19) (SqL.of (s8 _ _ upd_same)) (SqL.of upd_same) hxl, _, rfl, iteF ?_⟩
      exact key _ _ ⟨sc.trans s8, pc, ms, rfl, s8 _ _ upd_same, by omega, fun n hn => hbits n (hm n hn)⟩
  case kk =>
    rintro σ' H3 ⟨s3, pg, gs, rfl, hpg, hg72, hgb⟩
    obtain ⟨n, hn1, hn2⟩ : ∃ n : Nat, Builtin.Range.rangeSize 0 (gs.length : Int) 12 = (n : Int) ∧ ∀ i, i < n → i * 12 < gs.length := by
      unfold Builtin.Range.rangeSize
      rw [if_pos (by decide)]
      by_cases c : (0 : Int) < gs.length
      · rw [if_pos c]
        exact ⟨(((gs.length : Int) - 0 - 1) / 12 + 1).toNat, by omega, fun i hi => by omega⟩
      · rw [if_neg c]; exact ⟨0, rfl, fun i hi => by omega⟩
    obtain ⟨q1, q2⟩ := div_ok gs.length (by omega)
    refine ⟨_, rfl, pg, _, rfl, .inl (SqL.of hpg), 0, _, 12, n, rfl, by decide, ?_, ?_, ?_, ?_⟩
    · rw [List.length_map]; exact q1
    · rw [List.length_map]; exact q2
    · rw [List.length_map]; exact hn1
    refine for_range3 (fun i σ G => SameN H3 G ∧ Tab DL posL G Pt ∧ ∃ u v, σ = [some (.ref a), some (.ref pn), some (.ref d1), some (.ref d2), u, some (.ref pg), v]) ⟨SameN.refl _, Tab.same s3 tb2, _, _, rfl⟩ (fun i σ G hi hh => ?_) (fun σ G hh => ?_)
    · obtain ⟨nG, tG, u, v, rfl⟩ := hh
      have hk := hn2 i hi
      have ek : (0 : Int) + (i : Nat) * 12 = ((i * 12 : Nat) : Int) := by omega
      refine ⟨_, rfl, _, rfl, _, rfl, _, rfl, _, _, rfl, rfl, _, rfl, pg, _, rfl, SqL.of (nG.lst hpg), fun p2 hp2 => ?_⟩
      have ecut : cutV (gs.map V.int) (some (0 + (i : Nat) * 12)) (some (0 + (i : Nat) * 12 + 12)) = ((gs.drop (i * 12)).take 12).map V.int := by rw [ek]; exact cut_seg hk
      rw [ecut]
      have s5 := same_new hp2 (.lst (((gs.drop (i * 12)).take 12).map V.int))
      have hpnG : G pn = some (.lst (zs.map V.str)) := nG.lst (s3 _ _ (sH _ _ hpn))
      refine ⟨_, rfl, p2, pn, _, zs, rfl, SqL.of upd_same, ?_, ?_, fun n hn => ?_, SqL.of (s5 _ _ hpnG), hzl, hzn, fun pl xs ps H4 s4 hpl hps hne h12 hg hnd hmz => ?_⟩
      · rw [List.length_take, List.length_drop]; omega
      · rw [List.length_take]; omega
      · exact hgb n (List.mem_of_mem_drop (List.mem_of_mem_take hn))
      have n4 : SameN H3 H4 := nG.trans (SameN.of (s5.trans s4))
      have nH : SameN H' H4 := (SameN.of s3).trans n4
      have t4 : Tab DL posL H4 Pt := Tab.same (s5.trans s4) tG
      refine ⟨_, rfl, _, rfl, _, rfl, _, rfl, ?_⟩
      refine ⟨_, rfl, _, _, rfl, rfl, ⟨by decide, by decide⟩, _, _, rfl, rfl, (by show (0 : Int) < 5; decide), _, _, rfl, rfl, a, ns, _, rfl, nH.sqL (s2.seq hS), ?_, hbits, fun c2 hc2 => ?_⟩
      · have := Int.emod_nonneg ((0 + (i : Int) * 12) / 12) (b := 5) (by decide)
        show 0 ≤ 2 + (0 + (i : Int) * 12) / 12 % 5
        omega
      refine ⟨_, _, rfl, rfl, (by show (0 : Int) < 12; decide), ?_⟩
      refine ⟨pl, d1, d2, _, xs, ps, zs, W1, W2, rfl, hpl, hps, h12, hg, hmz, nH.dw w1, nH.dw w2, t4, fun H6 n6 t6 => ⟨_, rfl, iteF ⟨n4.trans n6, t6, _, _, rfl⟩⟩⟩
    · obtain ⟨nG, tG, u, v, rfl⟩ := hh
      exact q _
end
end K13
set_option maxHeartbeats 4000000
namespace K13
open PySem L2
theorem txt_mk {K : PySem.W.Frag} {h : Heap} {mg : Str → Option Value} (X : K.In h) (G : h.Ns mainGlobals mg)
  {f0 : Addr} {od0 an0 : Option Addr} {sl0 : Array (Option Value)} {oc0 kV0 dc0 pm0 cd0 ct0 : Value}
  {f1 : Addr} {od1 an1 : Option Addr} {sl1 : Array (Option Value)} {oc1 kV1 dc1 pm1 cd1 ct1 : Value}
  {f2 : Addr} {od2 an2 : Option Addr} {sl2 : Array (Option Value)} {oc2 kV2 dc2 pm2 cd2 ct2 : Value}
  {f3 : Addr} {od3 an3 : Option Addr} {sl3 : Array (Option Value)} {oc3 kV3 dc3 pm3 cd3 ct3 : Value}
  {f4 : Addr} {od4 an4 : Option Addr} {sl4 : Array (Option Value)} {oc4 kV4 dc4 pm4 cd4 ct4 : Value}
  {f5 : Addr} {od5 an5 : Option Addr} {sl5 : Array (Option Value)} {oc5 kV5 dc5 pm5 cd5 ct5 : Value}
  {f6 : Addr} {od6 an6 : Option Addr} {sl6 : Array (Option Value)} {oc6 kV6 dc6 pm6 cd6 ct6 : Value}
  {f7 : Addr} {od7 an7 : Option Addr} {sl7 : Array (Option Value)} {oc7 kV7 dc7 pm7 cd7 ct7 : Value}
  {f8 : Addr} {od8 an8 : Option Addr} {sl8 : Array (Option Value)} {oc8 kV8 dc8 pm8 cd8 ct8 : Value}
  {f9 : Addr} {od9 an9 : Option Addr} {sl9 : Array (Option Value)} {oc9 kV9 dc9 pm9 cd9 ct9 : Value}
  {f10 : Addr} {od10 an10 : Option Addr} {sl10 : Array (Option Value)} {oc10 kV10 dc10 pm10 cd10 ct10 : Value}
  {mc mP : Addr} {mt : Value} {mod : Option Addr} {mvs : Array Value} {msl : Array (Option Value)}
  (a0 : PySem.W.nsIn K mainGlobals "worth" = some (some (.ref f0)))
  (l0 : K.lookup f0 = some ⟨oc0, od0, .func (PySem.W.fnOf "worth" "worth" (defArgs s_worth) (defBody s_worth) (defScope s_worth) .none kV0 dc0 pm0 an0 cd0 ct0), sl0⟩)
  (c0 : PySem.W.codeIn K cd0 "worth" = true)
  (k0 : PySem.W.keepIn K (.ref f0) = true)
  (a1 : PySem.W.nsIn K mainGlobals "_law_cell_at" = some (some (.ref f1)))
  (l1 : K.lookup f1 = some ⟨oc1, od1, .func (PySem.W.fnOf "_law_cell_at" "_law_cell_at" (defArgs s_law_cell_at) (defBody s_law_cell_at) (defScope s_law_cell_at) .none kV1 dc1 pm1 an1 cd1 ct1), sl1⟩)
  (c1 : PySem.W.codeIn K cd1 "_law_cell_at" = true)
  (k1 : PySem.W.keepIn K (.ref f1) = true)
  (a2 : PySem.W.nsIn K mainGlobals "_law_whole" = some (some (.ref f2)))
  (l2 : K.lookup f2 = some ⟨oc2, od2, .func (PySem.W.fnOf "_law_whole" "_law_whole" (defArgs s_law_whole) (defBody s_law_whole) (defScope s_law_whole) .none kV2 dc2 pm2 an2 cd2 ct2), sl2⟩)
  (c2 : PySem.W.codeIn K cd2 "_law_whole" = true)
  (k2 : PySem.W.keepIn K (.ref f2) = true)
  (a3 : PySem.W.nsIn K mainGlobals "_law_names" = some (some (.ref f3)))
  (l3 : K.lookup f3 = some ⟨oc3, od3, .func (PySem.W.fnOf "_law_names" "_law_names" (defArgs s_law_names) (defBody s_law_names) (defScope s_law_names) .none kV3 dc3 pm3 an3 cd3 ct3), sl3⟩)
  (c3 : PySem.W.codeIn K cd3 "_law_names" = true)
  (k3 : PySem.W.keepIn K (.ref f3) = true)
  (a4 : PySem.W.nsIn K mainGlobals "_law_number" = some (some (.ref f4)))
  (l4 : K.lookup f4 = some ⟨oc4, od4, .func (PySem.W.fnOf "_law_number" "_law_number" (defArgs s_law_number) (defBody s_law_number) (defScope s_law_number) .none kV4 dc4 pm4 an4 cd4 ct4), sl4⟩)
  (c4 : PySem.W.codeIn K cd4 "_law_number" = true)
  (k4 : PySem.W.keepIn K (.ref f4) = true)
  (a5 : PySem.W.nsIn K mainGlobals "_law_part" = some (some (.ref f5)))
  (l5 : K.lookup f5 = some ⟨oc5, od5, .func (PySem.W.fnOf "_law_part" "_law_part" (defArgs s_law_part) (defBody s_law_part) (defScope s_law_part) .none kV5 dc5 pm5 an5 cd5 ct5), sl5⟩)
  (c5 : PySem.W.codeIn K cd5 "_law_part" = true)
  (k5 : PySem.W.keepIn K (.ref f5) = true)
  (a6 : PySem.W.nsIn K mainGlobals "_law_parts_by" = some (some (.ref f6)))
  (l6 : K.lookup f6 = some ⟨oc6, od6, .func (PySem.W.fnOf "_law_parts_by" "_law_parts_by" (defArgs s_law_parts_by) (defBody s_law_parts_by) (defScope s_law_parts_by) .none kV6 dc6 pm6 an6 cd6 ct6), sl6⟩)
  (c6 : PySem.W.codeIn K cd6 "_law_parts_by" = true)
  (k6 : PySem.W.keepIn K (.ref f6) = true)
  (a7 : PySem.W.nsIn K mainGlobals "_law_look" = some (some (.ref f7)))
  (l7 : K.lookup f7 = some ⟨oc7, od7, .func (PySem.W.fnOf "_law_look" "_law_look" (defArgs s_law_look) (defBody s_law_look) (defScope s_law_look) .none kV7 dc7 pm7 an7 cd7 ct7), sl7⟩)
  (c7 : PySem.W.codeIn K cd7 "_law_look" = true)
  (k7 : PySem.W.keepIn K (.ref f7) = true)
  (a8 : PySem.W.nsIn K mainGlobals "_law_due" = some (some (.ref f8)))
  (l8 : K.lookup f8 = some ⟨oc8, od8, .func (PySem.W.fnOf "_law_due" "_law_due" (defArgs s_law_due) (defBody s_law_due) (defScope s_law_due) .none kV8 dc8 pm8 an8 cd8 ct8), sl8⟩)
  (c8 : PySem.W.codeIn K cd8 "_law_due" = true)
  (k8 : PySem.W.keepIn K (.ref f8) = true)
  (a9 : PySem.W.nsIn K mainGlobals "_law_right" = some (some (.ref f9)))
  (l9 : K.lookup f9 = some ⟨oc9, od9, .func (PySem.W.fnOf "_law_right" "_law_right" (defArgs s_law_right) (defBody s_law_right) (defScope s_law_right) .none kV9 dc9 pm9 an9 cd9 ct9), sl9⟩)
  (c9 : PySem.W.codeIn K cd9 "_law_right" = true)
  (k9 : PySem.W.keepIn K (.ref f9) = true)
  (a10 : PySem.W.nsIn K mainGlobals "law" = some (some (.ref f10)))
  (l10 : K.lookup f10 = some ⟨oc10, od10, .func (PySem.W.fnOf "law" "law" (defArgs s_law) (defBody s_law) (defScope s_law) .none kV10 dc10 pm10 an10 cd10 ct10), sl10⟩)
  (c10 : PySem.W.codeIn K cd10 "law" = true)
  (k10 : PySem.W.keepIn K (.ref f10) = true)
  (z_bool : PySem.W.nsIn K mainGlobals "bool" = some none)
  (z_int : PySem.W.nsIn K mainGlobals "int" = some none)
  (z_isinstance : PySem.W.nsIn K mainGlobals "isinstance" = some none)
  (z_len : PySem.W.nsIn K mainGlobals "len" = some none)
  (z_list : PySem.W.nsIn K mainGlobals "list" = some none)
  (z_range : PySem.W.nsIn K mainGlobals "range" = some none)
  (z_sum : PySem.W.nsIn K mainGlobals "sum" = some none)
  (mk1 : cd7 = .ref mc)
  (mk2 : K.lookup mc = some ⟨mt, mod, .fields mvs, msl⟩)
  (mk3 : mvs[11]? = some (.ref mP))
  (mk4 : PySem.W.codeHdIn K mc mP = true)
  (mk5 : K.lookup mP = none)
  (mk6 : h.get? mP = some (PySem.W.tabObj #[])) :
  ∃ A : Adr, Txt K mg A ∧ ∃ c P, A.d_law_look.code = .ref c ∧ PySem.W.codeHdIn K c P = true ∧ K.lookup P = none ∧ h.get? P = some (PySem.W.tabObj #[]) :=
  ⟨⟨f0,
    PySem.W.fnOf "worth" "worth" (defArgs s_worth) (defBody s_worth) (defScope s_worth) .none kV0 dc0 pm0 an0 cd0 ct0,
    f1,
    PySem.W.fnOf "_law_cell_at" "_law_cell_at" (defArgs s_law_cell_at) (defBody s_law_cell_at) (defScope s_law_cell_at) .none kV1 dc1 pm1 an1 cd1 ct1,
    f2,
    PySem.W.fnOf "_law_whole" "_law_whole" (defArgs s_law_whole) (defBody s_law_whole) (defScope s_law_whole) .none kV2 dc2 pm2 an2 cd2 ct2,
    f3,
    PySem.W.fnOf "_law_names" "_law_names" (defArgs s_law_names) (defBody s_law_names) (defScope s_law_names) .none kV3 dc3 pm3 an3 cd3 ct3,
    f4,
    PySem.W.fnOf "_law_number" "_law_number" (defArgs s_law_number) (defBody s_law_number) (defScope s_law_number) .none kV4 dc4 pm4 an4 cd4 ct4,
    f5,
    PySem.W.fnOf "_law_part" "_law_part" (defArgs s_law_part) (defBody s_law_part) (defScope s_law_part) .none kV5 dc5 pm5 an5 cd5 ct5,
    f6,
    PySem.W.fnOf "_law_parts_by" "_law_parts_by" (defArgs s_law_parts_by) (defBody s_law_parts_by) (defScope s_law_parts_by) .none kV6 dc6 pm6 an6 cd6 ct6,
    f7,
    PySem.W.fnOf "_law_look" "_law_look" (defArgs s_law_look) (defBody s_law_look) (defScope s_law_look) .none kV7 dc7 pm7 an7 cd7 ct7,
    f8,
    PySem.W.fnOf "_law_due" "_law_due" (defArgs s_law_due) (defBody s_law_due) (defScope s_law_due) .none kV8 dc8 pm8 an8 cd8 ct8,
    f9,
    PySem.W.fnOf "_law_right" "_law_right" (defArgs s_law_right) (defBody s_law_right) (defScope s_law_right) .none kV9 dc9 pm9 an9 cd9 ct9,
    f10,
    PySem.W.fnOf "law" "law" (defArgs s_law) (defBody s_law) (defScope s_law) .none kV10 dc10 pm10 an10 cd10 ct10⟩, ⟨fun_mk (st := s_worth) l0 c0 k0,
    (fun_mk (st := s_worth) l0 c0 k0).binds (ps := ["parts", "look"]) (fun _ _ _ _ _ _ us hl => match us, hl with | [_, _], _ => rfl),
    k0,
    PySem.W.mg_of X G a0,
    fun_mk (st := s_law_cell_at) l1 c1 k1,
    (fun_mk (st := s_law_cell_at) l1 c1 k1).binds (ps := ["_law_script", "_law_k"]) (fun _ _ _ _ _ _ us hl => match us, hl with | [_, _], _ => rfl),
    k1,
    PySem.W.mg_of X G a1,
    fun_mk (st := s_law_whole) l2 c2 k2,
    (fun_mk (st := s_law_whole) l2 c2 k2).binds (ps := ["_law_found"]) (fun _ _ _ _ _ _ us hl => match us, hl with | [_], _ => rfl),
    k2,
    PySem.W.mg_of X G a2,
    fun_mk (st := s_law_names) l3 c3 k3,
    (fun_mk (st := s_law_names) l3 c3 k3).binds (ps := ["_law_script"]) (fun _ _ _ _ _ _ us hl => match us, hl with | [_], _ => rfl),
    k3,
    PySem.W.mg_of X G a3,
    fun_mk (st := s_law_number) l4 c4 k4,
    (fun_mk (st := s_law_number) l4 c4 k4).binds (ps := ["_law_cell"]) (fun _ _ _ _ _ _ us hl => match us, hl with | [_], _ => rfl),
    k4,
    PySem.W.mg_of X G a4,
    fun_mk (st := s_law_part) l5 c5 k5,
    (fun_mk (st := s_law_part) l5 c5 k5).binds (ps := ["_law_cell", "_law_names_here", "_law_used"]) (fun _ _ _ _ _ _ us hl => match us, hl with | [_, _, _], _ => rfl),
    k5,
    PySem.W.mg_of X G a5,
    fun_mk (st := s_law_parts_by) l6 c6 k6,
    (fun_mk (st := s_law_parts_by) l6 c6 k6).binds (ps := ["_law_cells", "_law_names_here"]) (fun _ _ _ _ _ _ us hl => match us, hl with | [_, _], _ => rfl),
    k6,
    PySem.W.mg_of X G a6,
    fun_mk (st := s_law_look) l7 c7 k7,
    (fun_mk (st := s_law_look) l7 c7 k7).binds (ps := ["_law_worths"]) (fun _ _ _ _ _ _ us hl => match us, hl with | [_], _ => rfl),
    k7,
    PySem.W.mg_of X G a7,
    fun_mk (st := s_law_due) l8 c8 k8,
    (fun_mk (st := s_law_due) l8 c8 k8).binds (ps := ["_law_parts", "_law_worths"]) (fun _ _ _ _ _ _ us hl => match us, hl with | [_, _], _ => rfl),
    k8,
    PySem.W.mg_of X G a8,
    fun_mk (st := s_law_right) l9 c9 k9,
    (fun_mk (st := s_law_right) l9 c9 k9).binds (ps := ["_law_parts", "_law_worths", "_law_others", "_law_at"]) (fun _ _ _ _ _ _ us hl => match us, hl with | [_, _, _, _], _ => rfl),
    k9,
    PySem.W.mg_of X G a9,
    fun_mk (st := s_law) l10 c10 k10,
    (fun_mk (st := s_law) l10 c10 k10).binds (ps := ["_law_script"]) (fun _ _ _ _ _ _ us hl => match us, hl with | [_], _ => rfl),
    k10,
    PySem.W.mg_of X G a10,
    PySem.W.mg_none_of X G z_bool,
    PySem.W.mg_none_of X G z_int,
    PySem.W.mg_none_of X G z_isinstance,
    PySem.W.mg_none_of X G z_len,
    PySem.W.mg_none_of X G z_list,
    PySem.W.mg_none_of X G z_range,
    PySem.W.mg_none_of X G z_sum,
    L2.kit_ty (by decide +kernel),
    L2.kit_ty (by decide +kernel),
    L2.kit_ty (by decide +kernel),
    L2.kit_ty (by decide +kernel),
    L2.kit_ty (by decide +kernel),
    L2.kit_ty (by decide +kernel),
    L2.kit_ty (by decide +kernel),
    L2.kit_ty (by decide +kernel),
    L2.kit_ty (by decide +kernel),
    L2.kit_ty (by decide +kernel),
    L2.kit_ty (by decide +kernel),
    L2.kit_ty (by decide +kernel),
    L2.kit_ty (by decide +kernel),
    L2.kit_ty (by decide +kernel)⟩, mc, mP, mk1, mk4, mk5, mk6⟩
theorem walk {l : PySem.W.OpenLaw} {q : Program} {loose : List Str} {XP : (Str → Option Value) → Heap → Prop} {YP : World → Heap → Prop} {d : DefRec} {K : Params → PySem.W.Frag} (hn : l.most = some 63) (hdf : d.params.defaults = []) (hnm : d.name = "law")
    (hY : ∀ (w : World) (h : Heap), YP w h → (K w.params).In h)
    (F : ∀ (w : World) (mg : Str → Option Value) (h : Heap), YP w h → (K w.params).In h → h.Ns mainGlobals mg → ∃ A : Adr, Txt (K w.params) mg A ∧ ∃ c P, A.d_law_look.code = .ref c ∧ PySem.W.codeHdIn (K w.params) c P = true ∧ (K w.params).lookup P = none ∧ h.get? P = some (PySem.W.tabObj #[])) :
    PySem.W.WalkO q loose XP YP l.row.toRowW d [] (fun f vs => PySem.call f vs) := by
  refine L2.walk_ofT (n := 63) (k := 5) (x := "_law_script") (CX := fun _ => CX0) (sp := fun Pt w => sp_law (K w.params) Pt) hn (by decide) hdf ⟨rfl, by decide, by decide⟩ hY (fun w mg fa h Y KX G hmg => ?_) (fun Pt w H a ns hl hb hO hS => ⟨a, ns, rfl, hS, hl, hb, .inl hO.1, fun _ => rfl⟩) fun _ _ _ _ _ z => z
  obtain ⟨A, T, c, Pt, m1, m2, m3, m4⟩ := F w mg h Y KX G
  rw [hnm] at hmg
  have e := hmg.symm.trans T.m_law
  cases e
  obtain ⟨oc, od, kV, doc, pm, an, cdv, ct, osl, efd, lk, hcd⟩ := id T.F_law.ex
  exact ⟨c, Pt, A.d_law, m2, m4, m3, fun s v => by rw [efd]; exact .of_eq rfl, fun base _ _ B => ok_law T B m1 m2⟩
end K13
open PySem PySem.W PyProof.Rows
set_option maxRecDepth 100000 in
set_option maxHeartbeats 0 in
theorem PySem.Challenge.cw_askpaper_k13_worth_holds : PySem.Challenge.rw_askpaper_k13_worth.Holds := by
  w_on; o_law; k_head; (case hw => w_witness2)
  k_fill
  refine K13.walk (l := PySem.Challenge.rw_askpaper_k13_worth) rfl rfl rfl (fun w h Y => PySem.W.km_in_of Y) ?F
  case F =>
    intro w mg h Y KX G
    have T : ∃ A : K13.Adr, K13.Txt (L2.KOf KX) mg A ∧ ∃ c P, A.d_law_look.code = .ref c ∧ PySem.W.codeHdIn (L2.KOf KX) c P = true ∧ (L2.KOf KX).lookup P = none ∧ h.get? P = some (PySem.W.tabObj #[]) := by
      dsimp only [L2.KOf]
      refine' K13.txt_mk KX G ?zza0 ?zzl0 ?zzc0 ?zzk0 ?zza1 ?zzl1 ?zzc1 ?zzk1 ?zza2 ?zzl2 ?zzc2 ?zzk2 ?zza3 ?zzl3 ?zzc3 ?zzk3 ?zza4 ?zzl4 ?zzc4 ?zzk4 ?zza5 ?zzl5 ?zzc5 ?zzk5 ?zza6 ?zzl6 ?zzc6 ?zzk6 ?zza7 ?zzl7 ?zzc7 ?zzk7 ?zza8 ?zzl8 ?zzc8 ?zzk8 ?zza9 ?zzl9 ?zzc9 ?zzk9 ?zza10 ?zzl10 ?zzc10 ?zzk10 ?zzz_bool ?zzz_int ?zzz_isinstance ?zzz_len ?zzz_list ?zzz_range ?zzz_sum ?zzmk1 ?zzmk2 ?zzmk3 ?zzmk4 ?zzmk5 ?zzmk6
      (case zza0 => k_is)
      (case zzl0 => k_is)
      (case zzc0 => k_is)
      (case zzk0 => k_is)
      (case zza1 => k_is)
      (case zzl1 => k_is)
      (case zzc1 => k_is)
      (case zzk1 => k_is)
      (case zza2 => k_is)
      (case zzl2 => k_is)
      (case zzc2 => k_is)
      (case zzk2 => k_is)
      (case zza3 => k_is)
      (case zzl3 => k_is)
      (case zzc3 => k_is)
      (case zzk3 => k_is)
      (case zza4 => k_is)
      (case zzl4 => k_is)
      (case zzc4 => k_is)
      (case zzk4 => k_is)
      (case zza5 => k_is)
      (case zzl5 => k_is)
      (case zzc5 => k_is)
      (case zzk5 => k_is)
      (case zza6 => k_is)
      (case zzl6 => k_is)
      (case zzc6 => k_is)
      (case zzk6 => k_is)
      (case zza7 => k_is)
      (case zzl7 => k_is)
      (case zzc7 => k_is)
      (case zzk7 => k_is)
      (case zza8 => k_is)
      (case zzl8 => k_is)
      (case zzc8 => k_is)
      (case zzk8 => k_is)
      (case zza9 => k_is)
      (case zzl9 => k_is)
      (case zzc9 => k_is)
      (case zzk9 => k_is)
      (case zza10 => k_is)
      (case zzl10 => k_is)
      (case zzc10 => k_is)
      (case zzk10 => k_is)
      (case zzz_bool => k_is)
      (case zzz_int => k_is)
      (case zzz_isinstance => k_is)
      (case zzz_len => k_is)
      (case zzz_list => k_is)
      (case zzz_range => k_is)
      (case zzz_sum => k_is)
      (case zzmk1 => rfl)
      (case zzmk2 => k_is)
      (case zzmk3 => rfl)
      (case zzmk4 => kernel_rfl)
      (case zzmk5 => kernel_rfl)
      (case zzmk6 => exact PySem.W.km_tabs_of Y _ (by first | exact .head _ | exact .tail _ (.head _) | exact .tail _ (.tail _ (.head _))))
    exact T
#print axioms PySem.Challenge.cw_askpaper_k13_worth_holds
