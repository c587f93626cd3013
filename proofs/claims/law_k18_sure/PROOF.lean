import PyProof.Rows.All
import Wide.All
import OpenK.AllK
import Wide.FinOn
import Lean
import PyProof.EqAt
import PyProof.EqKinds
import PyProof.TupleCall
import PySem.Challenge.RW_askpaper_k18_sure
set_option Elab.async false
set_option linter.all false
set_option maxRecDepth 100000
/-! THE HAND LAYER, for ints, bools, texts, own classes, LISTS and tuples (index, slices, in, append, pop ..), calls, loops. Paste it whole ahead of your own text; what your proof does not reach may be deleted. -/
namespace L2
open PySem PySem.Spec PyProof.Rows

/-- a key: an int or a str -/
abbrev Key := Sum Int Str
def keyIs : Key → Value → Bool
  | .inl k, v => Value.isInt k v
  | .inr x, v => Value.isStrOf x v
def keyH (w : World) : Key → Int
  | .inl k => hashInt k
  | .inr x => hashStr w x
theorem keyIs_shape : ∀ {k : Key} {v : Value}, keyIs k v = true → (∃ i t, k = Sum.inl i ∧ v = Value.int i t) ∨ (∃ x t, k = Sum.inr x ∧ v = Value.str x t)
  | .inl i, v, h => by
    obtain ⟨t, e⟩ := Value.isInt_shape (k := i) (v := v) h
    exact .inl ⟨i, t, rfl, e⟩
  | .inr x, v, h => by
    obtain ⟨t, e⟩ := Value.isStrOf_shape (x := x) (v := v) h
    exact .inr ⟨x, t, rfl, e⟩
theorem keyIs_int (i : Int) (t : Tok) : keyIs (.inl i) (.int i t) = true := by simp [keyIs, Value.isInt]
theorem keyIs_str (x : Str) (t : Tok) : keyIs (.inr x) (.str x t) = true := by simp [keyIs, Value.isStrOf]
theorem key_ll (a b : Int) : decide ((Sum.inl a : Key) = Sum.inl b) = (a == b) := by
  by_cases e : a = b
  · subst e; simp
  · have h : ¬ (Sum.inl a : Key) = Sum.inl b := fun q => e (Sum.inl.inj q)
    rw [decide_eq_false h]
    exact (beq_eq_false_iff_ne.mpr e).symm
theorem key_rr (a b : Str) : decide ((Sum.inr a : Key) = Sum.inr b) = decide (a = b) := by
  by_cases e : a = b
  · subst e; simp
  · have h : ¬ (Sum.inr a : Key) = Sum.inr b := fun q => e (Sum.inr.inj q)
    rw [decide_eq_false h, decide_eq_false e]
theorem key_lr (a : Int) (b : Str) : decide ((Sum.inl a : Key) = Sum.inr b) = false := decide_eq_false (fun q => nomatch q)
theorem key_rl (a : Str) (b : Int) : decide ((Sum.inr a : Key) = Sum.inl b) = false := decide_eq_false (fun q => nomatch q)

def mixKind (prog : Program) (w : World) : PySem.KeyKind prog w Key where
  is := keyIs
  hash := keyH w
  inj := fun v a b ha hb => by
    rcases keyIs_shape ha with ⟨i, t, rfl, rfl⟩ | ⟨x, t, rfl, rfl⟩
    · rcases keyIs_shape hb with ⟨j, u, rfl, e⟩ | ⟨y, u, rfl, e⟩
      · injection e with e1 _; rw [e1]
      · exact nomatch e
    · rcases keyIs_shape hb with ⟨j, u, rfl, e⟩ | ⟨y, u, rfl, e⟩
      · exact nomatch e
      · injection e with e1 _; rw [e1]
  byValue := fun k v h => by
    rcases keyIs_shape h with ⟨i, t, rfl, rfl⟩ | ⟨x, t, rfl, rfl⟩ <;> rfl
  pyHash := fun hv h => by
    rcases keyIs_shape hv with ⟨i, t, rfl, rfl⟩ | ⟨x, t, rfl, rfl⟩
    · exact wpAny_pyHash_int h
    · exact wpAny_pyHash_str h
  eqBool := fun hu hv h => by
    rcases keyIs_shape hu with ⟨i, t, rfl, rfl⟩ | ⟨x, t, rfl, rfl⟩
    · rcases keyIs_shape hv with ⟨j, u, rfl, rfl⟩ | ⟨y, u, rfl, rfl⟩
      · rw [key_ll] at h; exact wpAny_eqBool_int h
      · rw [key_lr] at h; exact SeqAt.EqAt.int_str i t y u _ _ _ _ h
    · rcases keyIs_shape hv with ⟨j, u, rfl, rfl⟩ | ⟨y, u, rfl, rfl⟩
      · rw [key_rl] at h; exact SeqAt.EqAt.str_int x t j u _ _ _ _ h
      · rw [key_rr] at h; exact wpAny_eqBool_str h
  «strs» := fun k x t v h => by
    rcases keyIs_shape h with ⟨i, u, rfl, e⟩ | ⟨y, u, rfl, e⟩
    · exact nomatch e
    · injection e with e1 _
      subst e1
      cases v <;> rfl

theorem mixKind_int (prog : Program) (w : World) (i : Int) (t : Tok) : (mixKind prog w).is (.inl i) (.int i t) = true := keyIs_int i t
theorem mixKind_str (prog : Program) (w : World) (x : Str) (t : Tok) : (mixKind prog w).is (.inr x) (.str x t) = true := keyIs_str x t
end L2

namespace L2
open PySem PySem.Spec PyProof.Rows

/-- a value, without the heap -/
inductive V where
  | non | bl (b : Bool) | int (i : Int) | str (x : Str) | byt (b : Array UInt8) | flt (b : UInt64) | ref (a : Addr) | ty (n : String)
  deriving DecidableEq

def RelV : V → Value → Prop
  | .non, u => u = Value.none
  | .bl b, u => u = Value.bool b
  | .int i, u => ∃ t, u = Value.int i t
  | .str x, u => ∃ t, u = Value.str x t
  | .byt b, u => ∃ t, u = Value.bytes b t
  | .flt b, u => ∃ t, u = Value.float b t
  | .ref a, u => u = Value.ref a
  | .ty n, u => u = Value.type n

abbrev Vals : List V → List Value → Prop := Paired RelV
theorem Vals.length {xs : List V} {us : List Value} (r : Vals xs us) : xs.length = us.length := Paired.length r
theorem Vals.get : ∀ {xs : List V} {us : List Value} {i : Nat} {x : V}, Vals xs us → xs[i]? = some x → ∃ u, us[i]? = some u ∧ RelV x u
  | _, _, _, _, .nil, e => by simp at e
  | _, _, 0, _, .cons r _, e => by simp at e; subst e; exact ⟨_, rfl, r⟩
  | _, _, i + 1, x, .cons _ t, e => by
    obtain ⟨u, h1, h2⟩ := Vals.get (i := i) (x := x) t (by simpa using e)
    exact ⟨u, by simpa using h1, h2⟩
theorem Vals.set {x : V} {u : Value} (r : RelV x u) : ∀ {xs : List V} {us : List Value} (i : Nat), Vals xs us → Vals (xs.set i x) (us.set i u)
  | _, _, _, .nil => .nil
  | _, _, 0, .cons _ t => .cons r t
  | _, _, i + 1, .cons q t => .cons q (Vals.set r i t)
theorem Vals.append : ∀ {xs ys : List V} {us ws : List Value}, Vals xs us → Vals ys ws → Vals (xs ++ ys) (us ++ ws)
  | _, _, _, _, .nil, s => s
  | _, _, _, _, .cons r t, s => .cons r (Vals.append t s)
theorem Vals.take : ∀ {xs : List V} {us : List Value} (n : Nat), Vals xs us → Vals (xs.take n) (us.take n)
  | _, _, 0, _ => .nil
  | _, _, _ + 1, .nil => .nil
  | _, _, n + 1, .cons r t => .cons r (Vals.take n t)
theorem Vals.drop : ∀ {xs : List V} {us : List Value} (n : Nat), Vals xs us → Vals (xs.drop n) (us.drop n)
  | _, _, 0, r => r
  | _, _, _ + 1, .nil => .nil
  | _, _, n + 1, .cons _ t => Vals.drop n t
theorem Vals.none_of : ∀ {xs : List V} {us : List Value} {i : Nat}, Vals xs us → xs[i]? = none → us[i]? = none := fun {xs us i} r e => by
  have h1 := r.length
  have h2 : xs.length ≤ i := List.getElem?_eq_none_iff.mp e
  exact List.getElem?_eq_none_iff.mpr (by omega)

def RelO : Option V → Option Value → Prop
  | some v, some u => RelV v u
  | none, none => True
  | _, _ => False
def KV {κ : Type} : List (κ × V) → List (κ × Value) → Prop := Paired fun (p : κ × V) (q : κ × Value) => p.1 = q.1 ∧ RelV p.2 q.2

/-- a key of a dict (00_mix): an int or a text -/
def kV : Key → V
  | .inl i => .int i
  | .inr x => .str x

/-- what stands at a tracked address -/
inductive HO where
  /-- a list -/
  | lst (xs : List V)
  /-- a tuple (never changes) -/
  | tup (xs : List V)
  /-- a dict whose keys are ints and texts; one whose keys are tuples of ints and texts (the empty one is both) -/
  | dK (kvs : List (Key × V)) | dT (kvs : List (List Key × V))
  /-- a set of ints: its members, its size -/
  | set (S : Int → Bool) (n : Nat)
  /-- an instance of the class at C, its dict at dx, its attributes -/
  | ins (C dx : Addr) (fs : List (Str × V))
  /-- the dict of the instance at x -/
  | own (x : Addr)
  /-- the dict of an exception -/
  | xd (fs : List (Str × V))
  /-- a bound method, f of x -/
  | met (f x : Addr)
  /-- a range object lo, lo + 1, .. below hi -/
  | rng (lo hi : Int)
  /-- a thing that is known to the object (the script; a dict while a loop walks it): read, never written while it is so -/
  | frz (o : Obj) (u : HO)
  /-- a code object's table -/
  | tbl (ps : Array Value)
  /-- any other thing, by what is true of its one object (a def of one's own: SetO a S n := HO.ext fun h => ..) -/
  | ext (φ : Heap → Prop)

abbrev Hp := Addr → Option HO
def upd (H : Hp) (a : Addr) (o : HO) : Hp := fun b => if b = a then some o else H b
theorem upd_same {H : Hp} {a : Addr} {o : HO} : upd H a o a = some o := by unfold upd; rw [if_pos rfl]
theorem upd_ne {H : Hp} {a b : Addr} {o : HO} (h : b ≠ a) : upd H a o b = H b := by unfold upd; rw [if_neg h]
theorem upd_upd {H : Hp} {a : Addr} {o u : HO} : upd (upd H a o) a u = upd H a u := by
  funext b; unfold upd; split <;> rfl
/-- two objects of different content stand apart -/
theorem ne_of {H : Hp} {a b : Addr} {o u : HO} (h : H a = some o) (h' : H b = some u) (d : o ≠ u) : a ≠ b := by
  intro e; subst e; rw [h] at h'; exact d (Option.some.inj h')
theorem ne_of_none {H : Hp} {a b : Addr} {o : HO} (h : H a = some o) (h' : H b = none) : a ≠ b := by
  intro e; subst e; rw [h] at h'; cases h'

section
variable (P : Program) (w : World)
def ObjOk (H : Hp) (h : Heap) (a : Addr) : HO → Prop
  | .lst xs => xs.length ≤ sizeLine ∧ ∃ (its : List Value) (n : Nat), Vals xs its ∧ h.get? a = some { cls := .type "list", data := .seq its.toArray n }
  | .tup xs => xs.length ≤ sizeLine ∧ ∃ its : List Value, Vals xs its ∧ IsTup h a its.toArray
  | .dK kvs => kvs.length ≤ sizeLine ∧ (a == sysModules) = false ∧ ∃ vs, KV kvs vs ∧ h.DictOf (mixKind P w) a vs
  | .dT kvs => kvs.length ≤ sizeLine ∧ (a == sysModules) = false ∧ ∃ xs : List (List Key × Addr × Value),
      Paired (fun (p : List Key × V) (q : List Key × Addr × Value) => p.1 = q.1 ∧ H q.2.1 = some (.tup (p.1.map kV)) ∧ RelV p.2 q.2.2) kvs xs ∧
      ∃ o es ep, h.get? a = some o ∧ o.ExactDict ∧ o.data = .dict es ep ∧ es.toList = xs.map (entryOfKey (tupleKind (mixKind P w))) ∧ (xs.map (·.1)).Nodup
  | .set S n => h.SetOf (intKind P w) a S n
  | .ins C dx fs => H dx = some (.own a) ∧ fs.length ≤ 1000 ∧ dx ≠ a ∧ h.get? a = some (PySem.W.instObj C dx) ∧
      ∃ mA, h.Ns1 dx mA ∧ (∀ f, RelO (fs.lookup f) (mA f)) ∧ PySem.Within mA (fs.map (·.1))
  | .own _ => ∃ o, h.get? a = some o
  | .xd fs => ∃ mA, h.Ns1 a mA ∧ ∀ f, RelO (fs.lookup f) (mA f)
  | .rng lo hi => ∃ t u v, h.get? a = some { cls := .type "range", data := .fields #[.int lo t, .int hi u, .int 1 v] }
  | .frz o u => h.get? a = some o ∧ ObjOk H h a u
  | .tbl ps => h.get? a = some { cls := .none, data := .fields ps }
  | .met f x => h.get? a = some (PySem.W.methodObj (.ref f) (.ref x))
  | .ext φ => φ h ∧ (∃ o, h.get? a = some o) ∧ ∀ h1 h2 : Heap, φ h1 → (∀ o, h1.get? a = some o → h2.get? a = some o) → φ h2
/-- the abstract heap is held -/
def HOk (H : Hp) (h : Heap) : Prop := ∀ a o, H a = some o → ObjOk P w H h a o
end

section
variable {P : Program} {w : World} {H H' : Hp} {h h' : Heap} {a : Addr} {o : HO}
theorem ObjOk.lt (x : ObjOk P w H h a o) : a < h.objs.size := by
  cases o with
  | lst xs => obtain ⟨_, _, _, _, e⟩ := x; exact Heap.lt_size e
  | tup xs => obtain ⟨_, _, _, p⟩ := x; exact p.lt
  | dK kvs => obtain ⟨_, _, _, _, o, _, _, e, _⟩ := x; exact Heap.lt_size e
  | dT kvs => obtain ⟨_, _, _, _, o, _, _, e, _⟩ := x; exact Heap.lt_size e
  | set S n => obtain ⟨o, _, _, _, e, _⟩ := x; exact Heap.lt_size e
  | ins C dx fs => obtain ⟨_, _, _, e, _⟩ := x; exact Heap.lt_size e
  | own y => obtain ⟨_, e⟩ := x; exact Heap.lt_size e
  | xd fs => obtain ⟨_, ⟨_, _, _, e, _⟩, _⟩ := x; exact Heap.lt_size e
  | rng lo hi => obtain ⟨_, _, _, e⟩ := x; exact Heap.lt_size e
  | frz ob u => obtain ⟨e, _⟩ := x; exact Heap.lt_size e
  | tbl ps => exact Heap.lt_size (show h.get? a = some _ from x)
  | met f y => exact Heap.lt_size (show h.get? a = some _ from x)
  | ext φ => obtain ⟨_, ⟨_, e⟩, _⟩ := x; exact Heap.lt_size e
theorem Paired.mapP {α β : Type} {F G : α → β → Prop} : ∀ {l₁ : List α} {l₂ : List β}, Paired F l₁ l₂ → (∀ a b, F a b → G a b) → Paired G l₁ l₂
  | _, _, .nil, _ => .nil
  | _, _, .cons r t, f => .cons (f _ _ r) (Paired.mapP t f)
/-- what an object's description leans on: its own object, its own dict, the tuples -/
theorem ObjOk.stay (x : ObjOk P w H h a o) (k : ∀ b u, (b = a ∨ H b = some (.own a)) → h.get? b = some u → h'.get? b = some u)
    (ho : ∀ b, H b = some (.own a) → H' b = some (.own a)) (ht : ∀ b xs, H b = some (.tup xs) → H' b = some (.tup xs)) : ObjOk P w H' h' a o := by
  induction o with
  | lst xs => obtain ⟨z, its, n, r, e⟩ := x; exact ⟨z, its, n, r, k _ _ (.inl rfl) e⟩
  | tup xs => obtain ⟨z, its, r, ob, e, c⟩ := x; exact ⟨z, its, r, ob, k _ _ (.inl rfl) e, c⟩
  | dK kvs => obtain ⟨z, y, vs, r, ob, es, ep, e, c⟩ := x; exact ⟨z, y, vs, r, ob, es, ep, k _ _ (.inl rfl) e, c⟩
  | dT kvs =>
    obtain ⟨z, y, xs, r, ob, es, ep, e, c⟩ := x
    exact ⟨z, y, xs, Paired.mapP r fun p q z => ⟨z.1, ht _ _ z.2.1, z.2.2⟩, ob, es, ep, k _ _ (.inl rfl) e, c⟩
  | set S n => obtain ⟨ob, es, ep, t, e, c⟩ := x; exact ⟨ob, es, ep, t, k _ _ (.inl rfl) e, c⟩
  | ins C dx fs =>
    obtain ⟨d, z, ne, e, mA, ⟨od, es, ep, e2, c⟩, r⟩ := x
    exact ⟨ho _ d, z, ne, k _ _ (.inl rfl) e, mA, ⟨od, es, ep, k _ _ (.inr d) e2, c⟩, r⟩
  | own y => obtain ⟨ob, e⟩ := x; exact ⟨ob, k _ _ (.inl rfl) e⟩
  | xd fs => obtain ⟨mA, ⟨od, es, ep, e, c⟩, r⟩ := x; exact ⟨mA, ⟨od, es, ep, k _ _ (.inl rfl) e, c⟩, r⟩
  | rng lo hi => obtain ⟨t, u, v, e⟩ := x; exact ⟨t, u, v, k _ _ (.inl rfl) e⟩
  | frz ob u ih => obtain ⟨e, q⟩ := x; exact ⟨k _ _ (.inl rfl) e, ih q⟩
  | tbl ps =>
    have e : h.get? a = some { cls := .none, data := .fields ps } := x
    show h'.get? a = some { cls := .none, data := .fields ps }
    exact k a _ (.inl rfl) e
  | met f y =>
    have e : h.get? a = some (PySem.W.methodObj (.ref f) (.ref y)) := x
    show h'.get? a = some (PySem.W.methodObj (.ref f) (.ref y))
    exact k a _ (.inl rfl) e
  | ext φ => obtain ⟨p, ⟨o, e⟩, st⟩ := x; exact ⟨st _ _ p fun o q => k _ _ (.inl rfl) q, ⟨o, k _ _ (.inl rfl) e⟩, st⟩
theorem HOk.lt (x : HOk P w H h) (e : H a = some o) : a < h.objs.size := (x a o e).lt
theorem HOk.fresh (x : HOk P w H h) (e : h.objs.size ≤ a) : H a = none := by
  cases q : H a with
  | none => rfl
  | some u => exact absurd (Nat.lt_of_lt_of_le (x.lt q) e) (Nat.lt_irrefl _)
/-- every object of the heap is kept -/
theorem HOk.kept (x : HOk P w H h) (k : ∀ b u, h.get? b = some u → h'.get? b = some u) : HOk P w H h' := fun a o e =>
  (x a o e).stay (fun b u _ q => k b u q) (fun _ q => q) fun _ _ q => q
/-- a new object is laid and tracked -/
theorem HOk.laid (x : HOk P w H h) (k : ∀ b u, h.get? b = some u → h'.get? b = some u) (hp : h.objs.size ≤ a) (new : ObjOk P w (upd H a o) h' a o) : HOk P w (upd H a o) h' := fun b u e => by
  have hn := x.fresh hp
  by_cases hb : b = a
  · subst hb; rw [upd_same] at e; cases e; exact new
  · rw [upd_ne hb] at e
    exact (x b u e).stay (fun c v _ q => k c v q) (fun c q => by rw [upd_ne (ne_of_none q hn)]; exact q) fun c xs q => by rw [upd_ne (ne_of_none q hn)]; exact q
end

/-- what may be read as u: it is u, or a known u -/
def Rd (H : Hp) (a : Addr) (u : HO) : Prop := H a = some u ∨ ∃ o, H a = some (.frz o u)
theorem Rd.of {H : Hp} {a : Addr} {u : HO} (h : H a = some u) : Rd H a u := .inl h
theorem Rd.ok {P : Program} {w : World} {H : Hp} {h : Heap} {a : Addr} {u : HO} (r : Rd H a u) (x : HOk P w H h) : ObjOk P w H h a u := by
  rcases r with r | ⟨o, r⟩
  · exact x a u r
  · obtain ⟨_, q⟩ := x a _ r
    exact q
/-- what may be written -/
def Mut : Option HO → Prop
  | some (.lst _) => True
  | some (.dK _) => True
  | some (.dT _) => True
  | some (.set _ _) => True
  | some (.ins _ _ _) => True
  | some (.ext _) => True
  | _ => False
section
variable {P : Program} {w : World} {H : Hp} {h h' : Heap} {x e : Addr} {o' : HO}
/-- the object at e is changed: x itself, or the dict of the instance x -/
theorem HOk.write (ok : HOk P w H h) (mu : Mut (H x)) (he : e = x ∨ H e = some (.own x)) (k : ∀ b u, b ≠ e → h.get? b = some u → h'.get? b = some u) (heo : ∃ u, h'.get? e = some u)
    (new : ObjOk P w (upd H x o') h' x o') : HOk P w (upd H x o') h' := fun b u q => by
  have nown : ∀ c y, H c = some (.own y) → c ≠ x := fun c y r z => by subst z; rw [r] at mu; exact mu
  have ntup : ∀ c xs, H c = some (.tup xs) → c ≠ x := fun c xs r z => by subst z; rw [r] at mu; exact mu
  by_cases hb : b = x
  · subst hb; rw [upd_same] at q; cases q; exact new
  · rw [upd_ne hb] at q
    by_cases hbe : b = e
    · have q' : H b = some (.own x) := by
        rcases he with z | z
        · exact absurd (hbe.trans z) hb
        · rw [hbe]; exact z
      rw [q] at q'; cases q'
      obtain ⟨v, hv⟩ := heo
      exact ⟨v, by rw [hbe]; exact hv⟩
    · refine (ok b u q).stay (fun c v hc r => k c v ?_ r) (fun c r => by rw [upd_ne (nown c b r)]; exact r) fun c xs r => by rw [upd_ne (ntup c xs r)]; exact r
      rcases hc with rfl | hc
      · exact hbe
      · rintro rfl
        rcases he with z | z
        · exact nown c b hc z
        · rw [hc] at z; cases z; exact hb rfl
end

/-! ### kept unless tracked; of the frames at fs (the callers') the slots may change (an exception that passes writes there); of the records at ex (iterators) nothing is said -/
structure Un (fs ex : List Addr) (H H' : Hp) (h h' : Heap) : Prop where
  keep : ∀ b o, h.get? b = some o → H b = none → b ∉ fs → b ∉ ex → h'.get? b = some o
  slot : ∀ b o, h.get? b = some o → H b = none → b ∈ fs → b ∉ ex → ∃ sl, h'.get? b = some { o with slots := sl }
  free : ∀ b o, h.get? b = some o → H b = none → b ∉ ex → H' b = none
  there : ∀ b o, h.get? b = some o → b ∉ ex → ∃ o', h'.get? b = some o'
  tups : ∀ b xs, H b = some (.tup xs) → H' b = some (.tup xs)
  frzs : ∀ b o u, H b = some (.frz o u) → H' b = some (.frz o u)
  tbls : ∀ b ps, H b = some (.tbl ps) → ∃ more, H' b = some (.tbl (ps ++ more))
section
variable {fs fs' ex ex' : List Addr} {H H1 H2 : Hp} {h h1 h2 h' : Heap} {a x e : Addr} {o : HO}
theorem Un.any (u : Un fs ex H H1 h h1) {b : Addr} {ob : Obj} (q : h.get? b = some ob) (n : H b = none) (hx : b ∉ ex) : ∃ sl, h1.get? b = some { ob with slots := sl } := by
  by_cases hb : b ∈ fs
  · exact u.slot b ob q n hb hx
  · exact ⟨ob.slots, u.keep b ob q n hb hx⟩
theorem Un.trans (a : Un fs ex H H1 h h1) (b : Un fs ex H1 H2 h1 h2) : Un fs ex H H2 h h2 where
  keep := fun c ob q n hc hx => b.keep c ob (a.keep c ob q n hc hx) (a.free c ob q n hx) hc hx
  slot := fun c ob q n hc hx => by
    obtain ⟨sl, e1⟩ := a.slot c ob q n hc hx
    obtain ⟨sl', e2⟩ := b.slot c _ e1 (a.free c ob q n hx) hc hx
    exact ⟨sl', e2⟩
  free := fun c ob q n hx => by
    obtain ⟨o', e1⟩ := a.there c ob q hx
    exact b.free c o' e1 (a.free c ob q n hx) hx
  there := fun c ob q hx => by
    obtain ⟨o', e1⟩ := a.there c ob q hx
    exact b.there c o' e1 hx
  tups := fun c xs q => b.tups c xs (a.tups c xs q)
  frzs := fun c ob xs q => b.frzs c ob xs (a.frzs c ob xs q)
  tbls := fun c ps q => by
    obtain ⟨m1, e1⟩ := a.tbls c ps q
    obtain ⟨m2, e2⟩ := b.tbls c _ e1
    exact ⟨m1 ++ m2, by rw [e2, Array.append_assoc]⟩
theorem Un.kept (k : ∀ b u, h.get? b = some u → h'.get? b = some u) : Un fs ex H H h h' :=
  ⟨fun b ob q _ _ _ => k b ob q, fun b ob q _ _ _ => ⟨ob.slots, k b ob q⟩, fun _ _ _ n _ => n, fun b ob q _ => ⟨ob, k b ob q⟩, fun _ _ q => q, fun _ _ _ q => q, fun _ ps q => ⟨#[], by rw [q]; simp⟩⟩
theorem Un.refl : Un fs ex H H h h := Un.kept fun _ _ q => q
theorem Un.laid (k : ∀ b u, h.get? b = some u → h'.get? b = some u) (hp : h.objs.size ≤ a) (hn : H a = none) : Un fs ex H (upd H a o) h h' where
  keep := fun b u q _ _ _ => k b u q
  slot := fun b u q _ _ _ => ⟨u.slots, k b u q⟩
  free := fun b u q n _ => by rw [upd_ne (Nat.ne_of_lt (Nat.lt_of_lt_of_le (Heap.lt_size q) hp))]; exact n
  there := fun b u q _ => ⟨u, k b u q⟩
  tups := fun b xs q => by rw [upd_ne (ne_of_none q hn)]; exact q
  frzs := fun b u xs q => by rw [upd_ne (ne_of_none q hn)]; exact q
  tbls := fun b ps q => ⟨#[], by rw [upd_ne (ne_of_none q hn), q]; simp⟩
theorem Un.write (mu : Mut (H x)) (he : e = x ∨ H e = some (.own x)) (k : ∀ b u, b ≠ e → h.get? b = some u → h'.get? b = some u) (heo : ∃ u, h'.get? e = some u) : Un fs ex H (upd H x o) h h' := by
  have hx : ∀ b, H b = none → b ≠ x := fun b n z => by subst z; rw [n] at mu; exact mu
  have hb : ∀ b, H b = none → b ≠ e := fun b n z => by
    subst z
    rcases he with r | r
    · exact hx b n r
    · rw [n] at r; cases r
  have hm : ∀ b u, H b = some u → ¬ Mut (some u) → b ≠ x := fun b u q nm z => by subst z; rw [q] at mu; exact nm mu
  refine ⟨fun b u q n _ _ => k b u (hb b n) q, fun b u q n _ _ => ⟨u.slots, k b u (hb b n) q⟩, fun b u q n _ => by rw [upd_ne (hx b n)]; exact n, fun b u q _ => ?_,
    fun b xs q => by rw [upd_ne (hm b _ q fun z => z)]; exact q, fun b u xs q => by rw [upd_ne (hm b _ q fun z => z)]; exact q, fun b ps q => ⟨#[], by rw [upd_ne (hm b _ q fun z => z), q]; simp⟩⟩
  by_cases hbe : b = e
  · subst hbe; exact heo
  · exact ⟨u, k b u hbe q⟩
theorem Un.mono (u : Un fs ex H H1 h h1) (hs : ∀ b ∈ fs, b ∈ fs') (hx : ∀ b ∈ ex, b ∈ ex') : Un fs' ex' H H1 h h1 :=
  ⟨fun b ob q n hb he => u.keep b ob q n (fun z => hb (hs b z)) fun z => he (hx b z), fun _ _ q n _ he => u.any q n fun z => he (hx _ z), fun b ob q n he => u.free b ob q n fun z => he (hx b z), fun b ob q he => u.there b ob q fun z => he (hx b z), u.tups, u.frzs, u.tbls⟩
end

/-! ### the heap without what is tracked -/
def trk (h : Heap) (H : Hp) : List Addr := (List.range h.objs.size).filter fun a => (H a).isSome
def hidT (h : Heap) (H : Hp) : Heap := PySem.W.hideAll h (trk h H)
theorem hidT_size (h : Heap) (H : Hp) : (hidT h H).objs.size = h.objs.size := PySem.W.hideAll_size _ _
theorem hidT_get {h : Heap} {H : Hp} {b : Addr} {o : Obj} (e : h.get? b = some o) (n : H b = none) : (hidT h H).get? b = some o :=
  PySem.W.hideAll_get _ e fun hm => by
    have q : (H b).isSome = true := (List.mem_filter.mp hm).2
    rw [n] at q; simp at q
theorem of_hidT {h : Heap} {H : Hp} {b : Addr} {o : Obj} (e : (hidT h H).get? b = some o) : h.get? b = some o ∧ H b = none := by
  have e' : h.get? b = some o := PySem.W.of_hideAll (trk h H) e
  refine ⟨e', ?_⟩
  cases q : H b with
  | none => rfl
  | some x =>
    have hm : b ∈ trk h H := List.mem_filter.mpr ⟨List.mem_range.mpr (Heap.lt_size e'), by simp [q]⟩
    have z : (hidT h H).get? b = none := PySem.W.hideAll_none (trk h H) hm
    rw [z] at e; cases e

/-! ### OpenK's ledger, filled with every new object but one -/
def allNews (g h : Heap) (L : Addr) : List (Addr × Obj) := (List.range h.objs.size).filterMap fun a => if a = L ∨ (g.get? a).isSome = true then none else (h.get? a).map fun o => (a, o)
def rest (g h : Heap) (L d : Addr) : List (Addr × Obj) := (allNews g h L).filter fun p => decide (p.1 ≠ d)
end L2

namespace L2
open PySem PySem.Spec PyProof.Rows

/-- the module's facts, over the base: the heap at the law's entry without what is tracked there -/
structure Mod (K : PySem.W.Frag) (mg : Str → Option Value) (base : Heap) : Prop where
  kin : K.In base
  glob : base.Ns mainGlobals mg
  blt : ∃ mb, base.Ns builtinsNs mb ∧ ∀ x : Str, x ≠ "__name__" → mb x = bootBuiltins x
  nolimit : base.NoLimit

/-- the context: a def's body (or a comprehension's block) running. base: fixed through the whole law; s₀, H₀: the entry; outer: the frames whose slots others may change (a def's callers); stack: all frames that run;
   ex: iterators that were made ahead of the entry and are walked here (a comprehension's); fn: the names whose cells were made at the entry (a def: all; a comprehension's block: its own); calm: not within an except suite; pn: pins that every state bears; xe: what is wanted of an exception that leaves the code -/
structure Cx where
  prog : Program
  w : World
  K : PySem.W.Frag
  mg : Str → Option Value
  base : Heap
  A : Around
  N : List Str
  s₀ : Shared
  H₀ : Hp
  env : Env
  outer : List Env
  stack : List Env
  ex : List Addr
  fn : Str → Bool
  calm : Bool
  pn : List (Addr × Obj)
  xe : Value → Shared → Prop
/-- the callers' frames -/
def frs (l : List Env) : List Addr := l.filterMap (·.frame)
abbrev Cx.fs (X : Cx) : List Addr := frs X.outer

def Vis (sc : Scope) (x : Str) : Prop := sc.names.lookup x = some .local ∨ sc.names.lookup x = some .cell ∨ sc.names.lookup x = some .free
def Loc (sc : Scope) (x : Str) : Prop := sc.names.lookup x = some .local ∨ sc.names.lookup x = some .cell
def Look (env : Env) (h : Heap) (m : Str → Option Value) (x : Str) (u : Value) : Prop :=
  (env.kindOf x = some .local ∧ m x = some u) ∨ ((env.kindOf x = some .cell ∨ env.kindOf x = some .free) ∧ ∃ c, env.cells.lookup x = some c ∧ h.IsCell c (some u))

structure Cx.Ok (X : Cx) : Prop where
  mod : Mod X.K X.mg X.base
  kind : X.env.scope.kind = .function
  glob : X.env.globals = mainGlobals
  blt : X.env.builtins = builtinsNs
  above : X.s₀.heap.objs.size ≤ X.env.locals
  inj : ∀ x y c, X.env.cells.lookup x = some c → X.env.cells.lookup y = some c → x = y
  has : ∀ x, (X.env.kindOf x = some .cell ∨ X.env.kindOf x = some .free) → ∃ c, X.env.cells.lookup x = some c
  cab : ∀ x c, X.fn x = true → X.env.cells.lookup x = some c → X.s₀.heap.objs.size ≤ c
  hd : X.calm = true → X.A.handled = none
  frames : X.A.frames = some X.stack
  stk : X.stack = X.outer ∨ (X.stack = X.env :: X.outer ∧ X.env.frame = some X.env.locals)
  exf : ∀ b ∈ X.ex, b ≠ X.env.locals ∧ ∀ x c, X.env.cells.lookup x = some c → c ≠ b
  bs : ∀ b o, X.base.get? b = some o → X.s₀.heap.get? b = some o ∧ X.H₀ b = none
  bsz : X.base.objs.size ≤ X.s₀.heap.objs.size
  noex : ∀ b o, X.base.get? b = some o → b ∉ X.ex
  exfs : ∀ b ∈ X.ex, b ∉ X.fs
  funs : X.s₀.heap.FunFrames X.base X.outer
  frf : ∀ b ∈ X.fs, X.H₀ b = none

structure Inv (X : Cx) (pins : List (Addr × Obj)) (σ : List (Option V)) (H : Hp) (s : Shared) : Prop where
  ok : X.Ok
  os : s.os = X.s₀.os
  bare : AllBare s.gens
  base : Un X.fs X.ex X.H₀ H X.s₀.heap s.heap
  loc : ∃ m, s.heap.Ns X.env.locals m ∧ ∀ (i : Nat) (x : Str) (v : V), X.N[i]? = some x → σ[i]? = some (some v) → Vis X.env.scope x → ∃ u, RelV v u ∧ Look X.env s.heap m x u
  cell : ∀ x c, X.env.cells.lookup x = some c → ∃ v, s.heap.IsCell c v
  free : H X.env.locals = none
  freeC : ∀ x c, X.env.cells.lookup x = some c → H c = none
  pin : ∀ p ∈ X.pn ++ pins, s.heap.get? p.1 = some p.2 ∧ H p.1 = none ∧ p.1 ≠ X.env.locals ∧ p.1 ∉ X.fs ∧ ∀ v, p.2.data ≠ .cell v
  hok : HOk X.prog X.w H s.heap
  len : σ.length = X.N.length

section
variable {X : Cx} {pins : List (Addr × Obj)} {σ : List (Option V)} {H H' : Hp} {s : Shared} {h' : Heap}

theorem Cx.Ok.nofr (ok : X.Ok) {b : Addr} {o : Obj} (e : X.base.get? b = some o) : b ∉ X.fs := fun hb => by
  have := (ok.funs.mem hb).1
  rw [e] at this; cases this
theorem Inv.bs (I : Inv X pins σ H s) : ∀ b o, X.base.get? b = some o → s.heap.get? b = some o ∧ H b = none := fun b o e =>
  ⟨I.base.keep b o (I.ok.bs b o e).1 (I.ok.bs b o e).2 (I.ok.nofr e) (I.ok.noex b o e), I.base.free b o (I.ok.bs b o e).1 (I.ok.bs b o e).2 (I.ok.noex b o e)⟩
theorem Inv.bk (I : Inv X pins σ H s) : ∀ b o, X.base.get? b = some o → s.heap.get? b = some o := fun b o e => (I.bs b o e).1
theorem Inv.mod (I : Inv X pins σ H s) : Mod X.K X.mg X.base := I.ok.mod
theorem Inv.kIn (I : Inv X pins σ H s) : X.K.In s.heap := I.ok.mod.kin.keeps I.bk
theorem Inv.nolimit (I : Inv X pins σ H s) : s.heap.NoLimit := I.ok.mod.nolimit.keeps I.bk
/-- the frame over the base: for OpenK's rules (K.In X.base is I.mod.kin) -/
theorem Inv.fr (I : Inv X pins σ H s) : ∃ m, Fr X.base X.env.locals s.heap m :=
  let ⟨m, hn, _⟩ := I.loc
  ⟨m, hn, I.bk, Nat.le_trans I.ok.bsz I.ok.above⟩
theorem Inv.lt (I : Inv X pins σ H s) : X.env.locals < s.heap.objs.size := let ⟨_, hn, _⟩ := I.loc; hn.lt
theorem Inv.sz (I : Inv X pins σ H s) : X.s₀.heap.objs.size ≤ s.heap.objs.size := Nat.le_trans I.ok.above (Nat.le_of_lt I.lt)
theorem Inv.nofs (I : Inv X pins σ H s) {a : Addr} (h : s.heap.objs.size ≤ a) : a ∉ X.fs := fun hb => by
  obtain ⟨_, o, ho, _⟩ := I.ok.funs.mem hb
  exact absurd (Nat.lt_of_lt_of_le (Heap.lt_size ho) (Nat.le_trans I.sz h)) (Nat.lt_irrefl _)
theorem Inv.cne (I : Inv X pins σ H s) : ∀ x c, X.env.cells.lookup x = some c → c ≠ X.env.locals := fun x c e z => by
  obtain ⟨v, o, ho, hd⟩ := I.cell x c e
  obtain ⟨m, ⟨o', es, ep, ho', hd', _⟩, _⟩ := I.loc
  rw [z, ho'] at ho; cases ho; rw [hd'] at hd; cases hd
theorem Inv.funs (I : Inv X pins σ H s) : s.heap.FunFrames X.base X.outer := by
  have all : ∀ (l : List Env), (∀ b ∈ frs l, b ∈ X.fs) → X.s₀.heap.FunFrames X.base l → s.heap.FunFrames X.base l := by
    intro l
    induction l with
    | nil => intro _ _; trivial
    | cons env r ih =>
      intro hs hl
      obtain ⟨hk, ⟨L, o, hf, hn, ho, hd⟩, hr⟩ := hl
      have hL : L ∈ X.fs := hs L (by unfold frs; rw [List.filterMap_cons, hf]; exact List.mem_cons_self)
      obtain ⟨sl, e⟩ := I.base.slot L o ho (I.ok.frf L hL) hL fun z => I.ok.exfs L z hL
      exact ⟨hk, ⟨L, _, hf, hn, e, hd⟩, ih (fun b hb => hs b (by unfold frs; rw [List.filterMap_cons, hf]; exact List.mem_cons_of_mem _ hb)) hr⟩
  exact all X.outer (fun _ hb => hb) I.ok.funs

/-- the frames that run, for a call -/
theorem Inv.stack (I : Inv X pins σ H s) : s.heap.FunFrames X.base X.stack := by
  rcases I.ok.stk with e | ⟨e, hf⟩
  · rw [e]; exact I.funs
  · rw [e]
    obtain ⟨m, hn, _⟩ := I.loc
    refine .cons (by rw [I.ok.kind]; decide) hf hn ?_ I.funs
    exact Heap.get?_none_of_le (Nat.le_trans I.ok.bsz I.ok.above)
theorem Inv.stkSub (I : Inv X pins σ H s) : ∀ b ∈ frs X.stack, b ∈ X.env.locals :: X.fs := fun b hb => by
  rcases I.ok.stk with e | ⟨e, hf⟩
  · rw [e] at hb; exact List.mem_cons_of_mem _ hb
  · rw [e] at hb
    unfold frs at hb
    rw [List.filterMap_cons, hf] at hb
    exact hb
theorem Inv.stkFree (I : Inv X pins σ H s) : ∀ b ∈ frs X.stack, H b = none := fun b hb => by
  rcases List.mem_cons.mp (I.stkSub b hb) with e | hb
  · rw [e]; exact I.free
  · obtain ⟨_, o, ho, _⟩ := I.ok.funs.mem hb
    exact I.base.free b o ho (I.ok.frf b hb) fun z => I.ok.exfs b z hb

/-- THE STEP: the untracked objects but the frame and the records at ch are kept (the callers' frames up to slots), the frame's map is kept, the new abstract heap is held -/
theorem Inv.step {g' : Array GenState} {t' : Nat} {d' : Drawn} {ch : List Addr} (I : Inv X pins σ H s)
    (hch : ∀ b ∈ ch, (b ∈ X.ex ∨ X.s₀.heap.objs.size ≤ b) ∧ b ≠ X.env.locals ∧ (∀ x c, X.env.cells.lookup x = some c → c ≠ b) ∧ ∀ p ∈ X.pn ++ pins, p.1 ≠ b)
    (keep : ∀ b o, b ≠ X.env.locals → b ∉ X.fs → b ∉ ch → s.heap.get? b = some o → H b = none → h'.get? b = some o)
    (slot : ∀ b o, b ≠ X.env.locals → b ∈ X.fs → b ∉ ch → s.heap.get? b = some o → H b = none → ∃ sl, h'.get? b = some { o with slots := sl }) (free : ∀ b o, b ∉ ch → s.heap.get? b = some o → H b = none → H' b = none)
    (there : ∀ b o, b ∉ ch → s.heap.get? b = some o → ∃ o', h'.get? b = some o')
    (tups : ∀ b xs, H b = some (.tup xs) → H' b = some (.tup xs)) (frzs : ∀ b o u, H b = some (.frz o u) → H' b = some (.frz o u)) (tbls : ∀ b ps, H b = some (.tbl ps) → ∃ more, H' b = some (.tbl (ps ++ more)))
    (ns : ∀ m, s.heap.Ns X.env.locals m → h'.Ns X.env.locals m) (hok : HOk X.prog X.w H' h') (hg : AllBare g') :
    Inv X pins σ H' { s with heap := h', gens := g', drawn := d', toks := t' } := by
  have neL : ∀ b o, X.s₀.heap.get? b = some o → b ≠ X.env.locals := fun b o e => Nat.ne_of_lt (Nat.lt_of_lt_of_le (Heap.lt_size e) I.ok.above)
  have neC : ∀ b o, X.s₀.heap.get? b = some o → b ∉ X.ex → b ∉ ch := fun b o e hx hb => by
    rcases (hch b hb).1 with z | z
    · exact hx z
    · exact absurd (Nat.lt_of_lt_of_le (Heap.lt_size e) z) (Nat.lt_irrefl _)
  have cellK : ∀ x c, X.env.cells.lookup x = some c → ∀ v, s.heap.IsCell c v → h'.IsCell c v := fun x c e v ⟨o, ho, hd⟩ => by
    have nch : c ∉ ch := fun z => (hch c z).2.2.1 x c e rfl
    by_cases hc : c ∈ X.fs
    · obtain ⟨sl, q⟩ := slot c o (I.cne x c e) hc nch ho (I.freeC x c e)
      exact ⟨_, q, hd⟩
    · exact ⟨o, keep c o (I.cne x c e) hc nch ho (I.freeC x c e), hd⟩
  refine ⟨I.ok, I.os, hg, ⟨fun b o e n hb hx => ?_, fun b o e n hb hx => ?_, fun b o e n hx => ?_, fun b o e hx => ?_, fun b xs e => tups b xs (I.base.tups b xs e), fun b o xs e => frzs b o xs (I.base.frzs b o xs e), fun b ps e => ?_⟩, ?_, fun x c e => ?_, ?_, fun x c e => ?_, fun p hp => ?_, hok, I.len⟩
  · exact keep b o (neL b o e) hb (neC b o e hx) (I.base.keep b o e n hb hx) (I.base.free b o e n hx)
  · obtain ⟨sl, e1⟩ := I.base.slot b o e n hb hx
    obtain ⟨sl', e2⟩ := slot b _ (neL b o e) hb (neC b o e hx) e1 (I.base.free b o e n hx)
    exact ⟨sl', e2⟩
  · obtain ⟨o', e1⟩ := I.base.there b o e hx
    exact free b o' (neC b o e hx) e1 (I.base.free b o e n hx)
  · obtain ⟨o', e1⟩ := I.base.there b o e hx
    exact there b o' (neC b o e hx) e1
  · obtain ⟨m1, e1⟩ := I.base.tbls b ps e
    obtain ⟨m2, e2⟩ := tbls b _ e1
    exact ⟨m1 ++ m2, by rw [e2, Array.append_assoc]⟩
  · obtain ⟨m, hn, hl⟩ := I.loc
    refine ⟨m, ns m hn, fun i x v e1 e2 e3 => ?_⟩
    obtain ⟨u, r, l⟩ := hl i x v e1 e2 e3
    refine ⟨u, r, ?_⟩
    rcases l with l | ⟨k, c, e, z⟩
    · exact .inl l
    · exact .inr ⟨k, c, e, cellK x c e _ z⟩
  · obtain ⟨v, z⟩ := I.cell x c e
    exact ⟨v, cellK x c e v z⟩
  · obtain ⟨m, ⟨o, _, _, ho, _⟩, _⟩ := I.loc
    exact free _ o (fun z => (hch _ z).2.1 rfl) ho I.free
  · obtain ⟨v, o, ho, hd⟩ := I.cell x c e
    exact free c o (fun z => (hch c z).2.2.1 x c e rfl) ho (I.freeC x c e)
  · obtain ⟨e, n, ne, nf, d⟩ := I.pin p hp
    have nch : p.1 ∉ ch := fun z => (hch p.1 z).2.2.2 p hp rfl
    exact ⟨keep p.1 p.2 ne nf nch e n, free p.1 p.2 nch e n, ne, nf, d⟩
/-- .. where the frame's own object is kept too -/
theorem Inv.un {t' : Nat} (I : Inv X pins σ H s) (u : Un X.fs [] H H' s.heap h') (hok : HOk X.prog X.w H' h') : Inv X pins σ H' { s with heap := h', toks := t' } := by
  obtain ⟨m, ⟨o, es, ep, ho, r⟩, _⟩ := id I.loc
  obtain ⟨sl, hL⟩ := u.any ho I.free (by simp)
  exact I.step (g' := s.gens) (d' := s.drawn) (ch := []) (fun _ z => nomatch z) (fun b o _ hb _ e n => u.keep b o e n hb (by simp)) (fun b o _ hb _ e n => u.slot b o e n hb (by simp)) (fun b o _ e n => u.free b o e n (by simp)) (fun b o _ e => u.there b o e (by simp)) u.tups u.frzs u.tbls (fun m' hm => by
    obtain ⟨o', es', ep', ho', r'⟩ := hm
    rw [ho] at ho'; cases ho'
    exact ⟨_, es', ep', hL, r'⟩) hok I.bare
/-- behind a call (or a comprehension's block): the slots of this frame may have changed too, the records at ch may have turned -/
theorem Inv.call {g' : Array GenState} {t' : Nat} {d' : Drawn} {ch : List Addr} (I : Inv X pins σ H s) (u : Un (frs X.stack) ch H H' s.heap h') (hok : HOk X.prog X.w H' h') (hg : AllBare g')
    (hch : ∀ b ∈ ch, (b ∈ X.ex ∨ X.s₀.heap.objs.size ≤ b) ∧ b ≠ X.env.locals ∧ (∀ x c, X.env.cells.lookup x = some c → c ≠ b) ∧ ∀ p ∈ X.pn ++ pins, p.1 ≠ b) :
    Inv X pins σ H' { s with heap := h', gens := g', drawn := d', toks := t' } := by
  obtain ⟨m, ⟨o, es, ep, ho, r⟩, _⟩ := id I.loc
  obtain ⟨sl, hL⟩ := u.any ho I.free fun z => (hch _ z).2.1 rfl
  exact I.step (ch := ch) hch (fun b o hL hb hc e n => u.keep b o e n (fun z => (List.mem_cons.mp (I.stkSub b z)).elim hL hb) hc) (fun b o _ _ hc e n => u.any e n hc) (fun b o hc e n => u.free b o e n hc) (fun b o hc e => u.there b o e hc) u.tups u.frzs u.tbls (fun m' hm => by
    obtain ⟨o', es', ep', ho', r'⟩ := hm
    rw [ho] at ho'; cases ho'
    exact ⟨_, es', ep', hL, r'⟩) hok hg
/-- an untracked record of ours (an iterator) has turned -/
theorem Inv.turned {t' : Nat} {it : Addr} (I : Inv X pins σ H s) (k : ∀ b o, b ≠ it → s.heap.get? b = some o → h'.get? b = some o) (hn : H it = none) (hL : it ≠ X.env.locals)
    (h1 : it ∈ X.ex ∨ X.s₀.heap.objs.size ≤ it) (h2 : ∀ x c, X.env.cells.lookup x = some c → c ≠ it) (h3 : ∀ p ∈ X.pn ++ pins, p.1 ≠ it) : Inv X pins σ H { s with heap := h', toks := t' } := by
  have nit : ∀ b u, H b = some u → b ≠ it := fun b u e z => by rw [z, hn] at e; cases e
  refine I.step (g' := s.gens) (d' := s.drawn) (ch := [it]) (fun b hb => ?_) (fun b o _ _ hc e _ => k b o (fun z => hc (by simp [z])) e) (fun b o _ _ hc e _ => ⟨o.slots, k b o (fun z => hc (by simp [z])) e⟩) (fun _ _ _ _ n => n)
    (fun b o hc e => ⟨o, k b o (fun z => hc (by simp [z])) e⟩) (fun _ _ e => e) (fun _ _ _ e => e) (fun b ps e => ⟨#[], by rw [e]; simp⟩) (fun m hm => ?_) (fun b u e => ?_) I.bare
  · have e : b = it := by simpa using hb
    subst e
    exact ⟨h1, hL, h2, h3⟩
  · obtain ⟨o, es, ep, ho, r⟩ := hm
    exact ⟨o, es, ep, k _ o (Ne.symm hL) ho, r⟩
  · refine (I.hok b u e).stay (fun c v hc q => k c v ?_ q) (fun _ q => q) fun _ _ q => q
    rcases hc with z | z
    · rw [z]; exact nit b u e
    · exact nit c _ z
theorem Inv.tok (I : Inv X pins σ H s) (t : Nat) : Inv X pins σ H { s with toks := t } := I.un (h' := s.heap) (t' := t) Un.refl I.hok
/-- all objects kept -/
theorem Inv.kept {t' : Nat} (I : Inv X pins σ H s) (k : ∀ b u, s.heap.get? b = some u → h'.get? b = some u) : Inv X pins σ H { s with heap := h', toks := t' } := I.un (Un.kept k) (I.hok.kept k)
/-- a new object laid and tracked -/
theorem Inv.laid {a : Addr} {o : HO} {t' : Nat} (I : Inv X pins σ H s) (k : ∀ b u, s.heap.get? b = some u → h'.get? b = some u) (hp : s.heap.objs.size ≤ a) (new : ObjOk X.prog X.w (upd H a o) h' a o) :
    Inv X pins σ (upd H a o) { s with heap := h', toks := t' } := I.un (Un.laid k hp (I.hok.fresh hp)) (I.hok.laid k hp new)
/-- an object written -/
theorem Inv.write {x e : Addr} {o : HO} {t' : Nat} (I : Inv X pins σ H s) (mu : Mut (H x)) (he : e = x ∨ H e = some (.own x)) (k : ∀ b u, b ≠ e → s.heap.get? b = some u → h'.get? b = some u) (heo : ∃ u, h'.get? e = some u)
    (new : ObjOk X.prog X.w (upd H x o) h' x o) : Inv X pins σ (upd H x o) { s with heap := h', toks := t' } := I.un (Un.write mu he k heo) (I.hok.write mu he k heo new)
/-- forgetting slots, pins -/
theorem Inv.weak {σ' : List (Option V)} (I : Inv X pins σ H s) (hl : σ'.length = σ.length) (w : ∀ (i : Nat) v, σ'[i]? = some (some v) → σ[i]? = some (some v)) : Inv X pins σ' H s :=
  ⟨I.ok, I.os, I.bare, I.base, let ⟨m, hn, hl'⟩ := I.loc; ⟨m, hn, fun i x v e1 e2 e3 => hl' i x v e1 (w i v e2) e3⟩, I.cell, I.free, I.freeC, I.pin, I.hok, hl.trans I.len⟩
theorem Inv.pins_of {pins' : List (Addr × Obj)} (I : Inv X pins σ H s) (h : ∀ p ∈ pins', s.heap.get? p.1 = some p.2 ∧ H p.1 = none ∧ p.1 ≠ X.env.locals ∧ p.1 ∉ X.fs ∧ ∀ v, p.2.data ≠ .cell v) : Inv X pins' σ H s :=
  ⟨I.ok, I.os, I.bare, I.base, I.loc, I.cell, I.free, I.freeC, fun p hp => (List.mem_append.mp hp).elim (fun z => I.pin p (List.mem_append_left _ z)) (h p), I.hok, I.len⟩

theorem nodup_ix {N : List Str} (hN : N.Nodup) {i j : Nat} {x : Str} (a : N[i]? = some x) (b : N[j]? = some x) : i = j := by
  obtain ⟨h1, e1⟩ := List.getElem?_eq_some_iff.mp a
  obtain ⟨h2, e2⟩ := List.getElem?_eq_some_iff.mp b
  exact (List.getElem_inj hN).mp (e1.trans e2.symm)

/-- a name is stored; what changed -/
theorem store_ok2 {M : Model} {A : Around} {E : Value → Shared → Prop} {i : Nat} {x : Str} {v : V} {u : Value} {Q : Unit → Shared → Prop} (I : Inv X pins σ H s) (hN : X.N.Nodup) (hi : X.N[i]? = some x) (hx : Loc X.env.scope x) (r : RelV v u)
    (h : ∀ s', Inv X pins (σ.set i (some v)) H s' → (∃ a, Heap.SameBut a s.heap s'.heap ∧ (a = X.env.locals ∨ X.env.cells.lookup x = some a)) → Q () s') (hf : X.fn x = true ∨ X.env.scope.names.lookup x = some .local := by first | exact .inl rfl | exact .inr rfl | assumption) : wpAny M A (storeName X.env x u) Q E s := by
  obtain ⟨m, hn, hl⟩ := id I.loc
  have hcls : (X.env.scope.kind == .class || (X.env.scope.kind == .module && X.env.locals != X.env.globals)) = false := by rw [I.ok.kind]; rfl
  have hiσ : i < σ.length := by rw [I.len]; exact (List.getElem?_eq_some_iff.mp hi).1
  have cne := I.cne
  have tracked : ∀ {a : Addr} {h' : Heap}, (∃ o, s.heap.get? a = some o ∧ H a = none) → Heap.SameBut a s.heap h' → HOk X.prog X.w H h' := fun {a h'} ha hs b ob e => by
    obtain ⟨_, _, hfree⟩ := ha
    refine (I.hok b ob e).stay (fun c w' hc q => (hs.2 c ?_).trans q) (fun _ q => q) fun _ _ q => q
    rintro rfl
    rcases hc with rfl | hc
    · rw [hfree] at e; cases e
    · rw [hfree] at hc; cases hc
  rcases hx with hk | hk
  · refine wpAny_storeName_local hk hn (fun h' hn' hs => ?_) hcls
    obtain ⟨oL, _, _, hoL, _⟩ := id hn
    refine h _ ⟨I.ok, I.os, I.bare, ⟨fun b o e n hb hx => ?_, fun b o e n hb hx => ?_, I.base.free, fun b o e hx => ?_, I.base.tups, I.base.frzs, I.base.tbls⟩, ⟨_, hn', fun j y v' e1 e2 e3 => ?_⟩, fun y c e => ?_, I.free, I.freeC, fun p hp => ?_, tracked ⟨oL, hoL, I.free⟩ hs, by simpa using I.len⟩ ⟨_, hs, .inl rfl⟩
    · exact (hs.2 b (Nat.ne_of_lt (Nat.lt_of_lt_of_le (Heap.lt_size e) I.ok.above))).trans (I.base.keep b o e n hb hx)
    · obtain ⟨sl, e1⟩ := I.base.slot b o e n hb hx
      exact ⟨sl, (hs.2 b (Nat.ne_of_lt (Nat.lt_of_lt_of_le (Heap.lt_size e) I.ok.above))).trans e1⟩
    · obtain ⟨o', e1⟩ := I.base.there b o e hx
      exact ⟨o', (hs.2 b (Nat.ne_of_lt (Nat.lt_of_lt_of_le (Heap.lt_size e) I.ok.above))).trans e1⟩
    · by_cases hj : j = i
      · subst hj
        rw [hi] at e1; cases e1
        rw [List.getElem?_set_self hiσ] at e2
        cases e2
        exact ⟨u, r, .inl ⟨hk, by simp⟩⟩
      · rw [List.getElem?_set_ne (Ne.symm hj)] at e2
        obtain ⟨u', r', q⟩ := hl j y v' e1 e2 e3
        refine ⟨u', r', ?_⟩
        rcases q with ⟨k, e⟩ | ⟨k, c, e, z⟩
        · refine .inl ⟨k, ?_⟩
          have : y ≠ x := fun e => hj (nodup_ix hN e1 (e ▸ hi))
          simp [this, e]
        · exact .inr ⟨k, c, e, z.sameBut hs (cne y c e)⟩
    · obtain ⟨w', z⟩ := I.cell y c e
      exact ⟨w', z.sameBut hs (cne y c e)⟩
    · obtain ⟨e, n, ne, nf, d⟩ := I.pin p hp
      exact ⟨(hs.2 p.1 ne).trans e, n, ne, nf, d⟩
  · have hfn : X.fn x = true := by
      rcases hf with z | z
      · exact z
      · rw [z] at hk; cases hk
    obtain ⟨c, hc⟩ := I.ok.has x (.inl hk)
    obtain ⟨w', z⟩ := I.cell x c hc
    refine wpAny_storeName_cell I.ok.kind hk hc z (fun h' hc' hs => ?_)
    obtain ⟨oc, hoc, hocd⟩ := id z
    refine h { s with heap := h' } ⟨I.ok, I.os, I.bare, ⟨fun b o e n hb hx => ?_, fun b o e n hb hx => ?_, I.base.free, fun b o e hx => ?_, I.base.tups, I.base.frzs, I.base.tbls⟩, ⟨m, hn.sameBut hs (Ne.symm (cne x c hc)), fun j y v' e1 e2 e3 => ?_⟩, fun y c' e => ?_, I.free, I.freeC, fun p hp => ?_, tracked ⟨oc, hoc, I.freeC x c hc⟩ hs, by simpa using I.len⟩ ⟨c, hs, .inr hc⟩
    · exact (hs.2 b (Nat.ne_of_lt (Nat.lt_of_lt_of_le (Heap.lt_size e) (I.ok.cab x c hfn hc)))).trans (I.base.keep b o e n hb hx)
    · obtain ⟨sl, e1⟩ := I.base.slot b o e n hb hx
      exact ⟨sl, (hs.2 b (Nat.ne_of_lt (Nat.lt_of_lt_of_le (Heap.lt_size e) (I.ok.cab x c hfn hc)))).trans e1⟩
    · obtain ⟨o', e1⟩ := I.base.there b o e hx
      exact ⟨o', (hs.2 b (Nat.ne_of_lt (Nat.lt_of_lt_of_le (Heap.lt_size e) (I.ok.cab x c hfn hc)))).trans e1⟩
    · by_cases hj : j = i
      · subst hj
        rw [hi] at e1; cases e1
        rw [List.getElem?_set_self hiσ] at e2
        cases e2
        exact ⟨u, r, .inr ⟨.inl hk, c, hc, hc'⟩⟩
      · rw [List.getElem?_set_ne (Ne.symm hj)] at e2
        obtain ⟨u', r', q⟩ := hl j y v' e1 e2 e3
        refine ⟨u', r', ?_⟩
        rcases q with q | ⟨k, c', e, z'⟩
        · exact .inl q
        · refine .inr ⟨k, c', e, z'.sameBut hs ?_⟩
          rintro rfl
          exact hj (nodup_ix hN e1 (I.ok.inj _ _ _ e hc ▸ hi))
    · by_cases hcc : c' = c
      · subst hcc; exact ⟨_, hc'⟩
      · obtain ⟨w2, z2⟩ := I.cell y c' e
        exact ⟨w2, z2.sameBut hs hcc⟩
    · obtain ⟨e, n, ne, nf, d⟩ := I.pin p hp
      refine ⟨(hs.2 p.1 ?_).trans e, n, ne, nf, d⟩
      intro q
      rw [q, hoc] at e
      have q' : oc = p.2 := Option.some.inj e
      exact d w' (by rw [← q']; exact hocd)
theorem store_ok {M : Model} {A : Around} {E : Value → Shared → Prop} {i : Nat} {x : Str} {v : V} {u : Value} {Q : Unit → Shared → Prop} (I : Inv X pins σ H s) (hN : X.N.Nodup) (hi : X.N[i]? = some x) (hx : Loc X.env.scope x) (r : RelV v u)
    (h : ∀ s', Inv X pins (σ.set i (some v)) H s' → Q () s') (hf : X.fn x = true ∨ X.env.scope.names.lookup x = some .local := by first | exact .inl rfl | exact .inr rfl | assumption) : wpAny M A (storeName X.env x u) Q E s :=
  store_ok2 I hN hi hx r (fun s' I' _ => h s' I') hf
/-- behind a call or a block, the state as it is -/
theorem Inv.call' {s' : Shared} {ch : List Addr} (I : Inv X pins σ H s) (ho : s'.os = s.os) (u : Un (frs X.stack) ch H H' s.heap s'.heap) (hok : HOk X.prog X.w H' s'.heap) (hg : AllBare s'.gens)
    (hch : ∀ b ∈ ch, (b ∈ X.ex ∨ X.s₀.heap.objs.size ≤ b) ∧ b ≠ X.env.locals ∧ (∀ x c, X.env.cells.lookup x = some c → c ≠ b) ∧ ∀ p ∈ X.pn ++ pins, p.1 ≠ b) : Inv X pins σ H' s' := by
  obtain ⟨h', g', d', t', o'⟩ := s'
  have e : o' = s.os := ho
  subst e
  exact I.call (g' := g') (t' := t') (d' := d') u hok hg hch
end

/-! ### the judgements -/
/-- an exception: its class, its own dict's address (where it has one), the abstract heap behind it -/
abbrev XK := Value → Option Addr → Hp → Prop
abbrev St := List (Option V)
abbrev VK := V → Hp → Prop
/-- an expression's reading; a test's; an argument list's -/
abbrev TE := St → Hp → VK → Prop
abbrev TT := St → Hp → (Bool → Hp → Prop) → Prop
abbrev TA := St → Hp → (List V → Hp → Prop) → Prop
/-- what is wanted behind a statement -/
structure Ends where
  nx : St → Hp → Prop
  rt : VK
  bk : St → Hp → Prop := fun _ _ => False
  ct : St → Hp → Prop := fun _ _ => False
abbrev TS := Ends → St → Hp → Prop

def EP (X : Cx) (pins : List (Addr × Obj)) (σ : St) (Q : VK) (u : Value) (s' : Shared) : Prop := ∃ v H', Inv X pins σ H' s' ∧ RelV v u ∧ Q v H'
def TP (X : Cx) (pins : List (Addr × Obj)) (σ : St) (Q : Bool → Hp → Prop) (b : Bool) (s' : Shared) : Prop := ∃ H', Inv X pins σ H' s' ∧ Q b H'
def AP (X : Cx) (pins : List (Addr × Obj)) (σ : St) (Q : List V → Hp → Prop) (us : List Value) (s' : Shared) : Prop := ∃ vs H', Inv X pins σ H' s' ∧ Vals vs us ∧ Q vs H'
def SP (X : Cx) (pins : List (Addr × Obj)) (D : Ends) (f : Flow) (s' : Shared) : Prop :=
  match f with
  | .next => ∃ σ' H', Inv X pins σ' H' s' ∧ D.nx σ' H'
  | .brk => ∃ σ' H', Inv X pins σ' H' s' ∧ D.bk σ' H'
  | .cont => ∃ σ' H', Inv X pins σ' H' s' ∧ D.ct σ' H'
  | .ret u => ∃ v σ' H', Inv X pins σ' H' s' ∧ RelV v u ∧ D.rt v H'

def PE (X : Cx) (e : Expr) (t : TE) : Prop :=
  ∀ (pins : List (Addr × Obj)) (s : Shared) (σ : St) (H : Hp) (Q : VK), Inv X pins σ H s → t σ H Q → wpAny (model X.prog X.w) X.A (eval e X.env) (EP X pins σ Q) X.xe s
def PT (X : Cx) (e : Expr) (t : TT) : Prop :=
  ∀ (pins : List (Addr × Obj)) (s : Shared) (σ : St) (H : Hp) (Q : Bool → Hp → Prop), Inv X pins σ H s → t σ H Q → wpAny (model X.prog X.w) X.A (isTrue e X.env (eval e X.env)) (TP X pins σ Q) X.xe s
/-- a test whatever its 'whole' is (and, or) -/
def PW (X : Cx) (e : Expr) (t : TT) : Prop :=
  ∀ (whole : Sem Value) (pins : List (Addr × Obj)) (s : Shared) (σ : St) (H : Hp) (Q : Bool → Hp → Prop), Inv X pins σ H s → t σ H Q → wpAny (model X.prog X.w) X.A (isTrue e X.env whole) (TP X pins σ Q) X.xe s
theorem PW.pt {X : Cx} {e : Expr} {t : TT} (h : PW X e t) : PT X e t := h _
/-- an argument list (no star), from the left -/
def PA (X : Cx) (es : List Expr) (t : TA) : Prop :=
  ∀ (pos : Pos) (pins : List (Addr × Obj)) (s : Shared) (σ : St) (H : Hp) (Q : List V → Hp → Prop), Inv X pins σ H s → t σ H Q → wpAny (model X.prog X.w) X.A (spliced (backTo pos (starEach es X.env))) (AP X pins σ Q) X.xe s
def PS (X : Cx) (st : Stmt) (t : TS) : Prop :=
  ∀ (pins : List (Addr × Obj)) (s : Shared) (σ : St) (H : Hp) (D : Ends), Inv X pins σ H s → t D σ H → wpAny (model X.prog X.w) X.A (exec st X.env) (SP X pins D) X.xe s
def PSs (X : Cx) (st : List Stmt) (t : TS) : Prop :=
  ∀ (pins : List (Addr × Obj)) (s : Shared) (σ : St) (H : Hp) (D : Ends), Inv X pins σ H s → t D σ H → wpAny (model X.prog X.w) X.A (execs st X.env) (SP X pins D) X.xe s
/-- weaken the end -/
theorem thn {α : Type} {t : Sem α} {Q Q' : α → Shared → Prop} {M : Model} {A : Around} {E : Value → Shared → Prop} {s : Shared} (h : wpAny M A t Q E s) (hQ : ∀ a s, Q a s → Q' a s) : wpAny M A t Q' E s := wpAny_mono h hQ fun _ _ x => x
end L2

namespace L2
open PySem PySem.Spec PyProof.Rows
section
variable {X : Cx}

/-! ### names and constants -/
def tVar (i : Nat) : TE := fun σ H Q => ∃ v, σ[i]? = some (some v) ∧ Q v H
def tC (v : V) : TE := fun _ H Q => Q v H
theorem pe_var {i : Nat} {x : Str} {pos : Pos} (hN : X.N[i]? = some x) (hv : Vis X.env.scope x) (hd : (x == ("__debug__" : Str)) = false := by decide) (hcd : (x == ("__classdict__" : Str)) = false := by decide) : PE X (.Name x pos) (tVar i) := by
  intro pins s σ H Q I h
  obtain ⟨v, e, h⟩ := h
  obtain ⟨m, hn, hl⟩ := I.loc
  obtain ⟨u, r, l⟩ := hl i x v hN e hv
  have fin : EP X pins σ Q u s := ⟨v, H, I, r, h⟩
  rcases l with ⟨hk, hm⟩ | ⟨hk, c, hc, hcell⟩
  · exact wpAny_Name (wpAny_loadName_local I.ok.kind hk hn hm fin) hd
  · rcases hk with hk | hk
    · exact wpAny_Name (wpAny_loadName_cell I.ok.kind hk hc hcell fin) hd
    · exact wpAny_Name (wpAny_loadName_free I.ok.kind hk hc hcell fin hcd) hd
theorem pe_int {i j pos} : PE X (.Constant (.int i) j pos) (tC (.int i)) := fun _ _ _ H _ I h => wpAny_Constant_int ⟨.int i, H, I.tok _, ⟨_, rfl⟩, h⟩
theorem pe_bl {b j pos} : PE X (.Constant (.bool b) j pos) (tC (.bl b)) := fun _ _ _ H _ I h => Constant_bool ⟨.bl b, H, I, rfl, h⟩
theorem pe_non {j pos} : PE X (.Constant .none j pos) (tC .non) := fun _ _ _ H _ I h => Constant_none ⟨.non, H, I, rfl, h⟩
theorem pe_str {x j pos} : PE X (.Constant (.str x) j pos) (tC (.str x)) := fun _ _ _ H _ I h => Calls.Constant_str ⟨.str x, H, I.tok _, ⟨_, rfl⟩, h⟩

/-- a global name of the def -/
def Gl (X : Cx) (x : Str) : Prop := X.env.kindOf x = some .globalImplicit
theorem ld_glob {E : Value → Shared → Prop} {pins : List (Addr × Obj)} {s : Shared} {σ : St} {H : Hp} {x : Str} {u : Value} {pos : Pos} {Q : Value → Shared → Prop} (I : Inv X pins σ H s) (hg : Gl X x) (hm : X.mg x = some u) (h : Q u s)
    (hd : (x == ("__debug__" : Str)) = false := by decide) : wpAny (model X.prog X.w) X.A (eval (.Name x pos) X.env) Q E s :=
  Calls.Name_function_global I.ok.kind hg (Calls.loadGlobal_global (by rw [I.ok.glob]; exact I.mod.glob.keeps I.bk) hm h) hd
theorem ld_blt {E : Value → Shared → Prop} {pins : List (Addr × Obj)} {s : Shared} {σ : St} {H : Hp} {x : Str} {u : Value} {pos : Pos} {Q : Value → Shared → Prop} (I : Inv X pins σ H s) (hg : Gl X x) (hm : X.mg x = none) (hv : bootBuiltins x = some u) (h : Q u s)
    (hn : x ≠ "__name__" := by decide) (hd : (x == ("__debug__" : Str)) = false := by decide) : wpAny (model X.prog X.w) X.A (eval (.Name x pos) X.env) Q E s := by
  obtain ⟨mb, h1, h2⟩ := I.mod.blt
  exact Calls.Name_function_global I.ok.kind hg (Calls.loadGlobal_builtin (by rw [I.ok.glob]; exact I.mod.glob.keeps I.bk) hm (by rw [I.ok.blt]; exact h1.keeps I.bk) ((h2 x hn).trans hv) h) hd
/-- a module's constant, a class, a function, as a value -/
theorem pe_glob {x : Str} {v : V} {u : Value} {pos : Pos} (hg : Gl X x) (hm : X.mg x = some u) (r : RelV v u) (hd : (x == ("__debug__" : Str)) = false := by decide) : PE X (.Name x pos) (tC v) :=
  fun _ _ _ H _ I h => ld_glob I hg hm ⟨v, H, I, r, h⟩ hd
theorem pe_bltn {x : Str} {v : V} {u : Value} {pos : Pos} (hg : Gl X x) (hm : X.mg x = none) (hv : bootBuiltins x = some u) (r : RelV v u) (hn : x ≠ "__name__" := by decide) (hd : (x == ("__debug__" : Str)) = false := by decide) : PE X (.Name x pos) (tC v) :=
  fun _ _ _ H _ I h => ld_blt I hg hm hv ⟨v, H, I, r, h⟩ hn hd

/-! ### arithmetic -/
variable {a b : Expr} {ta tb : TE} {pos : Pos}
/-! ### comparisons -/
def PC (X : Cx) (op : CmpOp) (a b : Expr) (t : TE) : Prop :=
  ∀ (pins : List (Addr × Obj)) (s : Shared) (σ : St) (H : Hp) (Q : VK), Inv X pins σ H s → t σ H Q →
    wpAny (model X.prog X.w) X.A (eval a X.env) (fun v s₁ => wpAny (model X.prog X.w) X.A (eval b X.env) (fun u s₂ => wpAny (model X.prog X.w) X.A (compareOp op v u) (EP X pins σ Q) X.xe s₂) X.xe s₁) X.xe s
/-- a comparison as a value, as a test -/
def tB (t : TE) : TT := fun σ H Q => t σ H fun x H1 => ∃ c, x = .bl c ∧ Q c H1
/-- an expression whose value is a bool, as a test -/
theorem pt_val {e : Expr} {t : TE} (h : PE X e t) (he : ∀ whole, isTrue e X.env whole = (do let v ← whole; standAt e.pos; holding [v] (truthy v)) := by intro _; rfl) : PT X e (tB t) := by
  intro pins s σ H Q I hw
  refine isTrue_plain (thn (h pins s σ H _ I hw) fun v s1 ⟨x, H1, I1, r1, q1⟩ => ?_) (he _)
  obtain ⟨d, rfl, q⟩ := q1
  cases r1
  exact wpAny_truthy_bool ⟨H1, I1, q⟩

/-! ### and, or, not -/
variable {tA tB' : TT} {rest : List Expr}
def tAnd (t u : TT) : TT := fun σ H Q => t σ H fun c H1 => if c = true then u σ H1 Q else Q false H1
def tOr (t u : TT) : TT := fun σ H Q => t σ H fun c H1 => if c = true then Q true H1 else u σ H1 Q
def tNot (t : TT) : TT := fun σ H Q => t σ H fun c H1 => Q (!c) H1
theorem pw_and1 (ha : PT X a tA) : PW X (.BoolOp .And [a] pos) tA := by
  intro wh pins s σ H Q I h
  refine isTrue_and (thn (ha pins s σ H Q I h) fun c s1 e => ?_)
  cases c with
  | true => exact isTrue_and_nil e
  | false => exact e
theorem pw_or1 (ha : PT X a tA) : PW X (.BoolOp .Or [a] pos) tA := by
  intro wh pins s σ H Q I h
  refine isTrue_or (thn (ha pins s σ H Q I h) fun c s1 e => ?_)
  cases c with
  | false => exact isTrue_or_nil e
  | true => exact e
theorem pw_and (ha : PT X a tA) (hb : PW X (.BoolOp .And (b :: rest) pos) tB') : PW X (.BoolOp .And (a :: b :: rest) pos) (tAnd tA tB') := by
  intro wh pins s σ H Q I h
  refine isTrue_and (thn (ha pins s σ H _ I h) fun c s1 ⟨H1, I1, q1⟩ => ?_)
  cases c with
  | true => exact hb wh pins s1 σ H1 Q I1 q1
  | false => exact ⟨H1, I1, q1⟩
theorem pw_or (ha : PT X a tA) (hb : PW X (.BoolOp .Or (b :: rest) pos) tB') : PW X (.BoolOp .Or (a :: b :: rest) pos) (tOr tA tB') := by
  intro wh pins s σ H Q I h
  refine isTrue_or (thn (ha pins s σ H _ I h) fun c s1 ⟨H1, I1, q1⟩ => ?_)
  cases c with
  | true => exact ⟨H1, I1, q1⟩
  | false => exact hb wh pins s1 σ H1 Q I1 q1
theorem pt_not (ha : PT X a tA) : PT X (.UnaryOp .Not a pos) (tNot tA) := by
  intro pins s σ H Q I h
  exact isTrue_not (ha pins s σ H (fun c H1 => Q (!c) H1) I h)
/-- .. as values (bools) -/
def tAndV (ta tb : TE) : TE := fun σ H Q => ta σ H fun x H1 => ∃ c, x = .bl c ∧ if c = true then tb σ H1 Q else Q (.bl false) H1
def tOrV (ta tb : TE) : TE := fun σ H Q => ta σ H fun x H1 => ∃ c, x = .bl c ∧ if c = true then Q (.bl true) H1 else tb σ H1 Q
def tNotV (ta : TE) : TE := fun σ H Q => ta σ H fun x H1 => ∃ c, x = .bl c ∧ Q (.bl (!c)) H1
theorem pe_one {op} {t : TE} (h : PE X a t) : PE X (.BoolOp op [a] pos) t := fun pins s σ H Q I hw => BoolOp_one (h pins s σ H Q I hw)
theorem pe_and (ha : PE X a ta) (hb : PE X (.BoolOp .And (b :: rest) pos) tb) : PE X (.BoolOp .And (a :: b :: rest) pos) (tAndV ta tb) := by
  intro pins s σ H Q I h
  refine BoolOp_and (thn (ha pins s σ H _ I h) fun v s1 ⟨x, H1, I1, r1, q1⟩ => ?_)
  obtain ⟨c, rfl, q1⟩ := q1
  cases r1
  refine wpAny_truthy_bool ?_
  cases c with
  | true => exact hb pins s1 σ H1 Q I1 q1
  | false => exact ⟨.bl false, H1, I1, rfl, q1⟩
theorem pe_or (ha : PE X a ta) (hb : PE X (.BoolOp .Or (b :: rest) pos) tb) : PE X (.BoolOp .Or (a :: b :: rest) pos) (tOrV ta tb) := by
  intro pins s σ H Q I h
  refine BoolOp_or (thn (ha pins s σ H _ I h) fun v s1 ⟨x, H1, I1, r1, q1⟩ => ?_)
  obtain ⟨c, rfl, q1⟩ := q1
  cases r1
  refine wpAny_truthy_bool ?_
  cases c with
  | false => exact hb pins s1 σ H1 Q I1 q1
  | true => exact ⟨.bl true, H1, I1, rfl, q1⟩
theorem pe_not (ha : PE X a ta) : PE X (.UnaryOp .Not a pos) (tNotV ta) := by
  intro pins s σ H Q I h
  refine UnaryOp_ (thn (ha pins s σ H _ I h) fun v s1 ⟨x, H1, I1, r1, q1⟩ => ?_)
  obtain ⟨c, rfl, q1⟩ := q1
  cases r1
  exact not_of (wpAny_truthy_bool ⟨.bl (!c), H1, I1, rfl, q1⟩)
/-- a if t else b -/
def tIf (t : TT) (ta tb : TE) : TE := fun σ H Q => t σ H fun c H1 => if c = true then ta σ H1 Q else tb σ H1 Q
theorem pe_ifExp {c : Expr} (hc : PT X c tA) (ha : PE X a ta) (hb : PE X b tb) : PE X (.IfExp c a b pos) (tIf tA ta tb) := by
  intro pins s σ H Q I h
  refine wpAny_IfExp (thn (hc pins s σ H _ I h) fun d s1 ⟨H1, I1, q1⟩ => ?_)
  cases d with
  | true => exact ha pins s1 σ H1 Q I1 q1
  | false => exact hb pins s1 σ H1 Q I1 q1
end
end L2

namespace L2
open PySem PySem.Spec PyProof.Rows

/-! ### a list, a tuple that is read: tracked, frozen, or an object of the module -/
def SqL (K : PySem.W.Frag) (H : Hp) (a : Addr) (xs : List V) : Prop :=
  Rd H a (.lst xs) ∨
    ∃ (o : Obj) (its : Array Value) (n : Nat), K.lookup a = some o ∧ o.cls = .type "list" ∧ o.dict = none ∧ o.data = .seq its n ∧ its.size ≤ sizeLine ∧ Vals xs its.toList
def SqT (K : PySem.W.Frag) (H : Hp) (a : Addr) (xs : List V) : Prop :=
  Rd H a (.tup xs) ∨
    ∃ (o : Obj) (its : Array Value) (n : Nat), K.lookup a = some o ∧ o.cls = .type "tuple" ∧ o.data = .seq its n ∧ its.size ≤ sizeLine ∧ Vals xs its.toList
def absV : Value → Option V
  | .none => some .non
  | .bool b => some (.bl b)
  | .int i _ => some (.int i)
  | .str x _ => some (.str x)
  | .bytes b _ => some (.byt b)
  | .float b _ => some (.flt b)
  | .ref a => some (.ref a)
  | .type n => some (.ty n)
  | _ => none
theorem RelV.abs {x : V} {u : Value} (r : RelV x u) : absV u = some x := by
  cases x with
  | non => cases r; rfl
  | bl _ => cases r; rfl
  | int _ => obtain ⟨t, rfl⟩ := r; rfl
  | str _ => obtain ⟨t, rfl⟩ := r; rfl
  | byt _ => obtain ⟨t, rfl⟩ := r; rfl
  | flt _ => obtain ⟨t, rfl⟩ := r; rfl
  | ref _ => cases r; rfl
  | ty _ => cases r; rfl
theorem RelV.inj {x y : V} {u : Value} (r : RelV x u) (q : RelV y u) : x = y := Option.some.inj (r.abs.symm.trans q.abs)
theorem Vals.inj : ∀ {xs ys : List V} {us : List Value}, Vals xs us → Vals ys us → xs = ys
  | _, _, _, .nil, .nil => rfl
  | _, _, _, .cons r t, .cons r' t' => by rw [r.inj r', Vals.inj t t']
section
variable {X : Cx} {pins : List (Addr × Obj)} {σ : St} {H : Hp} {s : Shared} {a : Addr} {xs ys : List V}
theorem SqL.of {K : PySem.W.Frag} (h : H a = some (.lst xs)) : SqL K H a xs := .inl (.inl h)
theorem SqT.of {K : PySem.W.Frag} (h : H a = some (.tup xs)) : SqT K H a xs := .inl (.inl h)
theorem Inv.list (I : Inv X pins σ H s) (h : SqL X.K H a xs) : ∃ its : List Value, Vals xs its ∧ PlainL s.heap a its.toArray ∧ xs.length ≤ sizeLine := by
  rcases h with h | ⟨o, its, n, hk, hc, hd, hs, hz, r⟩
  · obtain ⟨z, its, n, r, e⟩ := h.ok I.hok
    exact ⟨its, r, ⟨_, n, e, rfl, rfl, rfl⟩, z⟩
  · refine ⟨its.toList, r, ⟨o, n, I.kIn a o hk, hc, hd, by simpa using hs⟩, ?_⟩
    have e := r.length
    simp only [Array.length_toList] at e
    omega
theorem Inv.tuple (I : Inv X pins σ H s) (h : SqT X.K H a xs) : ∃ its : List Value, Vals xs its ∧ IsTup s.heap a its.toArray ∧ xs.length ≤ sizeLine := by
  rcases h with h | ⟨o, its, n, hk, hc, hs, hz, r⟩
  · obtain ⟨z, its, r, p⟩ := h.ok I.hok
    exact ⟨its, r, p, z⟩
  · refine ⟨its.toList, r, ⟨o, I.kIn a o hk, hc, n, by simpa using hs⟩, ?_⟩
    have e := r.length
    simp only [Array.length_toList] at e
    omega
theorem Inv.list_inj (I : Inv X pins σ H s) (h : SqL X.K H a xs) (h' : SqL X.K H a ys) : xs = ys := by
  obtain ⟨its, r, ⟨o, n, e, _, _, d⟩, _⟩ := I.list h
  obtain ⟨its', r', ⟨o', n', e', _, _, d'⟩, _⟩ := I.list h'
  rw [e] at e'; cases e'
  rw [d] at d'
  injection d' with d1 _
  have : its = its' := by simpa using congrArg Array.toList d1
  subst this
  exact r.inj r'
theorem Inv.tuple_inj (I : Inv X pins σ H s) (h : SqT X.K H a xs) (h' : SqT X.K H a ys) : xs = ys := by
  obtain ⟨its, r, ⟨o, e, _, n, d⟩, _⟩ := I.tuple h
  obtain ⟨its', r', ⟨o', e', _, n', d'⟩, _⟩ := I.tuple h'
  rw [e] at e'; cases e'
  rw [d] at d'
  injection d' with d1 _
  have : its = its' := by simpa using congrArg Array.toList d1
  subst this
  exact r.inj r'
end

/-! ### another wish about exceptions -/
abbrev Cx.wish (X : Cx) (E : Value → Shared → Prop) : Cx := { X with xe := E }
/-- no exception leaves -/
abbrev Cx.nox (X : Cx) : Cx := X.wish fun _ _ => False
theorem Cx.Ok.wish {X : Cx} (ok : X.Ok) (E : Value → Shared → Prop) : (X.wish E).Ok :=
  ⟨ok.mod, ok.kind, ok.glob, ok.blt, ok.above, ok.inj, ok.has, ok.cab, ok.hd, ok.frames, ok.stk, ok.exf, ok.bs, ok.bsz, ok.noex, ok.exfs, ok.funs, ok.frf⟩
theorem Cx.Ok.unwish {X : Cx} {E : Value → Shared → Prop} (ok : (X.wish E).Ok) : X.Ok :=
  ⟨ok.mod, ok.kind, ok.glob, ok.blt, ok.above, ok.inj, ok.has, ok.cab, ok.hd, ok.frames, ok.stk, ok.exf, ok.bs, ok.bsz, ok.noex, ok.exfs, ok.funs, ok.frf⟩
section
variable {X : Cx} {pins : List (Addr × Obj)} {σ : St} {H : Hp} {s : Shared} {E : Value → Shared → Prop}
theorem Inv.wish (I : Inv X pins σ H s) (E : Value → Shared → Prop) : Inv (X.wish E) pins σ H s := ⟨I.ok.wish E, I.os, I.bare, I.base, I.loc, I.cell, I.free, I.freeC, I.pin, I.hok, I.len⟩
theorem Inv.unwish (I : Inv (X.wish E) pins σ H s) : Inv X pins σ H s := ⟨I.ok.unwish, I.os, I.bare, I.base, I.loc, I.cell, I.free, I.freeC, I.pin, I.hok, I.len⟩
theorem SP.unwish {D : Ends} {f : Flow} {s' : Shared} (h : SP (X.wish E) pins D f s') : SP X pins D f s' := by
  cases f with
  | next => obtain ⟨σ', H', I, q⟩ := h; exact ⟨σ', H', I.unwish, q⟩
  | brk => obtain ⟨σ', H', I, q⟩ := h; exact ⟨σ', H', I.unwish, q⟩
  | cont => obtain ⟨σ', H', I, q⟩ := h; exact ⟨σ', H', I.unwish, q⟩
  | ret u => obtain ⟨v, σ', H', I, r, q⟩ := h; exact ⟨v, σ', H', I.unwish, r, q⟩
theorem PE.nox {e : Expr} {t : TE} (h : PE X.nox e t) : PE X e t := fun pins s σ H Q I hw =>
  wpAny_mono (h pins s σ H Q (I.wish _) hw) (fun _ _ ⟨v, H', I', r, q⟩ => ⟨v, H', I'.unwish, r, q⟩) fun _ _ z => False.elim z
theorem PT.nox {e : Expr} {t : TT} (h : PT X.nox e t) : PT X e t := fun pins s σ H Q I hw =>
  wpAny_mono (h pins s σ H Q (I.wish _) hw) (fun _ _ ⟨H', I', q⟩ => ⟨H', I'.unwish, q⟩) fun _ _ z => False.elim z
theorem PSs.nox {st : List Stmt} {t : TS} (h : PSs X.nox st t) : PSs X st t := fun pins s σ H D I hw =>
  wpAny_mono (h pins s σ H D (I.wish _) hw) (fun _ _ q => q.unwish) fun _ _ z => False.elim z
end

/-! ### blocks and small statements -/
section
variable {X : Cx} {st : Stmt} {rest : List Stmt} {t u : TS} {e : Expr} {te : TE} {pos : Pos}
def tNext : TS := fun D σ H => D.nx σ H
def tSeq (t u : TS) : TS := fun D σ H => t { D with nx := u D } σ H
theorem pss_nil : PSs X [] tNext := fun _ _ σ H _ I h => wpAny_execs_nil ⟨σ, H, I, h⟩
theorem pss_cons (h1 : PS X st t) (h2 : PSs X rest u) : PSs X (st :: rest) (tSeq t u) := by
  intro pins s σ H D I h
  refine wpAny_execs_cons (thn (h1 pins s σ H { D with nx := u D } I h) fun f s1 q => ?_)
  cases f with
  | next =>
    obtain ⟨σ', H', I', q⟩ := q
    exact h2 pins s1 σ' H' D I' q
  | ret v => exact q
  | brk => exact q
  | cont => exact q
theorem pss_one (h1 : PS X st t) : PSs X [st] t := by
  intro pins s σ H D I h
  refine wpAny_execs_cons (thn (h1 pins s σ H D I h) fun f s1 q => ?_)
  cases f with
  | next => exact wpAny_execs_nil q
  | ret v => exact q
  | brk => exact q
  | cont => exact q
/-- in a def's body nothing is shown -/
theorem Inv.quiet {pins : List (Addr × Obj)} {σ : St} {H : Hp} {s : Shared} (I : Inv X pins σ H s) : interactive X.env = false := by simp [interactive, I.ok.kind]
/-- an expression whose value is dropped -/
def tDrop (te : TE) : TS := fun D σ H => te σ H fun _ H1 => D.nx σ H1
theorem ps_expr (he : PE X e te) (hs : swapsWith e none pos.line X.env = pure false := by rfl) : PS X (.Expr e pos) (tDrop te) := by
  intro pins s σ H D I h
  exact wpAny_Expr_any (thn (he pins s σ H _ I h) fun v s1 ⟨x, H1, I1, r1, q1⟩ => ⟨σ, H1, I1, q1⟩) I.quiet hs
def tRet (te : TE) : TS := fun D σ H => te σ H D.rt
theorem ps_ret (he : PE X e te) : PS X (.Return (some e) pos) (tRet te) := by
  intro pins s σ H D I h
  exact wpAny_Return_some (thn (he pins s σ H _ I h) fun v s1 ⟨x, H1, I1, r1, q1⟩ => ⟨x, σ, H1, I1, r1, q1⟩)
def tIfS (c : TT) (t u : TS) : TS := fun D σ H => c σ H fun b H1 => if b = true then t D σ H1 else u D σ H1
theorem ps_if {c : Expr} {a b : List Stmt} {tc : TT} (hc : PT X c tc) (ha : PSs X a t) (hb : PSs X b u) : PS X (.If c a b pos) (tIfS tc t u) := by
  intro pins s σ H D I h
  refine wpAny_If (thn (hc pins s σ H _ I h) fun d s1 ⟨H1, I1, q1⟩ => ?_)
  cases d with
  | true => exact ha pins s1 σ H1 D I1 q1
  | false => exact hb pins s1 σ H1 D I1 q1
end

/-! ### targets -/
abbrev TG := V → St → Hp → (St → Hp → Prop) → Prop
abbrev TGs := List V → St → Hp → (St → Hp → Prop) → Prop
def PG (X : Cx) (target : Expr) (t : TG) : Prop :=
  ∀ (pins : List (Addr × Obj)) (s : Shared) (σ : St) (H : Hp) (v : V) (u : Value) (Q : St → Hp → Prop), Inv X pins σ H s → RelV v u → t v σ H Q →
    wpAny (model X.prog X.w) X.A (assign target X.env u) (fun _ s' => ∃ σ' H', Inv X pins σ' H' s' ∧ Q σ' H') X.xe s
/-- several targets, one after another -/
def PGs (X : Cx) (ts : List Expr) (t : TGs) : Prop :=
  ∀ (pins : List (Addr × Obj)) (s : Shared) (σ : St) (H : Hp) (vs : List V) (us : List Value) (Q : St → Hp → Prop), Inv X pins σ H s → Vals vs us → t vs σ H Q →
    wpAny (model X.prog X.w) X.A (assignInOrder ((assignEach ts X.env).map (·.2)) us) (fun _ s' => ∃ σ' H', Inv X pins σ' H' s' ∧ Q σ' H') X.xe s
/-- o[i] = v, by values -/
abbrev TSet := V → V → V → Hp → (Hp → Prop) → Prop
def PSet (X : Cx) (t : TSet) : Prop :=
  ∀ (pins : List (Addr × Obj)) (s : Shared) (σ : St) (H : Hp) (o i v : V) (ov iv u : Value) (Q : Hp → Prop), Inv X pins σ H s → RelV o ov → RelV i iv → RelV v u → t o i v H Q →
    wpAny (model X.prog X.w) X.A (setItem ov iv u) (fun _ s' => ∃ H', Inv X pins σ H' s' ∧ Q H') X.xe s
section
variable {X : Cx} {pos : Pos}
def gName (i : Nat) : TG := fun v σ H Q => Q (σ.set i (some v)) H
theorem pg_name {i : Nat} {x : Str} (hN : X.N.Nodup) (hi : X.N[i]? = some x) (hx : Loc X.env.scope x) (hf : X.fn x = true ∨ X.env.scope.names.lookup x = some .local := by first | exact .inl rfl | exact .inr rfl | assumption) : PG X (.Name x pos) (gName i) := by
  intro pins s σ H v u Q I r h
  exact wpAny_assign_Name (store_ok I hN hi hx r (fun s' I' => ⟨_, H, I', h⟩) hf)
def gNil : TGs := fun vs σ H Q => vs = [] ∧ Q σ H
def gCons (t : TG) (u : TGs) : TGs := fun vs σ H Q => ∃ v r, vs = v :: r ∧ t v σ H fun σ' H' => u r σ' H' Q
theorem pgs_nil : PGs X [] gNil := by
  intro pins s σ H vs us Q I r h
  obtain ⟨e, h⟩ := h
  subst e
  cases r
  exact assignInOrder_nil ⟨σ, H, I, h⟩
theorem pgs_cons {e : Expr} {es : List Expr} {t : TG} {u : TGs} (h1 : PG X e t) (h2 : PGs X es u)
    (hs : (assignEach (e :: es) X.env).map (·.2) = assign e X.env :: (assignEach es X.env).map (·.2) := by rfl) : PGs X (e :: es) (gCons t u) := by
  intro pins s σ H vs us Q I r h
  obtain ⟨v, vr, e1, h⟩ := h
  subst e1
  cases r with
  | cons r rr =>
    rw [hs]
    refine assignInOrder_cons (thn (h1 pins s σ H _ _ _ I r h) fun _ s1 ⟨σ1, H1, I1, q1⟩ => ?_)
    exact h2 pins s1 σ1 H1 _ _ Q I1 rr q1
/-- (a, b, ..) = a tuple of that length -/
def gTup (K : PySem.W.Frag) (n : Nat) (t : TGs) : TG := fun v σ H Q => ∃ a xs, v = .ref a ∧ SqT K H a xs ∧ xs.length = n ∧ t xs σ H Q
theorem pg_tup {es : List Expr} {k : Nat} {t : TGs} {n : Nat} (hc : X.calm = true) (h : PGs X es t)
    (hn : (assignEach es X.env).length = n := by rfl) (hst : (assignEach es X.env).findIdx? (·.1) = none := by rfl) : PG X (.Tuple es k pos) (gTup X.K n t) := by
  intro pins s σ H v u Q I r hw
  obtain ⟨a, xs, e1, hq, hl, hw⟩ := hw
  subst e1
  cases r
  obtain ⟨its, rv, ht, hz⟩ := I.tuple hq
  refine assign_Tuple_tuple (I.ok.hd hc) ht (by simp [hn, ← hl, rv.length]) hst fun h' hx => ?_
  have I1 : Inv X pins σ H { s with heap := h' } := I.kept (t' := s.toks) fun b o e => hx b o (Nat.ne_of_lt (Heap.lt_size e)) e
  exact h pins _ σ H xs _ Q I1 (by simpa using rv) hw
/-- target = value -/
def tAsg (te : TE) (g : TG) : TS := fun D σ H => te σ H fun x H1 => g x σ H1 D.nx
theorem ps_asg {tg e : Expr} {te : TE} {g : TG} (he : PE X e te) (hg : PG X tg g) (hs : swapsWithSole [tg] e pos.line X.env = pure false := by rfl) (hw : swappedStores [tg] e X.env = pure none := by rfl)
    (h1 : (assignEach [tg] X.env).map (·.2) = [assign tg X.env] := by rfl) : PS X (.Assign [tg] e pos) (tAsg te g) := by
  intro pins s σ H D I h
  refine wpAny_Assign_stores (thn (he pins s σ H _ I h) fun v s1 ⟨x, H1, I1, r1, q1⟩ => ?_) hs hw
  rw [h1]
  exact thn (hg pins s1 σ H1 x v _ I1 r1 q1) fun _ s2 q => q
/-- name = value -/
theorem ps_set {i : Nat} {x : Str} {e : Expr} {te : TE} {pos' : Pos} (hN : X.N.Nodup) (hi : X.N[i]? = some x) (hx : Loc X.env.scope x) (he : PE X e te) (hs : swapsWith e (some (.Name x pos')) pos.line X.env = pure false := by rfl) (hf : X.fn x = true ∨ X.env.scope.names.lookup x = some .local := by first | exact .inl rfl | exact .inr rfl | assumption) :
    PS X (.Assign [.Name x pos'] e pos) (tAsg te (gName i)) := by
  intro pins s σ H D I h
  refine wpAny_Assign_Name (thn (he pins s σ H _ I h) fun v s1 ⟨y, H1, I1, r1, q1⟩ => ?_) hs
  exact store_ok I1 hN hi hx r1 (fun s2 I2 => ⟨_, H1, I2, q1⟩) hf
end

/-! ### while -/
section
variable {X : Cx} {pos : Pos}
/-- the invariant W with its measure -/
def tWhile (c : TT) (tb : TS) : TS := fun D σ H => ∃ W : Nat → St → Hp → Prop, (∃ m, W m σ H) ∧ ∀ m σ H, W m σ H →
  c σ H fun b H1 => if b = true then ∃ N : St → Hp → Prop, (∀ σ' H', N σ' H' → ∃ m', m' < m ∧ W m' σ' H') ∧ tb { D with nx := N, ct := N, bk := D.nx } σ H1 else D.nx σ H1
theorem ps_while {c : Expr} {body : List Stmt} {tc : TT} {tb : TS} (hp : PassesOwn (model X.prog X.w) X.A X.env X.xe) (hc : PT X c tc) (hb : PSs X body tb) : PS X (.While c body [] pos) (tWhile tc tb) := by
  intro pins s σ H D I h
  obtain ⟨W, ⟨m0, w0⟩, turn⟩ := h
  refine wpAny_While (codeAny_whileLoop (fun n s' => ∃ σ' H', Inv X pins σ' H' s' ∧ W n σ' H') ?_ m0 ⟨σ, H, I, w0⟩)
  rintro n s1 ⟨σ1, H1, I1, w1⟩
  refine wpAny_passesOwn hp (thn (hc pins s1 σ1 H1 _ I1 (turn n σ1 H1 w1)) fun b s2 ⟨H2, I2, q2⟩ => ?_)
  cases b with
  | true =>
    obtain ⟨N, hN, q2⟩ := q2
    rw [if_pos rfl]
    refine wpAny_passesOwn hp (thn (hb pins s2 σ1 H2 _ I2 q2) fun f s3 q3 => ?_)
    cases f with
    | next =>
      obtain ⟨σ3, H3, I3, n3⟩ := q3
      obtain ⟨m', hm, w3⟩ := hN σ3 H3 n3
      exact ⟨m', hm, σ3, H3, I3, w3⟩
    | cont =>
      obtain ⟨σ3, H3, I3, n3⟩ := q3
      obtain ⟨m', hm, w3⟩ := hN σ3 H3 n3
      exact ⟨m', hm, σ3, H3, I3, w3⟩
    | brk => exact q3
    | ret v => exact q3
  | false =>
    rw [if_neg Bool.false_ne_true]
    exact wpAny_execs_nil ⟨σ1, H2, I2, q2⟩
end

/-! ### what a loop or a comprehension walks -/
/-- at turn i: it yields x (the heap may grow), or it stops -/
structure It where
  go : Nat → Hp → Prop
  yld : Nat → Hp → V → Hp → Prop
  stop : Nat → Hp → Prop
/-- the iterator's own objects may turn: they are not the frame's, not pinned, younger than the entry (or a comprehension's own) -/
def FpOk (X : Cx) (pins : List (Addr × Obj)) (H : Hp) (b : Addr) : Prop :=
  H b = none ∧ b ≠ X.env.locals ∧ b ∉ X.fs ∧ (b ∈ X.ex ∨ X.s₀.heap.objs.size ≤ b) ∧ (∀ x c, X.env.cells.lookup x = some c → c ≠ b) ∧ ∀ p ∈ X.pn ++ pins, p.1 ≠ b
theorem Inv.fpOk {X : Cx} {pins : List (Addr × Obj)} {σ : St} {H H' : Hp} {s : Shared} {b : Addr} (I : Inv X pins σ H s) (hb : s.heap.objs.size ≤ b) (hn : H' b = none) : FpOk X pins H' b := by
  refine ⟨hn, Nat.ne_of_gt (Nat.lt_of_lt_of_le I.lt hb), I.nofs hb, .inr (Nat.le_trans I.sz hb), fun x c e z => ?_, fun p hp z => ?_⟩
  · obtain ⟨v, q⟩ := I.cell x c e
    exact absurd (Nat.lt_of_lt_of_le q.lt (by rw [z]; exact hb)) (Nat.lt_irrefl _)
  · exact absurd (Nat.lt_of_lt_of_le (Heap.lt_size (I.pin p hp).1) (by rw [z]; exact hb)) (Nat.lt_irrefl _)
structure Turn (P : Program) (w : World) (K : PySem.W.Frag) (tg : Expr) (J : It) (fp : List Addr) (it : Addr) (tn : Nat → Heap → Prop) : Prop where
  mem : it ∈ fp
  obj : ∀ i h, tn i h → ∀ b ∈ fp, ∃ o, h.get? b = some o ∧ ∀ v, o.data ≠ .cell v
  keep : ∀ i h h', tn i h → (∀ b ∈ fp, ∀ o, h.get? b = some o → h'.get? b = some o) → tn i h'
  item : ∀ (X : Cx), X.prog = P → X.w = w → X.K = K → X.calm = true → ∀ (i : Nat) (pins : List (Addr × Obj)) (s : Shared) (σ : St) (H : Hp) (E : Value → Shared → Prop), Inv X pins σ H s → (∀ b ∈ fp, FpOk X pins H b) → tn i s.heap → J.go i H →
    wpAny (model P w) X.A (pyNext (.ref it)) (fun r s1 => ∃ u, r = some u ∧
      wpAny (model P w) X.A (letOwnedTupleGo tg (.ref it) u) (fun _ s2 => ∃ x H', Inv X pins σ H' s2 ∧ RelV x u ∧ J.yld i H x H' ∧ tn (i + 1) s2.heap ∧ ∀ b ∈ fp, H' b = none) E s1) E s
  done : ∀ (X : Cx), X.prog = P → X.w = w → X.K = K → X.calm = true → ∀ (i : Nat) (pins : List (Addr × Obj)) (s : Shared) (σ : St) (H : Hp) (E : Value → Shared → Prop), Inv X pins σ H s → (∀ b ∈ fp, FpOk X pins H b) → tn i s.heap → J.stop i H →
    wpAny (model P w) X.A (pyNext (.ref it)) (fun r s1 => r = none ∧ Inv X pins σ H s1) E s
  self : ∀ (A : Around) (i : Nat) (s : Shared) (Q : Value → Shared → Prop) (E : Value → Shared → Prop), tn i s.heap → Q (.ref it) s → wpAny (model P w) A (pyIter (.ref it)) Q E s
abbrev TI := St → Hp → (It → Hp → Prop) → Prop
/-- an iterator has come -/
def PIE (X : Cx) (pins : List (Addr × Obj)) (σ : St) (tg : Expr) (R : It → Hp → Prop) (itv : Value) (s2 : Shared) : Prop :=
  ∃ (it : Addr) (fp : List Addr) (tn : Nat → Heap → Prop) (J : It) (H' : Hp), itv = .ref it ∧ Inv X pins σ H' s2 ∧ Turn X.prog X.w X.K tg J fp it tn ∧ tn 0 s2.heap ∧ (∀ b ∈ fp, FpOk X pins H' b) ∧ R J H'
def PI (X : Cx) (tg iter : Expr) (wi : TI) : Prop :=
  ∀ (pins : List (Addr × Obj)) (s : Shared) (σ : St) (H : Hp) (R : It → Hp → Prop), Inv X pins σ H s → wi σ H R →
    wpAny (model X.prog X.w) X.A (eval iter X.env) (fun v s1 => wpAny (model X.prog X.w) X.A (pyIter v) (PIE X pins σ tg R) X.xe s1) X.xe s

/-- the step ahead of the store is nothing for an iterator that keeps no tuple -/
theorem go_of {M : Model} {A : Around} {E : Value → Shared → Prop} {s : Shared} {tg : Expr} {it : Addr} {u : Value} {o : Obj} {n : String} {vs : Array Value} {Q : Unit → Shared → Prop} (ho : s.heap.get? it = some o) (hc : o.cls = .type n) (hd : o.data = .fields vs)
    (hn : ["enumerate", "zip", "dict_itemiterator", "dict_reverseitemiterator", "odict_iterator", "itertools.zip_longest", "itertools.pairwise"].contains n = false) (hQ : Q () s) : wpAny M A (letOwnedTupleGo tg (.ref it) u) Q E s := by
  unfold letOwnedTupleGo
  cases tg <;> first
    | exact wpAny_pure hQ
    | (cases u <;> first
        | exact wpAny_pure hQ
        | (refine wpAny_bind (wpAny_load ho ?_)
           rw [hc, hd]
           show wpAny M A (if (["enumerate", "zip", "dict_itemiterator", "dict_reverseitemiterator", "odict_iterator", "itertools.zip_longest", "itertools.pairwise"].contains n && vs[0]? == some (rawInt _)) = true then _ else _) Q E s
           rw [if_neg (by intro h; rw [hn, Bool.false_and] at h; cases h)]
           exact wpAny_pure hQ))

/-- the list at a, as it stands at each turn (a loop may append to it) -/
def Itl (K : PySem.W.Frag) (a : Addr) : It :=
  ⟨fun i H => ∃ xs x, SqL K H a xs ∧ xs[i]? = some x, fun i H x H' => H' = H ∧ ∀ xs, SqL K H a xs → xs[i]? = some x, fun i H => ∃ xs, SqL K H a xs ∧ xs.length ≤ i⟩
def Itt (K : PySem.W.Frag) (a : Addr) : It :=
  ⟨fun i H => ∃ xs x, SqT K H a xs ∧ xs[i]? = some x, fun i H x H' => H' = H ∧ ∀ xs, SqT K H a xs → xs[i]? = some x, fun i H => ∃ xs, SqT K H a xs ∧ xs.length ≤ i⟩
/-- lo, lo + 1, .. (n of them) -/
def Itr (lo : Int) (n : Nat) : It := ⟨fun i _ => i < n, fun i H x H' => H' = H ∧ x = .int (lo + i), fun i _ => n ≤ i⟩
theorem turn_list {P : Program} {w : World} {K : PySem.W.Frag} {tg : Expr} (a it : Addr) : Turn P w K tg (Itl K a) [it] it (fun i h => h.IsListIter it a i) where
  mem := by simp
  obj := fun i h st b hb => by
    have e : b = it := by simpa using hb
    subst e
    obtain ⟨o, e, c, d⟩ := st
    exact ⟨o, e, fun v z => by rw [d] at z; cases z⟩
  keep := fun i h h' st k => st.at fun o e => k it (by simp) o e
  item := by
    intro X hP hw hK hc i pins s σ H E I hf st hg
    subst hP hw hK
    obtain ⟨xs, x, hq, hx⟩ := hg
    obtain ⟨its, rv, p, hz⟩ := I.list hq
    obtain ⟨u, hu, ru⟩ := rv.get hx
    obtain ⟨f0, f1, f2, f3, f4, f5⟩ := hf it (by simp)
    refine wpAny_pyNext_list_item st p.isList (x := u) (by simpa using hu) fun h' st' sb => ?_
    have I1 : Inv X pins σ H { s with heap := h' } := I.turned (t' := s.toks) (fun b o hb e => (sb.2 b hb).trans e) f0 f1 f3 f4 f5
    obtain ⟨o, e, c, d⟩ := id st'
    exact ⟨u, rfl, go_of (s := { s with heap := h' }) e c d (by decide) ⟨x, H, I1, ru, ⟨rfl, fun ys hy => by rw [I.list_inj hy hq]; exact hx⟩, st', fun b hb => (hf b hb).1⟩⟩
  done := by
    intro X hP hw hK hc i pins s σ H E I hf st hg
    subst hP hw hK
    obtain ⟨xs, hq, hx⟩ := hg
    obtain ⟨its, rv, p, hz⟩ := I.list hq
    obtain ⟨f0, f1, f2, f3, f4, f5⟩ := hf it (by simp)
    have hl := rv.length
    exact wpAny_pyNext_list_end (I.ok.hd hc) st p.isList (by simp; omega) fun h' eb => ⟨rfl, I.turned (t' := s.toks) (fun b o hb e => eb b o hb e) f0 f1 f3 f4 f5⟩
  self := fun _ _ _ _ _ st h => wpAny_pyIter_listiter st h
theorem turn_tuple {P : Program} {w : World} {K : PySem.W.Frag} {tg : Expr} (a it : Addr) : Turn P w K tg (Itt K a) [it] it (fun i h => h.IsTupleIter it a i) where
  mem := by simp
  obj := fun i h st b hb => by
    have e : b = it := by simpa using hb
    subst e
    obtain ⟨o, e, c, d⟩ := st
    exact ⟨o, e, fun v z => by rw [d] at z; cases z⟩
  keep := fun i h h' st k => st.at fun o e => k it (by simp) o e
  item := by
    intro X hP hw hK hc i pins s σ H E I hf st hg
    subst hP hw hK
    obtain ⟨xs, x, hq, hx⟩ := hg
    obtain ⟨its, rv, p, hz⟩ := I.tuple hq
    obtain ⟨u, hu, ru⟩ := rv.get hx
    obtain ⟨f0, f1, f2, f3, f4, f5⟩ := hf it (by simp)
    refine wpAny_pyNext_tuple_item st (show s.heap.IsTuple a its.toArray from p) (x := u) (by simpa using hu) fun h' st' sb => ?_
    have I1 : Inv X pins σ H { s with heap := h' } := I.turned (t' := s.toks) (fun b o hb e => (sb.2 b hb).trans e) f0 f1 f3 f4 f5
    obtain ⟨o, e, c, d⟩ := id st'
    exact ⟨u, rfl, go_of (s := { s with heap := h' }) e c d (by decide) ⟨x, H, I1, ru, ⟨rfl, fun ys hy => by rw [I.tuple_inj hy hq]; exact hx⟩, st', fun b hb => (hf b hb).1⟩⟩
  done := by
    intro X hP hw hK hc i pins s σ H E I hf st hg
    subst hP hw hK
    obtain ⟨xs, hq, hx⟩ := hg
    obtain ⟨its, rv, p, hz⟩ := I.tuple hq
    obtain ⟨f0, f1, f2, f3, f4, f5⟩ := hf it (by simp)
    have hl := rv.length
    exact wpAny_pyNext_tuple_end (I.ok.hd hc) st (show s.heap.IsTuple a its.toArray from p) (by simp; omega) fun h' eb => ⟨rfl, I.turned (t' := s.toks) (fun b o hb e => eb b o hb e) f0 f1 f3 f4 f5⟩
  self := fun _ _ _ _ _ st h => wpAny_pyIter_tupleiter st h
theorem turn_range {P : Program} {w : World} {K : PySem.W.Frag} {tg : Expr} (it : Addr) (lo : Int) (n : Nat) : Turn P w K tg (Itr lo n) [it] it (fun i h => IsRangeIter h it (lo + (i : Nat) * 1) ((n : Int) - (i : Nat)) 1) where
  mem := by simp
  obj := fun i h st b hb => by
    have e : b = it := by simpa using hb
    subst e
    exact ⟨_, st, fun v z => by
      have z' : Data.fields _ = Data.cell v := z
      cases z'⟩
  keep := fun i h h' st k => k it (by simp) _ st
  item := by
    intro X hP hw hK hc i pins s σ H E I hf st hg
    subst hP hw hK
    obtain ⟨f0, f1, f2, f3, f4, f5⟩ := hf it (by simp)
    have W := Walks.range (prog := X.prog) (w := X.w) (I.ok.hd hc) it lo 1 n
    refine W.item i s _ _ hg st fun v h' tk hv st' kk => ?_
    obtain ⟨t, rfl⟩ := hv
    have I1 : Inv X pins σ H { s with heap := h', toks := tk } := I.turned (fun b o hb e => kk b o (by simpa using hb) e) f0 f1 f3 f4 f5
    refine ⟨_, rfl, go_of (s := { s with heap := h', toks := tk }) (n := "range_iterator") st' rfl rfl (by decide) ⟨.int (lo + i), H, I1, ⟨t, ?_⟩, ⟨rfl, rfl⟩, st', fun b hb => (hf b hb).1⟩⟩
    rw [Int.mul_one]
  done := by
    intro X hP hw hK hc i pins s σ H E I hf st hg
    subst hP hw hK
    obtain ⟨f0, f1, f2, f3, f4, f5⟩ := hf it (by simp)
    exact wpAny_pyNext_range_end (I.ok.hd hc) st (by have : n ≤ i := hg; omega) fun h' eb => ⟨rfl, I.turned (t' := s.toks) (fun b o hb e => eb b o hb e) f0 f1 f3 f4 f5⟩
  self := fun _ _ _ _ _ st h => wpAny_pyIter_rangeiter st h
end L2

namespace L2
open PySem PySem.Spec PyProof.Rows
section
variable {X : Cx} {tg : Expr}
def iList (K : PySem.W.Frag) (tl : TE) : TI := fun σ H R => tl σ H fun x H1 => ∃ a, x = .ref a ∧ (∃ xs, SqL K H1 a xs) ∧ R (Itl K a) H1
def iTup (K : PySem.W.Frag) (tl : TE) : TI := fun σ H R => tl σ H fun x H1 => ∃ a, x = .ref a ∧ (∃ xs, SqT K H1 a xs) ∧ R (Itt K a) H1
theorem pi_list {l : Expr} {tl : TE} (hl : PE X l tl) : PI X tg l (iList X.K tl) := by
  intro pins s σ H R I h
  refine thn (hl pins s σ H _ I h) fun v s1 ⟨x, H1, I1, r1, q1⟩ => ?_
  obtain ⟨a, e, ⟨xs, hq⟩, q⟩ := q1
  subst e
  cases r1
  obtain ⟨its, rv, p, hz⟩ := I1.list hq
  refine wpAny_pyIter_list p.isList ?_
  refine ⟨s1.heap.objs.size, [s1.heap.objs.size], _, _, H1, rfl, I1.kept (t' := s1.toks) fun b o e => Heap.get?_push_of_some _ e, turn_list a _, ⟨_, Heap.get?_push_size _ rfl, rfl, rfl⟩, fun b hb => ?_, q⟩
  have e : b = s1.heap.objs.size := by simpa using hb
  subst e
  exact I1.fpOk (Nat.le_refl _) (I1.hok.fresh (Nat.le_refl _))
theorem pi_tup {l : Expr} {tl : TE} (hl : PE X l tl) : PI X tg l (iTup X.K tl) := by
  intro pins s σ H R I h
  refine thn (hl pins s σ H _ I h) fun v s1 ⟨x, H1, I1, r1, q1⟩ => ?_
  obtain ⟨a, e, ⟨xs, hq⟩, q⟩ := q1
  subst e
  cases r1
  obtain ⟨its, rv, p, hz⟩ := I1.tuple hq
  refine wpAny_pyIter_tuple (show s1.heap.IsTuple a its.toArray from p) ?_
  refine ⟨s1.heap.objs.size, [s1.heap.objs.size], _, _, H1, rfl, I1.kept (t' := s1.toks) fun b o e => Heap.get?_push_of_some _ e, turn_tuple a _, ⟨_, Heap.get?_push_size _ rfl, rfl, rfl⟩, fun b hb => ?_, q⟩
  have e : b = s1.heap.objs.size := by simpa using hb
  subst e
  exact I1.fpOk (Nat.le_refl _) (I1.hok.fresh (Nat.le_refl _))
/-- a range object just made, walked -/
theorem range_it {pins : List (Addr × Obj)} {σ : St} {H : Hp} {s : Shared} {R : It → Hp → Prop} {E : Value → Shared → Prop} {lo hi : Int} {t u v : Tok} {tk : Nat} (I : Inv X pins σ H s) (h1 : -(2 ^ 62) ≤ lo) (h2 : lo < 2 ^ 62) (h3 : -(2 ^ 62) ≤ hi) (h4 : hi < 2 ^ 62)
    (q : R (Itr lo (hi - lo).toNat) H) : wpAny (model X.prog X.w) X.A (pyIter (.ref s.heap.objs.size)) (PIE X pins σ tg R) E { s with heap := s.heap.push { cls := .type "range", data := .fields #[.int lo t, .int hi u, .int 1 v] }, toks := tk } := by
  refine wpAny_pyIter_range (IsRange.new ..) (small_one h1 h2 h3 h4) ?_
  have I1 : Inv X pins σ H { s with heap := s.heap.push { cls := .type "range", data := .fields #[.int lo t, .int hi u, .int 1 v] }, toks := tk } := I.kept fun b o e => Heap.get?_push_of_some _ e
  refine ⟨(s.heap.push { cls := .type "range", data := .fields #[.int lo t, .int hi u, .int 1 v] }).objs.size, [(s.heap.push { cls := .type "range", data := .fields #[.int lo t, .int hi u, .int 1 v] }).objs.size], _, _, H, rfl,
    I1.kept (t' := tk) fun b o e => Heap.get?_push_of_some _ e, turn_range _ lo (hi - lo).toNat, ?_, fun b hb => ?_, q⟩
  · have e1 : lo + ((0 : Nat) : Int) * 1 = lo := by simp
    have e2 : (((hi - lo).toNat : Nat) : Int) - ((0 : Nat) : Int) = Builtin.Range.rangeSize lo hi 1 := by rw [rangeSize_one]; split <;> omega
    show IsRangeIter _ _ (lo + ((0 : Nat) : Int) * 1) ((((hi - lo).toNat : Nat) : Int) - ((0 : Nat) : Int)) 1
    rw [e1, e2]
    exact Heap.get?_push_size _ rfl
  · have e : b = (s.heap.push { cls := .type "range", data := .fields #[.int lo t, .int hi u, .int 1 v] }).objs.size := by simpa using hb
    subst e
    exact I1.fpOk (Nat.le_refl _) (I1.hok.fresh (Nat.le_refl _))
def iRng1 (ta : TA) : TI := fun σ H R => ta σ H fun vs H1 => ∃ j : Int, vs = [.int j] ∧ -(2 ^ 62) ≤ j ∧ j < 2 ^ 62 ∧ R (Itr 0 j.toNat) H1
theorem pi_range1 {a : Expr} {ta : TA} {p pos : Pos} (hg : Gl X "range") (hm : X.mg "range" = none) (ha : PA X [a] ta) (hs : starEach [a] X.env = [(false, eval a X.env)] := by rfl) : PI X tg (.Call (.Name "range" p) [a] [] pos) (iRng1 ta) := by
  intro pins s σ H R I h
  refine Call_ (ld_blt I hg hm boot_range (PyProof.Rows.callWith_type1 (thn (ha pos pins s σ H _ I h) fun us s1 ⟨vs, H1, I1, r1, q1⟩ => ?_) hs rfl))
  obtain ⟨j, e, q1, q2, q⟩ := q1
  subst e
  cases r1 with
  | cons r rr =>
    cases rr
    obtain ⟨t, rfl⟩ := r
    exact call_range_1 (range_it I1 (by omega) (by omega) q1 q2 (by simpa using q))
/-! ### for -/
/-- W: the invariant by the turn and a measure; N: what the body is to reach -/
def tFor (wi : TI) (g : TG) (tb : TS) : TS := fun D σ H => wi σ H fun J H1 => ∃ W : Nat → Nat → St → Hp → Prop, (∃ m, W 0 m σ H1) ∧ ∀ i m σ H, W i m σ H →
  (J.stop i H ∧ D.nx σ H) ∨ (J.go i H ∧ ∃ N : St → Hp → Prop, (∀ σ' H', N σ' H' → ∃ m', m' < m ∧ W (i + 1) m' σ' H') ∧ ∀ x H', J.yld i H x H' → g x σ H' fun σ2 H2 => tb { D with nx := N, ct := N, bk := D.nx } σ2 H2)
/-- the records at fp as they stand -/
def pinsAt (fp : List Addr) (h : Heap) : List (Addr × Obj) := fp.filterMap fun b => (h.get? b).map fun o => (b, o)
theorem mem_pinsAt {fp : List Addr} {h : Heap} {b : Addr} {o : Obj} (hb : b ∈ fp) (e : h.get? b = some o) : (b, o) ∈ pinsAt fp h := List.mem_filterMap.mpr ⟨b, hb, by rw [e]; rfl⟩
theorem of_pinsAt {fp : List Addr} {h : Heap} {p : Addr × Obj} (hp : p ∈ pinsAt fp h) : p.1 ∈ fp ∧ h.get? p.1 = some p.2 := by
  obtain ⟨b, hb, e⟩ := List.mem_filterMap.mp hp
  cases q : h.get? b with
  | none => rw [q] at e; cases e
  | some o =>
    rw [q] at e
    have e' : (b, o) = p := Option.some.inj e
    subst e'
    exact ⟨hb, q⟩
theorem Inv.pinned {pins : List (Addr × Obj)} {σ : St} {H : Hp} {s : Shared} {fp : List Addr} (I : Inv X pins σ H s) (hf : ∀ b ∈ fp, FpOk X pins H b) (ho : ∀ b ∈ fp, ∃ o, s.heap.get? b = some o ∧ ∀ v, o.data ≠ .cell v) : Inv X (pins ++ pinsAt fp s.heap) σ H s :=
  I.pins_of fun p hp => (List.mem_append.mp hp).elim (fun z => I.pin p (List.mem_append_right _ z)) fun z => by
    obtain ⟨hb, e⟩ := of_pinsAt z
    obtain ⟨f0, f1, f2, _⟩ := hf p.1 hb
    obtain ⟨o, e', d⟩ := ho p.1 hb
    rw [e] at e'; cases e'
    exact ⟨e, f0, f1, f2, d⟩
theorem Inv.unpinned {pins pl : List (Addr × Obj)} {σ : St} {H : Hp} {s : Shared} (I : Inv X (pins ++ pl) σ H s) : Inv X pins σ H s := I.pins_of fun p hp => I.pin p (List.mem_append_right _ (List.mem_append_left _ hp))
theorem ps_for {iter : Expr} {body : List Stmt} {wi : TI} {g : TG} {tb : TS} {pos : Pos} (hp : PassesOwn (model X.prog X.w) X.A X.env X.xe) (hc : X.calm = true) (hi : PI X tg iter wi) (hg : PG X tg g) (hb : PSs X body tb)
    (hs : ∀ x, foldedSetIterable iter X.env x = pure x := by intro _; rfl) : PS X (.For tg iter body [] pos) (tFor wi g tb) := by
  intro pins s σ H D I h
  refine wpAny_For (thn (hi pins s σ H _ I h) fun v s1 h1 => thn h1 fun itv s2 h2 => ?_) hs
  obtain ⟨it, fp, tn, J, H2, e, I2, T, st2, f2, W, ⟨m0, w0⟩, turn⟩ := h2
  subst e
  -- what stays true of the iterator's objects through the loop
  have stat : ∀ {H' : Hp}, (∀ b ∈ fp, H' b = none) → ∀ b ∈ fp, FpOk X pins H' b := fun hn b hb => ⟨hn b hb, (f2 b hb).2⟩
  refine codeAny_forLoop_any (fun n s' => ∃ i σ' H', Inv X pins σ' H' s' ∧ tn i s'.heap ∧ (∀ b ∈ fp, H' b = none) ∧ W i n σ' H') ?_ m0 ⟨0, σ, H2, I2, st2, fun b hb => (f2 b hb).1, w0⟩
  rintro n s3 ⟨i, σ3, H3, I3, st3, fr3, w3⟩
  rcases turn i n σ3 H3 w3 with ⟨stop, qn⟩ | ⟨go, N, hN, step⟩
  · refine wpAny_passesOwn hp (thn (T.done X rfl rfl rfl hc i pins s3 σ3 H3 X.xe I3 (stat fr3) st3 stop) fun r s4 ⟨hr, I4⟩ => ?_)
    subst hr
    exact wpAny_execs_nil ⟨σ3, H3, I4, qn⟩
  · refine wpAny_passesOwn hp (thn (T.item X rfl rfl rfl hc i pins s3 σ3 H3 X.xe I3 (stat fr3) st3 go) fun r s4 ⟨u, hr, h4⟩ => ?_)
    subst hr
    refine wpAny_passesOwn hp (thn h4 fun _ s5 ⟨x, H5, I5, r5, y5, st5, fr5⟩ => ?_)
    have I5' := I5.pinned (stat fr5) (T.obj _ _ st5)
    refine wpAny_passesOwn hp (thn (hg _ s5 σ3 H5 x u _ I5' r5 (step x H5 y5)) fun _ s6 ⟨σ6, H6, I6, q6⟩ => ?_)
    refine wpAny_passesOwn hp (thn (hb _ s6 σ6 H6 _ I6 q6) fun f s7 q7 => ?_)
    have again : ∀ {σ7 : St} {H7 : Hp}, Inv X (pins ++ pinsAt fp s5.heap) σ7 H7 s7 → N σ7 H7 → ∃ m, m < n ∧ ∃ i σ' H', Inv X pins σ' H' s7 ∧ tn i s7.heap ∧ (∀ b ∈ fp, H' b = none) ∧ W i m σ' H' := fun {σ7 H7} I7 n7 => by
      obtain ⟨m', hm, w7⟩ := hN σ7 H7 n7
      refine ⟨m', hm, i + 1, σ7, H7, I7.unpinned, T.keep _ _ _ st5 fun b hb o e => (I7.pin (b, o) (List.mem_append_right _ (List.mem_append_right _ (mem_pinsAt hb e)))).1, fun b hb => ?_, w7⟩
      obtain ⟨o, e, d⟩ := T.obj _ _ st5 b hb
      exact (I7.pin (b, o) (List.mem_append_right _ (List.mem_append_right _ (mem_pinsAt hb e)))).2.1
    cases f with
    | next => obtain ⟨σ7, H7, I7, n7⟩ := q7; exact again I7 n7
    | cont => obtain ⟨σ7, H7, I7, n7⟩ := q7; exact again I7 n7
    | brk => obtain ⟨σ7, H7, I7, q7⟩ := q7; exact ⟨σ7, H7, I7.unpinned, q7⟩
    | ret v => obtain ⟨x7, σ7, H7, I7, r7, q7⟩ := q7; exact ⟨x7, σ7, H7, I7.unpinned, r7, q7⟩
end

/-! ### the forms one uses -/
/-- over a list that the body leaves as it is -/
theorem for_list {K : PySem.W.Frag} {a : Addr} {xs : List V} {g : TG} {tb : TS} {D : Ends} {σ : St} {H : Hp} (Pv : Nat → St → Hp → Prop) (h0 : Pv 0 σ H) (hl : ∀ i σ H, i ≤ xs.length → Pv i σ H → SqL K H a xs)
    (hs : ∀ i x σ H, xs[i]? = some x → Pv i σ H → g x σ H fun σ2 H2 => tb { D with nx := Pv (i + 1), ct := Pv (i + 1), bk := D.nx } σ2 H2) (hd : ∀ σ H, Pv xs.length σ H → D.nx σ H) :
    ∃ W : Nat → Nat → St → Hp → Prop, (∃ m, W 0 m σ H) ∧ ∀ i m σ H, W i m σ H →
      ((Itl K a).stop i H ∧ D.nx σ H) ∨ ((Itl K a).go i H ∧ ∃ N : St → Hp → Prop, (∀ σ' H', N σ' H' → ∃ m', m' < m ∧ W (i + 1) m' σ' H') ∧ ∀ x H', (Itl K a).yld i H x H' → g x σ H' fun σ2 H2 => tb { D with nx := N, ct := N, bk := D.nx } σ2 H2) := by
  refine ⟨fun i m σ H => m = xs.length - i ∧ i ≤ xs.length ∧ Pv i σ H, ⟨xs.length, by simp, Nat.zero_le _, h0⟩, ?_⟩
  rintro i m σ H ⟨rfl, hi, p⟩
  have q := hl i σ H hi p
  by_cases hlt : i < xs.length
  · refine .inr ⟨⟨xs, xs[i], q, by simp [hlt]⟩, Pv (i + 1), fun σ' H' p' => ⟨xs.length - (i + 1), by omega, rfl, hlt, p'⟩, fun x H' y => ?_⟩
    obtain ⟨e, y⟩ := y
    subst e
    exact hs i x σ _ (y xs q) p
  · have e : i = xs.length := by omega
    subst e
    exact .inl ⟨⟨xs, q, Nat.le_refl _⟩, hd σ H p⟩
theorem for_range {lo : Int} {n : Nat} {g : TG} {tb : TS} {D : Ends} {σ : St} {H : Hp} (Pv : Nat → St → Hp → Prop) (h0 : Pv 0 σ H)
    (hs : ∀ i σ H, i < n → Pv i σ H → g (.int (lo + i)) σ H fun σ2 H2 => tb { D with nx := Pv (i + 1), ct := Pv (i + 1), bk := D.nx } σ2 H2) (hd : ∀ σ H, Pv n σ H → D.nx σ H) :
    ∃ W : Nat → Nat → St → Hp → Prop, (∃ m, W 0 m σ H) ∧ ∀ i m σ H, W i m σ H →
      ((Itr lo n).stop i H ∧ D.nx σ H) ∨ ((Itr lo n).go i H ∧ ∃ N : St → Hp → Prop, (∀ σ' H', N σ' H' → ∃ m', m' < m ∧ W (i + 1) m' σ' H') ∧ ∀ x H', (Itr lo n).yld i H x H' → g x σ H' fun σ2 H2 => tb { D with nx := N, ct := N, bk := D.nx } σ2 H2) := by
  refine ⟨fun i m σ H => m = n - i ∧ i ≤ n ∧ Pv i σ H, ⟨n, by simp, Nat.zero_le _, h0⟩, ?_⟩
  rintro i m σ H ⟨rfl, hi, p⟩
  by_cases hlt : i < n
  · refine .inr ⟨hlt, Pv (i + 1), fun σ' H' p' => ⟨n - (i + 1), by omega, rfl, hlt, p'⟩, fun x H' y => ?_⟩
    obtain ⟨e, y⟩ := y
    subst e y
    exact hs i σ _ hlt p
  · have e : i = n := by omega
    subst e
    exact .inl ⟨Nat.le_refl _, hd σ H p⟩
end L2

namespace L2
open PySem PySem.Spec PyProof.Rows

abbrev R2 := V → V → Hp → VK → Prop
/-- a two-place operation on values: f is binaryOp op, inplaceOp op or compareOp op -/
def OpR (X : Cx) (f : Value → Value → Sem Value) (r : R2) : Prop :=
  ∀ (pins : List (Addr × Obj)) (s : Shared) (σ : St) (H : Hp) (x y : V) (v u : Value) (Q : VK), Inv X pins σ H s → RelV x v → RelV y u → r x y H Q →
    wpAny (model X.prog X.w) X.A (f v u) (EP X pins σ Q) X.xe s
/-- a one-place operation -/
def UnR (X : Cx) (f : Value → Sem Value) (r : V → Hp → VK → Prop) : Prop :=
  ∀ (pins : List (Addr × Obj)) (s : Shared) (σ : St) (H : Hp) (x : V) (v : Value) (Q : VK), Inv X pins σ H s → RelV x v → r x H Q →
    wpAny (model X.prog X.w) X.A (f v) (EP X pins σ Q) X.xe s
/-- a call of a value that is known (a builtin, a type) with values -/
def CallR (X : Cx) (f : Value) (r : List V → Hp → VK → Prop) : Prop :=
  ∀ (pins : List (Addr × Obj)) (s : Shared) (σ : St) (H : Hp) (xs : List V) (us : List Value) (Q : VK), Inv X pins σ H s → Vals xs us → r xs H Q →
    wpAny (model X.prog X.w) X.A (call f us) (EP X pins σ Q) X.xe s
/-- a value's truth -/
def TruR (X : Cx) (r : V → Hp → (Bool → Hp → Prop) → Prop) : Prop :=
  ∀ (pins : List (Addr × Obj)) (s : Shared) (σ : St) (H : Hp) (x : V) (v : Value) (Q : Bool → Hp → Prop), Inv X pins σ H s → RelV x v → r x H Q →
    wpAny (model X.prog X.w) X.A (truthy v) (TP X pins σ Q) X.xe s

def tOp (r : R2) (ta tb : TE) : TE := fun σ H Q => ta σ H fun x H1 => tb σ H1 fun y H2 => r x y H2 Q
def tUn (r : V → Hp → VK → Prop) (ta : TE) : TE := fun σ H Q => ta σ H fun x H1 => r x H1 Q
/-- ints in, under C, and a value out -/
def rI (C : Int → Int → Prop) (g : Int → Int → V) : R2 := fun x y H Q => ∃ i j, x = .int i ∧ y = .int j ∧ C i j ∧ Q (g i j) H
def rI0 (g : Int → Int → V) : R2 := fun x y H Q => ∃ i j, x = .int i ∧ y = .int j ∧ Q (g i j) H
def rU (g : Int → V) : V → Hp → VK → Prop := fun x H Q => ∃ i, x = .int i ∧ Q (g i) H

section
variable {X : Cx} {a b c : Expr} {ta tb tc : TE} {pos : Pos}

theorem binT (ha : PE X a ta) (hb : PE X b tb) {pins : List (Addr × Obj)} {s : Shared} {σ : St} {H : Hp} {R : V → V → Hp → Prop} (I : Inv X pins σ H s)
    (h : ta σ H fun x H1 => tb σ H1 fun y H2 => R x y H2) {Q : Value → Shared → Prop} {f : Value → Value → Sem Value}
    (hf : ∀ v u s2 x y H2, Inv X pins σ H2 s2 → RelV x v → RelV y u → R x y H2 → wpAny (model X.prog X.w) X.A (f v u) Q X.xe s2) :
    wpAny (model X.prog X.w) X.A (eval a X.env) (fun v s₁ => wpAny (model X.prog X.w) X.A (eval b X.env) (fun u s₂ => wpAny (model X.prog X.w) X.A (f v u) Q X.xe s₂) X.xe s₁) X.xe s := by
  refine thn (ha pins s σ H _ I h) fun v s1 ⟨x, H1, I1, r1, q1⟩ => ?_
  refine thn (hb pins s1 σ H1 _ I1 q1) fun u s2 ⟨y, H2, I2, r2, q2⟩ => ?_
  exact hf v u s2 x y H2 I2 r1 r2 q2

theorem pe_op {op : Operator} {r : R2} (ho : OpR X (binaryOp op) r) (ha : PE X a ta) (hb : PE X b tb) : PE X (.BinOp a op b pos) (tOp r ta tb) := by
  intro pins s σ H Q I h
  exact wpAny_BinOp (binT ha hb I h fun v u s2 x y H2 I2 rx ry q => ho pins s2 σ H2 x y v u Q I2 rx ry q)
theorem pe_un {op : UnaryOp} {r : V → Hp → VK → Prop} (ho : UnR X (unaryOp op) r) (ha : PE X a ta) : PE X (.UnaryOp op a pos) (tUn r ta) := by
  intro pins s σ H Q I h
  exact UnaryOp_ (thn (ha pins s σ H _ I h) fun v s1 ⟨x, H1, I1, r1, q1⟩ => ho pins s1 σ H1 x v Q I1 r1 q1)
/-! ### ints -/
theorem opI {f : Value → Value → Sem Value} {C : Int → Int → Prop} {g : Int → Int → Int}
    (rule : ∀ (i j : Int) (t u : Tok) (s : Shared) (Q : Value → Shared → Prop) (E : Value → Shared → Prop), C i j → Q (.int (g i j) s.toks) { s with toks := s.toks + 1 } → wpAny (model X.prog X.w) X.A (f (.int i t) (.int j u)) Q E s) :
    OpR X f (rI C fun i j => .int (g i j)) := by
  intro pins s σ H x y v u Q I rx ry h
  obtain ⟨i, j, rfl, rfl, hc, q⟩ := h
  obtain ⟨t, rfl⟩ := rx
  obtain ⟨t', rfl⟩ := ry
  exact rule i j t t' s _ _ hc ⟨.int (g i j), H, I.tok _, ⟨_, rfl⟩, q⟩
theorem opI0 {f : Value → Value → Sem Value} {g : Int → Int → Int}
    (rule : ∀ (i j : Int) (t u : Tok) (s : Shared) (Q : Value → Shared → Prop) (E : Value → Shared → Prop), Q (.int (g i j) s.toks) { s with toks := s.toks + 1 } → wpAny (model X.prog X.w) X.A (f (.int i t) (.int j u)) Q E s) :
    OpR X f (rI0 fun i j => .int (g i j)) := by
  intro pins s σ H x y v u Q I rx ry h
  obtain ⟨i, j, rfl, rfl, q⟩ := h
  obtain ⟨t, rfl⟩ := rx
  obtain ⟨t', rfl⟩ := ry
  exact rule i j t t' s _ _ ⟨.int (g i j), H, I.tok _, ⟨_, rfl⟩, q⟩
theorem opB0 {f : Value → Value → Sem Value} {g : Int → Int → Bool}
    (rule : ∀ (i j : Int) (t u : Tok) (s : Shared) (Q : Value → Shared → Prop) (E : Value → Shared → Prop), Q (.bool (g i j)) s → wpAny (model X.prog X.w) X.A (f (.int i t) (.int j u)) Q E s) :
    OpR X f (rI0 fun i j => .bl (g i j)) := by
  intro pins s σ H x y v u Q I rx ry h
  obtain ⟨i, j, rfl, rfl, q⟩ := h
  obtain ⟨t, rfl⟩ := rx
  obtain ⟨t', rfl⟩ := ry
  exact rule i j t t' s _ _ ⟨.bl (g i j), H, I, rfl, q⟩

def CDiv (i j : Int) : Prop := 0 < j ∧ j < 1073741824
def CPow (i j : Int) : Prop := 0 ≤ j ∧ j ≤ 1000000 ∧ i.natAbs < 2 ^ 64
def CMul (i j : Int) : Prop := (-(2 ^ 64) < i ∧ i < 2 ^ 64) ∨ (-(2 ^ 64) < j ∧ j < 2 ^ 64)
theorem CMul.ok {i j : Int} (h : CMul i j) : IntMulOk i j := by
  rcases h with ⟨h1, h2⟩ | ⟨h1, h2⟩
  · exact .of_left (intBits_le_64 h1 h2)
  · exact .of_right (intBits_le_64 h1 h2)
theorem op_add : OpR X (binaryOp .Add) (rI0 fun i j => .int (i + j)) := opI0 fun _ _ _ _ _ _ _ q => add_int q
theorem op_sub : OpR X (binaryOp .Sub) (rI0 fun i j => .int (i - j)) := opI0 fun _ _ _ _ _ _ _ q => sub_int q
/-- // by a positive divisor -/
theorem op_fdiv : OpR X (binaryOp .FloorDiv) (rI CDiv fun i j => .int (i / j)) := opI fun i j _ _ _ _ _ hc q => by
  have h1 : (0 : Int) < j := hc.1
  have h2 : j < 1073741824 := hc.2
  exact floordiv_int (by omega) (by rw [Int.fdiv_eq_ediv_of_nonneg i (by omega)]; exact q) (.inl (PyProof.noPylong_small (by omega)))
/-- % by a positive divisor of any size -/
theorem op_mod : OpR X (binaryOp .Mod) (rI (fun _ j => 0 < j) fun i j => .int (i % j)) := opI fun i j _ _ _ _ _ hc q => by
  have h1 : (0 : Int) < j := hc
  exact mod_int' (by omega) (by rw [Int.fmod_eq_emod_of_nonneg i (by omega)]; exact q)
theorem op_pow : OpR X (binaryOp .Pow) (rI CPow fun i j => .int (i ^ j.toNat)) := opI fun _ _ _ _ _ _ _ hc q => pow_int_small hc.1 hc.2.1 hc.2.2 q
theorem unI {f : Value → Sem Value} {g : Int → Int}
    (rule : ∀ (i : Int) (t : Tok) (s : Shared) (Q : Value → Shared → Prop) (E : Value → Shared → Prop), Q (.int (g i) s.toks) { s with toks := s.toks + 1 } → wpAny (model X.prog X.w) X.A (f (.int i t)) Q E s) :
    UnR X f (rU fun i => .int (g i)) := by
  intro pins s σ H x v Q I rx h
  obtain ⟨i, rfl, q⟩ := h
  obtain ⟨t, rfl⟩ := rx
  exact rule i t s _ _ ⟨.int (g i), H, I.tok _, ⟨_, rfl⟩, q⟩
theorem un_neg : UnR X (unaryOp .USub) (rU fun i => .int (-i)) := unI fun _ _ _ _ _ q => neg_int q
/-! ### bools among ints: n += (a < b) -/
end

/-! ### comparisons -/
/-- the scalars that == tells apart as data does -/
def scal : V → V → Bool
  | .non, .non => true | .non, .int _ => true | .int _, .non => true | .non, .bl _ => true | .bl _, .non => true | .non, .str _ => true | .str _, .non => true
  | .int _, .int _ => true | .bl _, .bl _ => true | .str _, .str _ => true | .byt _, .byt _ => true
  | .int _, .str _ => true | .str _, .int _ => true | .bl _, .str _ => true | .str _, .bl _ => true
  | _, _ => false
def rEq : R2 := fun x y H Q => scal x y = true ∧ Q (.bl (decide (x = y))) H
def rNe : R2 := fun x y H Q => scal x y = true ∧ Q (.bl (!decide (x = y))) H

theorem dec_int {i j : Int} : decide (V.int i = V.int j) = (i == j) := by
  rw [Bool.eq_iff_iff]
  simp
theorem dec_bl {i j : Bool} : decide (V.bl i = V.bl j) = (i == j) := by
  rw [Bool.eq_iff_iff]
  simp
theorem dec_str {i j : Str} : decide (V.str i = V.str j) = (i == j) := by
  rw [Bool.eq_iff_iff]
  simp
theorem dec_byt {i j : Array UInt8} : decide (V.byt i = V.byt j) = (i.toList == j.toList) := by
  rw [Bool.eq_iff_iff]
  cases i
  cases j
  simp

section
variable {X : Cx} {a b c : Expr} {ta tb tc : TE} {pos : Pos}
theorem fin_bl {pins : List (Addr × Obj)} {σ : St} {H : Hp} {s : Shared} {Q : VK} {k k' : Bool} (I : Inv X pins σ H s) (q : Q (.bl k) H) (e : k = k') : EP X pins σ Q (.bool k') s := by
  subst e
  exact ⟨.bl k, H, I, rfl, q⟩
theorem op_eq : OpR X (compareOp .Eq) rEq := by
  intro pins s σ H x y v u Q I rx ry h
  obtain ⟨hs, q⟩ := h
  cases x with
  | non =>
    cases rx
    cases y with
    | non => cases ry; exact PySem.EqNone.eq_none_none (fin_bl I q (by simp))
    | bl j => cases ry; exact PySem.EqNone.eq_none_bool (fin_bl I q (by simp))
    | int j => obtain ⟨t', rfl⟩ := ry; exact PySem.EqNone.eq_none_int (fin_bl I q (by simp))
    | str j => obtain ⟨t', rfl⟩ := ry; exact PySem.EqNone.eq_none_str (fin_bl I q (by simp))
    | _ => exact absurd (show false = true from hs) Bool.false_ne_true
  | bl i =>
    cases rx
    cases y with
    | non => cases ry; exact PySem.EqNone.eq_bool_none (fin_bl I q (by simp))
    | bl j => cases ry; exact eq_bool (fin_bl I q dec_bl)
    | str j => obtain ⟨t', rfl⟩ := ry; exact PySem.EqMixed.eq_bool_str (fin_bl I q (by simp))
    | _ => exact absurd (show false = true from hs) Bool.false_ne_true
  | int i =>
    obtain ⟨t, rfl⟩ := rx
    cases y with
    | non => cases ry; exact PySem.EqNone.eq_int_none (fin_bl I q (by simp))
    | int j => obtain ⟨t', rfl⟩ := ry; exact eq_int (fin_bl I q dec_int)
    | str j => obtain ⟨t', rfl⟩ := ry; exact PySem.EqMixed.eq_int_str (fin_bl I q (by simp))
    | _ => exact absurd (show false = true from hs) Bool.false_ne_true
  | str i =>
    obtain ⟨t, rfl⟩ := rx
    cases y with
    | non => cases ry; exact PySem.EqNone.eq_str_none (fin_bl I q (by simp))
    | bl j => cases ry; exact PySem.EqMixed.eq_str_bool (fin_bl I q (by simp))
    | int j => obtain ⟨t', rfl⟩ := ry; exact PySem.EqMixed.eq_str_int (fin_bl I q (by simp))
    | str j => obtain ⟨t', rfl⟩ := ry; exact eq_str (fin_bl I q dec_str)
    | _ => exact absurd (show false = true from hs) Bool.false_ne_true
  | byt i =>
    obtain ⟨t, rfl⟩ := rx
    cases y with
    | byt j => obtain ⟨t', rfl⟩ := ry; exact PySem.W.eq_bytes (fin_bl I q dec_byt)
    | _ => exact absurd (show false = true from hs) Bool.false_ne_true
  | _ => cases y <;> exact absurd (show false = true from hs) Bool.false_ne_true
theorem op_ne : OpR X (compareOp .NotEq) rNe := by
  intro pins s σ H x y v u Q I rx ry h
  obtain ⟨hs, q⟩ := h
  cases x with
  | non =>
    cases rx
    cases y with
    | non => cases ry; exact PySem.EqNone.ne_none_none (fin_bl I q (by simp))
    | bl j => cases ry; exact PySem.EqNone.ne_none_bool (fin_bl I q (by simp))
    | int j => obtain ⟨t', rfl⟩ := ry; exact PySem.EqNone.ne_none_int (fin_bl I q (by simp))
    | str j => obtain ⟨t', rfl⟩ := ry; exact PySem.EqNone.ne_none_str (fin_bl I q (by simp))
    | _ => exact absurd (show false = true from hs) Bool.false_ne_true
  | bl i =>
    cases rx
    cases y with
    | non => cases ry; exact PySem.EqNone.ne_bool_none (fin_bl I q (by simp))
    | bl j => cases ry; exact ne_bool (fin_bl I q (congrArg not dec_bl))
    | str j => obtain ⟨t', rfl⟩ := ry; exact PySem.EqMixed.ne_bool_str (fin_bl I q (by simp))
    | _ => exact absurd (show false = true from hs) Bool.false_ne_true
  | int i =>
    obtain ⟨t, rfl⟩ := rx
    cases y with
    | non => cases ry; exact PySem.EqNone.ne_int_none (fin_bl I q (by simp))
    | int j => obtain ⟨t', rfl⟩ := ry; exact ne_int (fin_bl I q (congrArg not dec_int))
    | str j => obtain ⟨t', rfl⟩ := ry; exact PySem.EqMixed.ne_int_str (fin_bl I q (by simp))
    | _ => exact absurd (show false = true from hs) Bool.false_ne_true
  | str i =>
    obtain ⟨t, rfl⟩ := rx
    cases y with
    | non => cases ry; exact PySem.EqNone.ne_str_none (fin_bl I q (by simp))
    | bl j => cases ry; exact PySem.EqMixed.ne_str_bool (fin_bl I q (by simp))
    | int j => obtain ⟨t', rfl⟩ := ry; exact PySem.EqMixed.ne_str_int (fin_bl I q (by simp))
    | str j => obtain ⟨t', rfl⟩ := ry; exact ne_str (fin_bl I q (congrArg not dec_str))
    | _ => exact absurd (show false = true from hs) Bool.false_ne_true
  | byt i =>
    obtain ⟨t, rfl⟩ := rx
    cases y with
    | byt j => obtain ⟨t', rfl⟩ := ry; exact PySem.W.ne_bytes (fin_bl I q (congrArg not dec_byt))
    | _ => exact absurd (show false = true from hs) Bool.false_ne_true
  | _ => cases y <;> exact absurd (show false = true from hs) Bool.false_ne_true

theorem op_lt : OpR X (compareOp .Lt) (rI0 fun i j => .bl (decide (i < j))) := opB0 fun _ _ _ _ _ _ _ q => lt_int q
theorem op_gt : OpR X (compareOp .Gt) (rI0 fun i j => .bl (decide (j < i))) := opB0 fun _ _ _ _ _ _ _ q => gt_int q
/-- is None, is not None: the right side a value none -/
theorem op_isN : OpR X (compareOp .Is) (fun x y H Q => y = .non ∧ Q (.bl (decide (x = .non))) H) := by
  intro pins s σ H x y v u Q I rx ry h
  obtain ⟨rfl, q⟩ := h
  cases ry
  refine is_none_gen (fin_bl I q ?_)
  cases x <;> first
    | (cases rx; rfl)
    | (obtain ⟨t, rfl⟩ := rx; rfl)
/-- two rules for one operation: by cases -/
theorem OpR.or {f : Value → Value → Sem Value} {r r' : R2} (h : OpR X f r) (h' : OpR X f r') : OpR X f (fun x y H Q => r x y H Q ∨ r' x y H Q) := by
  intro pins s σ H x y v u Q I rx ry q
  rcases q with q | q
  · exact h pins s σ H x y v u Q I rx ry q
  · exact h' pins s σ H x y v u Q I rx ry q

theorem nomark (b : Expr) {op : CmpOp} (h : op ≠ .In := by decide) (h2 : op ≠ .NotIn := by decide) : behindInMarks op b = false := by
  have e1 : (op == CmpOp.In) = false := by cases op <;> first | rfl | exact absurd rfl h
  have e2 : (op == CmpOp.NotIn) = false := by cases op <;> first | rfl | exact absurd rfl h2
  cases b <;> simp [behindInMarks, e1, e2]
/-- a comparison as a value; hm: nomark b, or (for in, not in) by with_unfolding_all rfl -/
theorem pe_cmpR {op : CmpOp} {r : R2} (ho : OpR X (compareOp op) r) (ha : PE X a ta) (hb : PE X b tb) (hm : behindInMarks op b = false) : PE X (.Compare a [op] [b] pos) (tOp r ta tb) := by
  intro pins s σ H Q I h
  exact wpAny_Compare1 (binT ha hb I h fun v u s2 x y H2 I2 rx ry q => ho pins s2 σ H2 x y v u Q I2 rx ry q) hm
/-- a reading of a value as a test -/
def tTest (t : TE) : TT := fun σ H Q => t σ H fun x H' => ∃ k, x = .bl k ∧ Q k H'
theorem pt_cmpR {op : CmpOp} {r : R2} (ho : OpR X (compareOp op) r) (ha : PE X a ta) (hb : PE X b tb) (hm : behindInMarks op b = false) : PT X (.Compare a [op] [b] pos) (tTest (tOp r ta tb)) := by
  intro pins s σ H Q I h
  refine wpAny_isTrue_Compare1 (thn (ha pins s σ H _ I h) fun v s1 ⟨x, H1, I1, r1, q1⟩ => thn (hb pins s1 σ H1 _ I1 q1) fun u s2 ⟨y, H2, I2, r2, q2⟩ =>
    thn (ho pins s2 σ H2 x y v u _ I2 r1 r2 q2) fun c s3 ⟨z, H3, I3, r3, k, e, q3⟩ => ?_) hm
  subst e
  cases r3
  exact wpAny_truthy_bool ⟨H3, I3, q3⟩
/-- a op1 b op2 c -/
def tChain (r r' : R2) (ta tb tc : TE) : TE := fun σ H Q => ta σ H fun x H1 => tb σ H1 fun y H2 => r x y H2 fun z H3 => ∃ k, z = .bl k ∧
  (if k = true then tc σ H3 fun w' H4 => r' y w' H4 Q else Q (.bl false) H3)
theorem pe_chain {op op' : CmpOp} {r r' : R2} (ho : OpR X (compareOp op) r) (ho' : OpR X (compareOp op') r') (ha : PE X a ta) (hb : PE X b tb) (hc : PE X c tc)
    (hm : lastMarks [op, op'] [b, c] = false := by with_unfolding_all rfl) : PE X (.Compare a [op, op'] [b, c] pos) (tChain r r' ta tb tc) := by
  intro pins s σ H Q I h
  refine Compare_chain (thn (ha pins s σ H _ I h) fun v s1 ⟨x, H1, I1, r1, q1⟩ => chain_link (thn (hb pins s1 σ H1 _ I1 q1) fun u s2 ⟨y, H2, I2, r2, q2⟩ =>
    thn (ho pins s2 σ H2 x y v u _ I2 r1 r2 q2) fun d s3 ⟨z, H3, I3, r3, k, e, q3⟩ => ?_)) hm
  subst e
  cases r3
  refine wpAny_truthy_bool ?_
  cases k with
  | false => exact ite_ff ⟨.bl false, H3, I3, rfl, q3⟩
  | true => exact ite_tt (chain_last (thn (hc pins s3 σ H3 _ I3 q3) fun w' s4 ⟨z', H4, I4, r4, q4⟩ => ho' pins s4 σ H4 y z' u w' Q I4 r2 r4 q4))
/-! ### truth -/
theorem line63 : (sizeLine : Nat) < 2 ^ 63 := by rw [sizeLine_eq]; decide
/-! ### strs and bytes -/
theorem op_add_str : OpR X (binaryOp .Add) (fun x y H Q => ∃ i j, x = .str i ∧ y = .str j ∧ i.length + j.length ≤ sizeLine ∧ Q (.str (i ++ j)) H) := by
  intro pins s σ H x y v u Q I rx ry h
  obtain ⟨i, j, rfl, rfl, hz, q⟩ := h
  obtain ⟨t, rfl⟩ := rx
  obtain ⟨t', rfl⟩ := ry
  exact add_str (fun t' tk => ⟨.str (i ++ j), H, I.tok _, ⟨_, rfl⟩, q⟩) hz
/-! ### scalar builtins, by CallR -/
theorem vals1 {x : V} {us : List Value} (r : Vals [x] us) : ∃ u, us = [u] ∧ RelV x u := by
  cases r with
  | cons r1 r2 => cases r2; exact ⟨_, rfl, r1⟩
theorem vals2 {x y : V} {us : List Value} (r : Vals [x, y] us) : ∃ u w', us = [u, w'] ∧ RelV x u ∧ RelV y w' := by
  cases r with
  | cons r1 r2 =>
    cases r2 with
    | cons r3 r4 => cases r4; exact ⟨_, _, rfl, r1, r3⟩
theorem call_max2 (hc : X.calm = true) : CallR X (.builtin "max") (fun xs H Q => ∃ i j, xs = [.int i, .int j] ∧ Q (.int (if j > i then j else i)) H) := by
  intro pins s σ H xs us Q I r h
  obtain ⟨i, j, rfl, q⟩ := h
  obtain ⟨u, w', rfl, ⟨t, rfl⟩, ⟨t', rfl⟩⟩ := vals2 r
  refine max_two_ints (I.ok.hd hc) fun h' tk k => ⟨_, H, I.kept k, ?_, q⟩
  by_cases hj : j > i
  · rw [if_pos hj, if_pos hj]; exact ⟨_, rfl⟩
  · rw [if_neg hj, if_neg hj]; exact ⟨_, rfl⟩
theorem call_int1 : CallR X (.type "int") (fun xs H Q => (∃ i, xs = [.int i] ∧ Q (.int i) H) ∨ ∃ k, xs = [.bl k] ∧ Q (.int (if k then 1 else 0)) H) := by
  intro pins s σ H xs us Q I r h
  rcases h with ⟨i, rfl, q⟩ | ⟨k, rfl, q⟩
  · obtain ⟨u, rfl, t, rfl⟩ := vals1 r
    exact call_int_int ⟨.int i, H, I, ⟨_, rfl⟩, q⟩
  · obtain ⟨u, rfl, r1⟩ := vals1 r
    cases r1
    exact call_int_bool ⟨.int (if k then 1 else 0), H, I.tok _, ⟨_, rfl⟩, q⟩
end
end L2

namespace L2
open PySem PySem.Spec PyProof.Rows

/-! ### an instance, its attributes a map -/
structure ObjM (h : Heap) (x dx C : Addr) (mA : Str → Option Value) : Prop where
  obj : h.get? x = some (PySem.W.instObj C dx)
  ns : h.Ns1 dx mA
  ne : dx ≠ x

theorem lookIn_ns {h : Heap} {dx : Addr} {mA : Str → Option Value} (n : h.Ns1 dx mA) : ∃ od, h.get? dx = some od ∧ ∀ name, PySem.W.lookIn name od = some (mA name) := by
  obtain ⟨o, es, ep, ho, hd, hk, _, hm⟩ := n
  refine ⟨o, ho, fun name => ?_⟩
  have e := hm name
  unfold nsFind findBy at e
  rw [← Array.find?_toList] at e
  unfold PySem.W.lookIn
  rw [hd]
  dsimp only
  split
  · rename_i y q
    rw [q] at e
    exact congrArg some e
  · rename_i q
    rw [q] at e
    have a : es.toList.any (·.refKey) = false := by
      rw [List.any_eq_false]
      intro y hy
      obtain ⟨z, t, hkey⟩ := hk y (Array.mem_toList_iff.mp hy)
      simp [DictEntry.refKey, hkey]
    have a' : ¬ es.toList.any (·.refKey) = true := by rw [a]; exact Bool.false_ne_true
    rw [if_neg a']
    exact congrArg some e

theorem ObjM.look {h : Heap} {x dx C : Addr} {mA : Str → Option Value} (I : ObjM h x dx C mA) : ∃ od, PySem.W.InstAt h x (PySem.W.instObj C dx) C (some od) ∧ ∀ name, PySem.W.lookIn name od = some (mA name) :=
  let ⟨od, ho, hl⟩ := lookIn_ns I.ns
  ⟨od, ⟨I.obj, rfl, rfl, ho⟩, hl⟩

section
variable {prog : Program} {w : World} {A : Around} {E : Value → Shared → Prop} {s : Shared} {K : PySem.W.Frag} {x dx C f : Addr} {mA : Str → Option Value} {name : Str} {v : Value}

theorem get_map {expr : Bool} {Q : Value → Shared → Prop} (X : K.In s.heap) (I : ObjM s.heap x dx C mA) (hg : PySem.W.plainGet K C name = true) (hh : PySem.W.hasDictIn K C = true)
    (ha : PySem.W.findIn K (.ref C) name = some none) (hv : mA name = some v) (hv' : PySem.W.handedIn v = true) (h : Q v { s with toks := s.toks + 1 }) :
    wpAny (model prog w) A (getAttr (.ref x) name expr) Q E s := by
  obtain ⟨od, J, hl⟩ := I.look
  exact PySem.W.get_value X J (PySem.W.plainGet_of hg).1 (PySem.W.findObj_own hh ha rfl (by rw [hl, hv])) hv' h

theorem get_meth {pl : Sem Bool} {Q : Value × List Value → Shared → Prop} (X : K.In s.heap) (I : ObjM s.heap x dx C mA) (hg : PySem.W.plainGet K C name = true)
    (hf : PySem.W.findIn K (.ref C) name = some (some (.ref f))) (ht : PySem.W.isFn K (.ref f) = true) (hv : mA name = none) (h : Q (.ref f, [.ref x]) s) :
    wpAny (model prog w) A (getMethod (.ref x) name pl) Q E s := by
  obtain ⟨od, J, hl⟩ := I.look
  exact PySem.W.method_fn X J (PySem.W.plainGet_of hg).1 (PySem.W.plainGet_of hg).2 hf (beq_iff_eq.mp ht) (by show (PySem.W.lookIn name od).map (·.isSome) = some false; rw [hl, hv]; rfl) h

theorem set_map {ns : List Str} {Q : Unit → Shared → Prop} (X : K.In s.heap) (I : ObjM s.heap x dx C mA)
    (hs : PySem.W.findIn K (.ref C) "__setattr__" = some (some (.builtin "object.__setattr__"))) (hp : PySem.W.plainOver K C = true) (ht : PySem.W.takerIn K C name = some none) (hh : PySem.W.hasDictIn K C = true)
    (hw : PySem.Within mA ns) (hsz : ns.length ≤ sizeLine)
    (h : ∀ h', ObjM h' x dx C (fun y => if y = name then some v else mA y) → Heap.SameBut dx s.heap h' → Q () { s with heap := h', toks := s.toks + 2 }) :
    wpAny (model prog w) A (setAttr (.ref x) name v) Q E s := by
  obtain ⟨od, J, hl⟩ := I.look
  refine PySem.W.set_plain X J hs (PySem.W.osa_open (s := { s with toks := s.toks + 1 }) (r := none) X J hp ht fun b => ?_)
  obtain ⟨cd, hc, hd'⟩ := PySem.W.any_some hh
  have hx : s.heap.get? x = some ⟨.ref C, some dx, .plain, #[]⟩ := I.obj
  refine wpAny_bind (wpAny_pure (wpAny_bind (wpAny_bind (wpAny_loadPart hx (wpAny_bind (PySem.W.Looks.here (s := { s with toks := s.toks + 1 }) (PySem.W.looks_clsIn X hc) ?_))))))
  rw [hd']
  refine wpAny_pure (a := some dx) (wpAny_bind (wpAny_pure (wpAny_bind ?_)))
  refine wpAny_nsSet1 (s := { s with toks := s.toks + 1 }) I.ns fun h' hn2 hs2 => ?_
  obtain ⟨oD, esD, epD, hoD, hdD, hcD⟩ := hn2.count (PySem.Within.cons name v hw)
  refine wpAny_bind (wpAny_lookBehind hoD (by rw [hdD]; exact pastItsLine_dict (Nat.le_trans hcD (by rw [List.length_cons]; omega))) ?_)
  exact wpAny_pure (h _ ⟨(hs2.2 _ (Ne.symm I.ne)).trans I.obj, hn2, I.ne⟩ hs2)

/-- C(..): the dict at the heap's end, the instance behind it; then its __init__ -/
theorem make_map {R : Result → Shared → Prop} {vs : List Value} {kw : List (Str × Value)} (X : K.In s.heap) (hm : PySem.W.makesIn K C = true)
    (hi : PySem.W.findIn K (.ref C) "__init__" = some (some (.ref f))) (hf : PySem.W.typeIn K (.ref f) = some (.type "function"))
    (h : codeAny (model prog w) (A.under (.builtin "type.__call__" ⟨.ref C :: vs, kw⟩)) (.call (.ref f) ⟨.ref (s.heap.objs.size + 1) :: vs, kw⟩) (PySem.W.InitBack (s.heap.objs.size + 1) R)
      { s with heap := (s.heap.push PySem.W.emptyDict).push (PySem.W.instObj C s.heap.objs.size) }) :
    codeAny (model prog w) A (.call (.ref C) ⟨vs, kw⟩) R s := by
  obtain ⟨hh, g, d, t, os⟩ := s
  exact PySem.W.make_core (PySem.W.makes_of X hm) (PySem.W.looks_findIn X hi) (fun self => PySem.W.bind_fn X self hf) (.inl rfl) h
end

/-! ### the attributes as a list of pairs -/
def putF (f : Str) (v : V) : List (Str × V) → List (Str × V)
  | [] => [(f, v)]
  | (g, x) :: r => if g = f then (g, v) :: r else (g, x) :: putF f v r
theorem lookup_putF (f g : Str) (v : V) : ∀ fs : List (Str × V), (putF f v fs).lookup g = if g = f then some v else fs.lookup g
  | [] => by
    show List.lookup g [(f, v)] = _
    by_cases h : g = f
    · have hb : (g == f) = true := beq_iff_eq.mpr h
      simp only [List.lookup, hb, if_pos h]
    · have hb : (g == f) = false := beq_eq_false_iff_ne.mpr h
      simp only [List.lookup, hb, if_neg h]
  | (k, x) :: r => by
    have ih := lookup_putF f g v r
    rw [show putF f v ((k, x) :: r) = (if k = f then (k, v) :: r else (k, x) :: putF f v r) from rfl]
    by_cases hk : k = f
    · rw [if_pos hk]
      by_cases h : g = k
      · have hb : (g == k) = true := beq_iff_eq.mpr h
        simp only [List.lookup, hb, if_pos (h.trans hk)]
      · have hb : (g == k) = false := beq_eq_false_iff_ne.mpr h
        simp only [List.lookup, hb, if_neg (fun e : g = f => h (e.trans hk.symm))]
    · rw [if_neg hk]
      by_cases h : g = k
      · have hb : (g == k) = true := beq_iff_eq.mpr h
        simp only [List.lookup, hb, if_neg (fun e : g = f => hk (h.symm.trans e))]
      · have hb : (g == k) = false := beq_eq_false_iff_ne.mpr h
        simp only [List.lookup, hb]
        exact ih
theorem keys_putF (f : Str) (v : V) : ∀ fs : List (Str × V), f ∈ (putF f v fs).map (·.1) ∧ ∀ g, g ∈ fs.map (·.1) → g ∈ (putF f v fs).map (·.1)
  | [] => ⟨by simp [putF], fun g h => by simp at h⟩
  | (k, x) :: r => by
    obtain ⟨i1, i2⟩ := keys_putF f v r
    rw [show putF f v ((k, x) :: r) = (if k = f then (k, v) :: r else (k, x) :: putF f v r) from rfl]
    by_cases hk : k = f
    · rw [if_pos hk]
      subst hk
      exact ⟨by simp, fun g h => by simpa using h⟩
    · rw [if_neg hk]
      refine ⟨?_, fun g h => ?_⟩
      · rw [List.map_cons]
        exact List.mem_cons_of_mem _ i1
      · rw [List.map_cons] at h ⊢
        rcases List.mem_cons.mp h with e | e
        · exact List.mem_cons.mpr (.inl e)
        · exact List.mem_cons_of_mem _ (i2 g e)
theorem length_putF (f : Str) (v : V) : ∀ fs : List (Str × V), (putF f v fs).length ≤ fs.length + 1
  | [] => by simp [putF]
  | (k, x) :: r => by
    have ih := length_putF f v r
    rw [show putF f v ((k, x) :: r) = (if k = f then (k, v) :: r else (k, x) :: putF f v r) from rfl]
    by_cases hk : k = f
    · rw [if_pos hk, List.length_cons, List.length_cons]; omega
    · rw [if_neg hk, List.length_cons, List.length_cons]; omega

theorem RelO.some_of {v : V} {o : Option Value} (r : RelO (some v) o) : ∃ u, o = some u ∧ RelV v u := by
  cases o with
  | none => exact (show False from r).elim
  | some u => exact ⟨u, rfl, r⟩
theorem RelO.none_of {o : Option Value} (r : RelO none o) : o = none := by
  cases o with
  | none => rfl
  | some u => exact (show False from r).elim
theorem handed_of {v : V} {u : Value} (r : RelV v u) : PySem.W.handedIn u = true := by
  cases v with
  | non => cases (show u = Value.none from r); rfl
  | bl b => cases (show u = Value.bool b from r); rfl
  | int i => obtain ⟨t, e⟩ := (show ∃ t, u = Value.int i t from r); cases e; rfl
  | str x => obtain ⟨t, e⟩ := (show ∃ t, u = Value.str x t from r); cases e; rfl
  | byt b => obtain ⟨t, e⟩ := (show ∃ t, u = Value.bytes b t from r); cases e; rfl
  | flt b => obtain ⟨t, e⟩ := (show ∃ t, u = Value.float b t from r); cases e; rfl
  | ref a => cases (show u = Value.ref a from r); rfl
  | ty n => cases (show u = Value.type n from r); rfl

section
variable {P : Program} {w : World} {H H' : Hp} {h h' : Heap} {a C dx : Addr} {fs fs' : List (Str × V)}
theorem ins_get (hok : HOk P w H h) (e : H a = some (.ins C dx fs)) : ∃ mA, ObjM h a dx C mA ∧ (∀ f, RelO (fs.lookup f) (mA f)) ∧ PySem.Within mA (fs.map (·.1)) ∧ fs.length ≤ 1000 ∧ H dx = some (.own a) := by
  obtain ⟨d, z, ne, ob, mA, n, r, q⟩ := (show ObjOk P w H h a (.ins C dx fs) from hok a _ e)
  exact ⟨mA, ⟨ob, n, ne⟩, r, q, z, d⟩
end

/-! ### what of the text a class must have -/
structure Cls (K : PySem.W.Frag) (C : Addr) : Prop where
  pg : PySem.W.plainGet K C Str.empty = true
  hd : PySem.W.hasDictIn K C = true
  po : PySem.W.plainOver K C = true
  sa : PySem.W.findIn K (.ref C) "__setattr__" = some (some (.builtin "object.__setattr__"))
theorem Cls.get {K : PySem.W.Frag} {C : Addr} (c : Cls K C) (f : Str) : PySem.W.plainGet K C f = true := c.pg
/-- no class of it has the name -/
def NoAttr (K : PySem.W.Frag) (C : Addr) (f : Str) : Prop := PySem.W.findIn K (.ref C) f = some none
theorem NoAttr.taker {K : PySem.W.Frag} {C : Addr} {f : Str} (n : NoAttr K C f) : PySem.W.takerIn K C f = some none := by
  unfold PySem.W.takerIn
  rw [show PySem.W.findIn K (.ref C) f = some none from n]
  rfl
/-- a constant of the class -/
structure Con (K : PySem.W.Frag) (C : Addr) (f : Str) (v : V) (u : Value) : Prop where
  at_ : PySem.W.findIn K (.ref C) f = some (some u)
  rel : RelV v u
  get : PySem.W.specialIn K u "__get__" = some none
  cp : PySem.W.copiedNames.contains f = false
/-- a method: a plain def of the class or of one above it -/
structure Meth (K : PySem.W.Frag) (C : Addr) (m : Str) (f : Addr) : Prop where
  at_ : PySem.W.findIn K (.ref C) m = some (some (.ref f))
  fn : PySem.W.isFn K (.ref f) = true
  kp : PySem.W.keepIn K (.ref f) = true

section
variable {X : Cx} {pins : List (Addr × Obj)} {σ : St} {H : Hp} {s : Shared} {a C dx : Addr} {fs : List (Str × V)} {f : Str} {v : V} {A : Around} {E : Value → Shared → Prop}

theorem getattr_ok {b : Bool} {Q : Value → Shared → Prop} (I : Inv X pins σ H s) (e : H a = some (.ins C dx fs)) (c : Cls X.K C) (n : NoAttr X.K C f) (l : fs.lookup f = some v)
    (h : ∀ u s', Inv X pins σ H s' → RelV v u → Q u s') : wpAny (model X.prog X.w) A (getAttr (.ref a) f b) Q E s := by
  obtain ⟨mA, O, r, _, _, _⟩ := ins_get I.hok e
  obtain ⟨u, hu, ru⟩ := RelO.some_of (v := v) (o := mA f) (by rw [← l]; exact r f)
  exact get_map I.kIn O (c.get f) c.hd n hu (handed_of ru) (h u _ (I.tok _) ru)

theorem getmeth_ok {m : Str} {g : Addr} {pl : Sem Bool} {Q : Value × List Value → Shared → Prop} (I : Inv X pins σ H s) (e : H a = some (.ins C dx fs)) (c : Cls X.K C) (k : Meth X.K C m g) (l : fs.lookup m = none)
    (h : Q (.ref g, [.ref a]) s) : wpAny (model X.prog X.w) A (getMethod (.ref a) m pl) Q E s := by
  obtain ⟨mA, O, r, _, _, _⟩ := ins_get I.hok e
  have hn : mA m = none := RelO.none_of (by rw [← l]; exact r m)
  exact get_meth I.kIn O (c.get m) k.at_ k.fn hn h

theorem setattr_ok {y : V} {u : Value} {Q : Unit → Shared → Prop} (I : Inv X pins σ H s) (e : H a = some (.ins C dx fs)) (c : Cls X.K C) (n : NoAttr X.K C f) (hl : fs.length < 1000) (ry : RelV y u)
    (h : ∀ s', Inv X pins σ (upd H a (.ins C dx (putF f y fs))) s' → Q () s') : wpAny (model X.prog X.w) A (setAttr (.ref a) f u) Q E s := by
  obtain ⟨mA, O, r, wi, _, ho⟩ := ins_get I.hok e
  have hz : (fs.map (·.1)).length ≤ sizeLine := by rw [List.length_map, sizeLine_eq]; omega
  refine set_map I.kIn O c.sa c.po n.taker c.hd wi hz fun h' O' sb => h _ ?_
  have hd : ∃ o, h'.get? dx = some o := let ⟨o, _, _, e', _⟩ := O'.ns; ⟨o, e'⟩
  refine I.write (x := a) (e := dx) (by rw [e]; exact True.intro) (.inr ho) (fun b q hb z => (sb.2 b hb).trans z) hd ?_
  refine ⟨by rw [upd_ne O.ne]; exact ho, ?_, O.ne, O'.obj, _, O'.ns, fun g => ?_, fun g hg => ?_⟩
  · have := length_putF f y fs; omega
  · show RelO ((putF f y fs).lookup g) (if g = f then some u else mA g)
    rw [lookup_putF]
    by_cases q : g = f
    · rw [if_pos q, if_pos q]; exact ry
    · rw [if_neg q, if_neg q]; exact r g
  · by_cases q : g = f
    · rw [q]; exact (keys_putF f y fs).1
    · refine (keys_putF f y fs).2 g (wi g fun z => hg ?_)
      show (if g = f then some u else mA g) = none
      rw [if_neg q]; exact z

/-- a new instance, tracked, without attributes -/
theorem Inv.made (I : Inv X pins σ H s) : Inv X pins σ (upd (upd H s.heap.objs.size (.own (s.heap.objs.size + 1))) (s.heap.objs.size + 1) (.ins C s.heap.objs.size []))
    { s with heap := (s.heap.push PySem.W.emptyDict).push (PySem.W.instObj C s.heap.objs.size) } := by
  have e1 : (s.heap.push PySem.W.emptyDict).get? s.heap.objs.size = some PySem.W.emptyDict := Heap.get?_push_size s.heap rfl
  have e2 : ((s.heap.push PySem.W.emptyDict).push (PySem.W.instObj C s.heap.objs.size)).get? (s.heap.objs.size + 1) = some (PySem.W.instObj C s.heap.objs.size) := by
    have := Heap.get?_push_size (s.heap.push PySem.W.emptyDict) (o := PySem.W.instObj C s.heap.objs.size) rfl
    rwa [Heap.size_push] at this
  have e3 : (s.heap.push PySem.W.emptyDict).Ns s.heap.objs.size (fun _ => none) := ⟨PySem.W.emptyDict, #[], _, e1, rfl, (fun e he => absurd he (by simp)), fun _ => rfl⟩
  have I1 := I.laid (a := s.heap.objs.size) (o := .own (s.heap.objs.size + 1)) (h' := s.heap.push PySem.W.emptyDict) (t' := s.toks) (fun b u q => Heap.get?_push_of_some _ q) (Nat.le_refl _) ⟨_, e1⟩
  refine I1.laid (a := s.heap.objs.size + 1) (o := .ins C s.heap.objs.size []) (t' := s.toks) (fun b u q => Heap.get?_push_of_some _ q) (Nat.le_of_eq (Heap.size_push _ _)) ?_
  have ne : s.heap.objs.size ≠ s.heap.objs.size + 1 := Nat.ne_of_lt (Nat.lt_succ_self _)
  refine ⟨by rw [upd_ne ne, upd_same], Nat.zero_le _, ne, e2, fun _ => none, (Heap.Ns1.of_empty e3).at fun o q => Heap.get?_push_of_some _ q, fun _ => True.intro, fun y hy => absurd rfl hy⟩

/-- e.f where nothing but the object is asked: through attributeBase (super) and the last hold -/
theorem attr_of {prog : Program} {w : World} {env : Env} {e : Expr} {f : Str} {pos : Pos} {s : Shared} {Q : Value → Shared → Prop} (hb : attributeBase e f env (eval e env) = eval e env)
    (h : wpAny (model prog w) A (eval e env) (fun o s₁ => wpAny (model prog w) A (getAttr o f true) Q E s₁) E s) : wpAny (model prog w) A (eval (.Attribute e f pos) env) Q E s :=
  Attribute_any_ h (by rw [arm_eval_Attribute, hb])
end

/-! ### readings and rules -/
/-- e.f, an attribute of the instance -/
def tFld (K : PySem.W.Frag) (ta : TE) (f : Str) : TE := fun σ H Q => ta σ H fun x H1 => ∃ a C dx fs v, x = .ref a ∧ H1 a = some (.ins C dx fs) ∧ Cls K C ∧ NoAttr K C f ∧ fs.lookup f = some v ∧ Q v H1
/-- e.f = value -/
def sFld (K : PySem.W.Frag) (ta tv : TE) (f : Str) : TS := fun D σ H => tv σ H fun y H1 => ta σ H1 fun x H2 => ∃ a C dx fs, x = .ref a ∧ H2 a = some (.ins C dx fs) ∧ Cls K C ∧ NoAttr K C f ∧ fs.length < 1000 ∧
  D.nx σ (upd H2 a (.ins C dx (putF f y fs)))
section
variable {X : Cx} {o e value : Expr} {f : Str} {pos pos' tpos : Pos} {ta tv : TE}
theorem pe_fld (he : PE X e ta) (hb : attributeBase e f X.env (eval e X.env) = eval e X.env) : PE X (.Attribute e f pos) (tFld X.K ta f) := by
  intro pins s σ H Q I h
  refine attr_of hb (thn (he pins s σ H _ I h) fun u s1 ⟨x, H1, I1, rx, a, C, dx, fs, v, ex, ea, c, n, l, q⟩ => ?_)
  subst ex
  obtain rfl : u = Value.ref a := rx
  exact getattr_ok I1 ea c n l fun u' s2 I2 ru => ⟨v, H1, I2, ru, q⟩
theorem ps_fld (ha : PE X o ta) (hv : PE X value tv) (hs : swapsWith value (some (.Attribute o f pos')) pos.line X.env = pure false) : PS X (.Assign [.Attribute o f pos'] value pos) (sFld X.K ta tv f) := by
  intro pins s σ H D I h
  refine plainObj_wpAny_Assign_Attribute (thn (hv pins s σ H _ I h) fun u s1 ⟨y, H1, I1, ry, q⟩ => thn (ha pins s1 σ H1 _ I1 q) fun ov s2 ⟨x, H2, I2, rx, a, C, dx, fs, ex, ea, c, n, l, q2⟩ => ?_) hs
  subst ex
  obtain rfl : ov = Value.ref a := rx
  exact setattr_ok I2 ea c n l ry fun s3 I3 => ⟨σ, _, I3, q2⟩
end

/-! ### isinstance -/
section
variable {X : Cx} {pins : List (Addr × Obj)} {σ : St} {H : Hp} {s : Shared} {A : Around} {E : Value → Shared → Prop} {Q : Value → Shared → Prop} {c : Value} {b : Bool}
/-- the type of a value, as the fragment's deciders take it; for an instance its class -/
inductive TyOf (K : PySem.W.Frag) (H : Hp) : V → Value → Prop where
  | non : TyOf K H .non (.type "NoneType")
  | bl (x : Bool) : TyOf K H (.bl x) (.type "bool")
  | int (i : Int) : TyOf K H (.int i) (.type "int")
  | str (x : Str) : TyOf K H (.str x) (.type "str")
  | flt (x : UInt64) : TyOf K H (.flt x) (.type "float")
  | lst {a : Addr} {xs : List V} (e : H a = some (.lst xs)) : TyOf K H (.ref a) (.type "list")
  | frz {a : Addr} {o : Obj} {xs : List V} (e : H a = some (.frz o (.lst xs))) : TyOf K H (.ref a) (.type "list")
  | tup {a : Addr} {xs : List V} (e : H a = some (.tup xs)) : TyOf K H (.ref a) (.type "tuple")
  | dK {a : Addr} {kvs : List (Key × V)} (e : H a = some (.dK kvs)) : TyOf K H (.ref a) (.type "dict")
  | dT {a : Addr} {kvs : List (List Key × V)} (e : H a = some (.dT kvs)) : TyOf K H (.ref a) (.type "dict")
  | ins {a C dx : Addr} {fs : List (Str × V)} (e : H a = some (.ins C dx fs)) (cl : Cls K C) (ha : PySem.W.findIn K (.ref C) "__class__" = some (some (.builtin "object.__class__")))
      (hn : PySem.W.specialIn K (.builtin "object.__class__") "__get__" = some (some (.builtin "getset_descriptor.__get__"))) (htk : PySem.W.takesIn K (.builtin "object.__class__") = some true)
      (hm : PySem.W.mroIn K C (.type "object") = some true) : TyOf K H (.ref a) (.ref C)
end
end L2

namespace L2
open PySem PySem.Spec PyProof.Rows

/-! ### room -/
structure Room (k : Nat) (A : Around) : Prop where
  hd : A.handled = none
  dp : A.depth + 3 * k + 5 < recursionLimit
  un : A.units + 16 * k + 200 < cLine
theorem Room.mono {j k : Nat} {A : Around} (r : Room k A) (h : j ≤ k) : Room j A := ⟨r.hd, by have := r.dp; omega, by have := r.un; omega⟩
theorem Room.deeper {k : Nat} {A : Around} (r : Room (k + 1) A) (env : Env) : Room k (A.deeper env) :=
  ⟨r.hd, by have := r.dp; show A.depth + 1 + 3 * k + 5 < _; omega, by have := r.un; show A.units + 3 + 16 * k + 200 < _; omega⟩
theorem Room.in1 {k : Nat} {A : Around} (r : Room (k + 1) A) : Room k A.in1 :=
  ⟨r.hd, by have := r.dp; show A.depth + 3 * k + 5 < _; omega, by have := r.un; show A.units + 1 + 16 * k + 200 < _; omega⟩
theorem make_depth {A : Around} {C : Addr} {us : List Value} {kw : List (Str × Value)} : (A.under (.builtin "type.__call__" ⟨.ref C :: us, kw⟩)).depth = A.depth + 1 := by
  first | rfl | simp [Around.under, Code.weight, Code.isCreation, Code.isGuard, Code.isCaller, Code.frames, Code.isFrame, guardIds]
theorem make_units {A : Around} {C : Addr} {us : List Value} {kw : List (Str × Value)} : (A.under (.builtin "type.__call__" ⟨.ref C :: us, kw⟩)).units = A.units + 1 := by
  first | rfl | simp [Around.under, Code.cUnits, Code.frames, Code.isFrame]
theorem Room.make {k : Nat} {A : Around} (r : Room (k + 1) A) (C : Addr) (us : List Value) (kw : List (Str × Value)) : Room k (A.under (.builtin "type.__call__" ⟨.ref C :: us, kw⟩)) :=
  ⟨r.hd, by have := r.dp; rw [make_depth]; omega, by have := r.un; rw [make_units]; omega⟩
theorem Room.depth {k : Nat} {A : Around} (r : Room k A) : A.depth < recursionLimit := by have := r.dp; omega
theorem Room.units {k : Nat} {A : Around} (r : Room k A) : A.units + 64 < cLine := by have := r.un; omega
/-! ### argument lists and displays -/
def tNil : TA := fun _ H Q => Q [] H
def tCons (ta : TE) (tr : TA) : TA := fun σ H Q => ta σ H fun x H1 => tr σ H1 fun xs H2 => Q (x :: xs) H2
section
variable {X : Cx} {e : Expr} {es : List Expr} {te : TE} {t : TA} {pos : Pos}
theorem pa_nil : PA X [] tNil := fun _ _ _ _ H Q I h => Calls.spliced_nil ⟨[], H, I, .nil, h⟩
theorem pa_cons (ha : PE X e te) (hr : PA X es t) (hs : starEach (e :: es) X.env = (false, eval e X.env) :: starEach es X.env := by rfl) : PA X (e :: es) (tCons te t) := by
  intro pos pins s σ H Q I h
  rw [hs]
  show wpAny _ _ (spliced ((false, eval e X.env) :: backTo pos (starEach es X.env))) _ _ s
  refine Calls.spliced_cons (thn (ha pins s σ H _ I h) fun u s1 ⟨x, H1, I1, r1, q1⟩ => ?_)
  exact thn (hr pos pins s1 σ H1 _ I1 q1) fun us s2 ⟨xs, H2, I2, r2, q2⟩ => ⟨x :: xs, H2, I2, .cons r1 r2, q2⟩

/-- a tuple, a list of written items -/
def tTup (t : TA) : TE := fun σ H Q => t σ H fun xs H1 => xs.length ≤ sizeLine ∧ ∀ p, H1 p = none → Q (.ref p) (upd H1 p (.tup xs))
def tLst (t : TA) : TE := fun σ H Q => t σ H fun xs H1 => xs.length ≤ sizeLine ∧ ∀ p, H1 p = none → Q (.ref p) (upd H1 p (.lst xs))
theorem pe_tup {x1} (h : PA X es t) : PE X (.Tuple es x1 pos) (tTup t) := by
  intro pins s σ H Q I hq
  refine wpAny_Tuple_spliced (thn (h pos pins s σ H _ I hq) fun us s1 ⟨xs, H1, I1, r, z, q⟩ => ⟨by rw [← r.length]; exact z, ?_⟩)
  have hf : H1 s1.heap.objs.size = none := I1.hok.fresh (Nat.le_refl _)
  refine ⟨.ref s1.heap.objs.size, upd H1 s1.heap.objs.size (.tup xs), I1.laid (t' := s1.toks) (fun b u e => Heap.get?_push_of_some _ e) (Nat.le_refl _) ?_, rfl, q _ hf⟩
  exact ⟨z, us, r, ⟨_, Heap.get?_push_size _ rfl, rfl, _, rfl⟩⟩
theorem pe_lst (h : PA X es t) : PE X (.List es pos) (tLst t) := by
  intro pins s σ H Q I hq
  refine wpAny_List_spliced (thn (h pos pins s σ H _ I hq) fun us s1 ⟨xs, H1, I1, r, z, q⟩ => ⟨by rw [← r.length]; exact z, ?_⟩)
  have hf : H1 s1.heap.objs.size = none := I1.hok.fresh (Nat.le_refl _)
  refine ⟨.ref s1.heap.objs.size, upd H1 s1.heap.objs.size (.lst xs), I1.laid (t' := s1.toks) (fun b u e => Heap.get?_push_of_some _ e) (Nat.le_refl _) ?_, rfl, q _ hf⟩
  exact ⟨z, us, 0, r, Heap.get?_push_size _ rfl⟩
end

/-! ### what a def promises -/
/-- a def's promise: the bound arguments in the parameters' order, the heap, the wanted end, the wanted exception -/
abbrev Sp := List V → Hp → VK → XK → Prop
/-- how an exception lies behind a call (file 08 gives it): the callers' frames, abstract heap and state ahead of the call, the wish, the exception, the state -/
abbrev CXT := List Env → Hp → Shared → XK → Value → Shared → Prop

/-- the state at a call -/
structure Env0 (P : Program) (w : World) (K : PySem.W.Frag) (mg : Str → Option Value) (base : Heap) (A : Around) (outer : List Env) (s : Shared) (H : Hp) : Prop where
  frames : A.frames = some outer
  mod : Mod K mg base
  bs : ∀ b o, base.get? b = some o → s.heap.get? b = some o ∧ H b = none
  bsz : base.objs.size ≤ s.heap.objs.size
  funs : s.heap.FunFrames base outer
  frf : ∀ b ∈ frs outer, H b = none
  hok : HOk P w H s.heap
  bare : AllBare s.gens
/-- a call's end -/
def CE (outer : List Env) (P : Program) (w : World) (H : Hp) (s : Shared) (Q : VK) (u : Value) (s' : Shared) : Prop :=
  ∃ v H', s'.os = s.os ∧ AllBare s'.gens ∧ Un (frs outer) [] H H' s.heap s'.heap ∧ HOk P w H' s'.heap ∧ RelV v u ∧ Q v H'
def CR (CX : CXT) (outer : List Env) (P : Program) (w : World) (H : Hp) (s : Shared) (Q : VK) (E : XK) (r : Result) (s' : Shared) : Prop :=
  match r with
  | .ok (.ret u) => CE outer P w H s Q u s'
  | .ok _ => False
  | .error e => CX outer H s E e s'
structure FnOk (P : Program) (w : World) (K : PySem.W.Frag) (mg : Str → Option Value) (base : Heap) (CX : CXT) (k : Nat) (f : Addr) (fd : FuncData) (ps : List Str) (sp : Sp) : Prop where
  len : ∀ vs H Q E, sp vs H Q E → vs.length = ps.length
  run : ∀ (A : Around) (outer : List Env) (s : Shared) (H : Hp) (args : Args) (us : List Value) (vs : List V) (Q : VK) (E : XK), Room k A → Env0 P w K mg base A outer s H → BindsTo s fd args (ps.zip us) → Vals vs us → sp vs H Q E →
    codeAny (model P w) A (.call (.ref f) args) (CR CX outer P w H s Q E) s
theorem FnOk.mono {P : Program} {w : World} {K : PySem.W.Frag} {mg : Str → Option Value} {base : Heap} {CX : CXT} {j k : Nat} {f : Addr} {fd : FuncData} {ps : List Str} {sp : Sp} (F : FnOk P w K mg base CX j f fd ps sp) (h : j ≤ k) :
    FnOk P w K mg base CX k f fd ps sp := ⟨F.len, fun A outer s H args us vs Q E hr => F.run A outer s H args us vs Q E (hr.mono h)⟩
/-- a weaker promise -/
theorem FnOk.imp {P : Program} {w : World} {K : PySem.W.Frag} {mg : Str → Option Value} {base : Heap} {CX : CXT} {k : Nat} {f : Addr} {fd : FuncData} {ps : List Str} {sp sp' : Sp} (F : FnOk P w K mg base CX k f fd ps sp)
    (h : ∀ vs H Q E, sp' vs H Q E → sp vs H Q E) : FnOk P w K mg base CX k f fd ps sp' :=
  ⟨fun vs H Q E q => F.len vs H Q E (h _ _ _ _ q), fun A outer s H args us vs Q E hr he hb hv hs => F.run A outer s H args us vs Q E hr he hb hv (h _ _ _ _ hs)⟩

theorem Env0.make {P : Program} {w : World} {K : PySem.W.Frag} {mg : Str → Option Value} {base : Heap} {A : Around} {outer : List Env} {s : Shared} {H : Hp} (e : Env0 P w K mg base A outer s H) (C : Addr) (us : List Value) (kw : List (Str × Value)) :
    Env0 P w K mg base (A.under (.builtin "type.__call__" ⟨.ref C :: us, kw⟩)) outer s H := ⟨by first | exact e.frames | (simpa [Around.under, Code.envs, Code.isFrame, pushEnvs] using e.frames), e.mod, e.bs, e.bsz, e.funs, e.frf, e.hok, e.bare⟩
theorem Env0.in1 {P : Program} {w : World} {K : PySem.W.Frag} {mg : Str → Option Value} {base : Heap} {A : Around} {outer : List Env} {s : Shared} {H : Hp} (e : Env0 P w K mg base A outer s H) :
    Env0 P w K mg base A.in1 outer s H := ⟨e.frames, e.mod, e.bs, e.bsz, e.funs, e.frf, e.hok, e.bare⟩

section
variable {X : Cx} {pins : List (Addr × Obj)} {σ : St} {H : Hp} {s s' : Shared}
/-- from a body: what a callee wants -/
theorem Inv.env0 (I : Inv X pins σ H s) : Env0 X.prog X.w X.K X.mg X.base X.A X.stack s H :=
  ⟨I.ok.frames, I.ok.mod, I.bs, Nat.le_trans I.ok.bsz I.sz, I.stack, I.stkFree, I.hok, I.bare⟩
/-- behind a call -/
theorem Inv.after {Q : VK} {u : Value} (I : Inv X pins σ H s) (h : CE X.stack X.prog X.w H s Q u s') : EP X pins σ Q u s' := by
  obtain ⟨v, H', os, bare, un, hok, r, q⟩ := h
  obtain ⟨hh, g, d, t, os'⟩ := s'
  obtain rfl : os' = s.os := os
  exact ⟨v, H', I.call (h' := hh) (g' := g) (d' := d) (t' := t) (ch := []) un hok bare (fun b z => absurd z (by simp)), r, q⟩
end

/-! ### calls -/
/-- f(..): the written arguments, then the defaults dvs; E: what is wanted of an exception -/
def tCall (sp : Sp) (dvs : List V) (E : XK) (t : TA) : TE := fun σ H Q => t σ H fun vs H1 => sp (vs ++ dvs) H1 Q E
/-- C(..): a new instance and its dict, then __init__ -/
def tMake (C : Addr) (sp : Sp) (dvs : List V) (E : XK) (t : TA) : TE := fun σ H Q => t σ H fun vs H1 => ∀ x dx, H1 x = none → H1 dx = none → dx ≠ x →
  sp (.ref x :: (vs ++ dvs)) (upd (upd H1 dx (.own x)) x (.ins C dx [])) (fun v H2 => v = .non ∧ Q (.ref x) H2) E

/-- how the parameters are bound: us the positional arguments, kw the keywords' values by name, ds the defaults that fill up -/
def Binds (K : PySem.W.Frag) (fd : FuncData) (ps : List Str) (ds : List Value) : Prop :=
  ∀ (s : Shared) (us : List Value), K.In s.heap → (us ++ ds).length = ps.length → BindsTo s fd ⟨us, []⟩ (ps.zip (us ++ ds))
/-- every parameter is given -/
theorem Binds.all {K : PySem.W.Frag} {fd : FuncData} {ps : List Str} (h : ∀ us : List Value, us.length = ps.length → bindArgs fd ⟨us, []⟩ = pure (ps.zip us)) : Binds K fd ps [] := fun s us _ hl => by
  rw [List.append_nil] at hl ⊢
  exact .of_eq (h us hl)

/-- an exception of a callee reaches what this body wants of exceptions -/
def Passes (CX : CXT) (X : Cx) (E : XK) : Prop := ∀ (pins : List (Addr × Obj)) (σ : St) (H : Hp) (s : Shared) (e : Value) (s' : Shared), Inv X pins σ H s → CX X.stack H s E e s' → X.xe e s'

section
variable {X : Cx} {CX : CXT} {k : Nat} {f C : Addr} {fd : FuncData} {ps : List Str} {sp : Sp} {dvs : List V} {ds : List Value} {E : XK} {x m : Str} {p pos apos : Pos} {e o : Expr} {es : List Expr} {ta : TE} {t : TA}

/-- the callee runs -/
theorem run_fn {pins : List (Addr × Obj)} {σ : St} {H : Hp} {s : Shared} {Q : VK} {us : List Value} {vs : List V} (F : FnOk X.prog X.w X.K X.mg X.base CX k f fd ps sp) (hr : Room k X.A) (hb : Binds X.K fd ps ds) (hd : Vals dvs ds) (hx : Passes CX X E)
    (I : Inv X pins σ H s) (r : Vals vs us) (h : sp (vs ++ dvs) H Q E) : wpAny (model X.prog X.w) X.A (call (.ref f) us) (EP X pins σ Q) X.xe s := by
  have r2 : Vals (vs ++ dvs) (us ++ ds) := r.append hd
  have hl : (us ++ ds).length = ps.length := by rw [← r2.length]; exact F.len _ _ _ _ h
  refine wpAny_call (codeAny_mono (F.run X.A X.stack s H ⟨us, []⟩ (us ++ ds) (vs ++ dvs) Q E hr I.env0 (hb s us I.kIn hl) r2 h) fun r s' hq => ?_)
  cases r with
  | error e => exact hx pins σ H s e s' I hq
  | ok fl =>
    cases fl with
    | ret u => exact I.after hq
    | next => exact False.elim hq
    | brk => exact False.elim hq
    | cont => exact False.elim hq

theorem pe_call (F : FnOk X.prog X.w X.K X.mg X.base CX k f fd ps sp) (hr : Room k X.A) (hg : Gl X x) (hm : X.mg x = some (.ref f)) (hk : PySem.W.keepIn X.K (.ref f) = true) (hb : Binds X.K fd ps ds) (hd : Vals dvs ds) (hx : Passes CX X E)
    (ha : PA X (e :: es) t) (hdb : (x == ("__debug__" : Str)) = false := by decide) (he : starEach (e :: es) X.env = (false, eval e X.env) :: starEach es X.env := by rfl) (hpl : (backTo pos (starEach es X.env)).any (·.1) = false := by rfl) :
    PE X (.Call (.Name x p) (e :: es) [] pos) (tCall sp dvs E t) := by
  intro pins s σ H Q I h
  refine wpAny_Call_Name_kw (ld_glob I hg hm ?_ hdb)
  refine PySem.W.callWith_K (h₀ := X.base) I.ok.mod.kin hk (thn (ha pos pins s σ H _ I h) fun us s1 ⟨vs, H1, I1, r, q⟩ => ⟨I1.kIn, ?_⟩) he hpl
  exact run_fn F hr hb hd hx I1 r q
/-- what a class must have to be made -/
structure Mk (K : PySem.W.Frag) (C f : Addr) : Prop where
  makes : PySem.W.makesIn K C = true
  init : PySem.W.findIn K (.ref C) "__init__" = some (some (.ref f))
  fn : PySem.W.isFn K (.ref f) = true
  kp : PySem.W.keepIn K (.ref C) = true

theorem run_make {pins : List (Addr × Obj)} {σ : St} {H : Hp} {s : Shared} {Q : VK} {us : List Value} {vs : List V} (M : Mk X.K C f) (F : FnOk X.prog X.w X.K X.mg X.base CX k f fd ps sp) (hr : Room (k + 1) X.A) (hb : Binds X.K fd ps ds) (hd : Vals dvs ds)
    (hx : Passes CX X E) (I : Inv X pins σ H s) (r : Vals vs us)
    (h : ∀ x dx, H x = none → H dx = none → dx ≠ x → sp (.ref x :: (vs ++ dvs)) (upd (upd H dx (.own x)) x (.ins C dx [])) (fun v H2 => v = .non ∧ Q (.ref x) H2) E) :
    wpAny (model X.prog X.w) X.A (call (.ref C) us) (EP X pins σ Q) X.xe s := by
  have hq := h (s.heap.objs.size + 1) s.heap.objs.size (I.hok.fresh (Nat.le_succ _)) (I.hok.fresh (Nat.le_refl _)) (Nat.ne_of_lt (Nat.lt_succ_self _))
  have I2 := Inv.made (C := C) I
  have r2 : Vals (V.ref (s.heap.objs.size + 1) :: (vs ++ dvs)) (Value.ref (s.heap.objs.size + 1) :: (us ++ ds)) := .cons rfl (r.append hd)
  have hl : (Value.ref (s.heap.objs.size + 1) :: us ++ ds).length = ps.length := by
    have e := r2.length
    rw [F.len _ _ _ _ hq] at e
    exact e.symm
  refine wpAny_call (make_map (f := f) I.kIn M.makes M.init (beq_iff_eq.mp M.fn) (codeAny_mono (F.run _ X.stack _ _ ⟨Value.ref (s.heap.objs.size + 1) :: us, []⟩ (Value.ref (s.heap.objs.size + 1) :: (us ++ ds)) _ _ E (hr.make C us [])
    (I2.env0.make C us []) (hb _ (Value.ref (s.heap.objs.size + 1) :: us) I2.kIn hl) r2 hq) fun r s' hq' => ?_))
  cases r with
  | error e => exact hx pins σ _ _ e s' I2 hq'
  | ok fl =>
    cases fl with
    | ret u =>
      obtain ⟨v, H', I3, rv, ev, q3⟩ := I2.after hq'
      subst ev
      exact ⟨rv, ⟨V.ref (s.heap.objs.size + 1), H', I3, rfl, q3⟩⟩
    | next => exact False.elim hq'
    | brk => exact False.elim hq'
    | cont => exact False.elim hq'
theorem pe_make (M : Mk X.K C f) (F : FnOk X.prog X.w X.K X.mg X.base CX k f fd ps sp) (hr : Room (k + 1) X.A) (hg : Gl X x) (hm : X.mg x = some (.ref C)) (hb : Binds X.K fd ps ds) (hd : Vals dvs ds) (hx : Passes CX X E)
    (ha : PA X (e :: es) t) (hdb : (x == ("__debug__" : Str)) = false := by decide) (he : starEach (e :: es) X.env = (false, eval e X.env) :: starEach es X.env := by rfl) (hpl : (backTo pos (starEach es X.env)).any (·.1) = false := by rfl) :
    PE X (.Call (.Name x p) (e :: es) [] pos) (tMake C sp dvs E t) := by
  intro pins s σ H Q I h
  refine wpAny_Call_Name_kw (ld_glob I hg hm ?_ hdb)
  refine PySem.W.callWith_K (h₀ := X.base) I.ok.mod.kin M.kp (thn (ha pos pins s σ H _ I h) fun us s1 ⟨vs, H1, I1, r, q⟩ => ⟨I1.kIn, ?_⟩) he hpl
  exact run_make M F hr hb hd hx I1 r q
end

/-! ### keywords -/
section
variable {X : Cx} {CX : CXT} {k : Nat} {f C : Addr} {fd : FuncData} {ps ks : List Str} {sp : Sp} {E : XK} {x m : Str} {p pos apos kpos : Pos} {e o : Expr} {es : List Expr} {kws : List Keyword} {te ta : TE} {t tk : TA} {nm : Option Str}
/-- how a call with keywords binds: g puts the positional values us and the keywords' values ws (names ks) in the parameters' order, defaults among them -/
structure KBinds (K : PySem.W.Frag) (fd : FuncData) (ps ks : List Str) (g : List Value → List Value → List Value) (gV : List V → List V → List V) : Prop where
  to : ∀ (s : Shared) (us ws : List Value), K.In s.heap → (g us ws).length = ps.length → BindsTo s fd ⟨us, ks.zip ws⟩ (ps.zip (g us ws))
  rel : ∀ {vs : List V} {us : List Value} {zs : List V} {ws : List Value}, Vals vs us → Vals zs ws → Vals (gV vs zs) (g us ws)
variable {g : List Value → List Value → List Value} {gV : List V → List V → List V}
end

/-! ### a def's body keeps its promise -/
/-- names: the parameters first -/
structure FnScope (N P : List Str) (sc : Scope) : Prop where
  kind : sc.kind = .function
  co : sc.isCoroutine = false
  gen : sc.isGenerator = false
  nd : N.Nodup
  pre : N.take P.length = P
  par : ∀ x ∈ P, sc.names.lookup x = some .local ∨ sc.names.lookup x = some .cell
  nofree : ∀ y ∈ sc.names, y.2 ≠ .free

theorem bindL_out {kindOf : Str → Option NameKind} {x : Str} : ∀ {binds : List (Str × Value)} {m : Str → Option Value}, (∀ v, (x, v) ∉ binds) → bindL kindOf binds m x = m x
  | [], _, _ => rfl
  | (n, v) :: r, m, h => by
    unfold bindL
    rw [bindL_out fun w hw => h w (List.mem_cons_of_mem _ hw)]
    split
    · have : x ≠ n := by rintro rfl; exact h v List.mem_cons_self
      simp [this]
    · rfl
theorem bindC_out {kindOf : Str → Option NameKind} {x : Str} : ∀ {binds : List (Str × Value)} {m : Str → Option Value}, (∀ v, (x, v) ∉ binds) → bindC kindOf binds m x = m x
  | [], _, _ => rfl
  | (n, v) :: r, m, h => by
    unfold bindC
    rw [bindC_out fun w hw => h w (List.mem_cons_of_mem _ hw)]
    split
    · rfl
    · have : x ≠ n := by rintro rfl; exact h v List.mem_cons_self
      simp [this]
theorem bindL_get {kindOf : Str → Option NameKind} {x : Str} {v : Value} : ∀ {P : List Str} {vs : List Value} {i : Nat} {m : Str → Option Value}, P.Nodup → P[i]? = some x → vs[i]? = some v → kindOf x = some .local →
    bindL kindOf (P.zip vs) m x = some v
  | [], _, _, _, _, h, _, _ => by simp at h
  | _ :: _, [], _, _, _, _, h, _ => by simp at h
  | p :: P, w :: vs, 0, m, nd, h1, h2, hk => by
    simp at h1 h2; subst h1; subst h2
    show bindL kindOf ((p, w) :: P.zip vs) m p = _
    unfold bindL
    rw [bindL_out fun v hv => (List.nodup_cons.mp nd).1 (List.of_mem_zip hv).1, if_pos hk]
    simp
  | p :: P, w :: vs, i + 1, m, nd, h1, h2, hk => by
    show bindL kindOf ((p, w) :: P.zip vs) m x = _
    unfold bindL
    exact bindL_get (i := i) (List.nodup_cons.mp nd).2 (by simpa using h1) (by simpa using h2) hk
theorem bindC_get {kindOf : Str → Option NameKind} {x : Str} {v : Value} : ∀ {P : List Str} {vs : List Value} {i : Nat} {m : Str → Option Value}, P.Nodup → P[i]? = some x → vs[i]? = some v → kindOf x ≠ some .local →
    bindC kindOf (P.zip vs) m x = some v
  | [], _, _, _, _, h, _, _ => by simp at h
  | _ :: _, [], _, _, _, _, h, _ => by simp at h
  | p :: P, w :: vs, 0, m, nd, h1, h2, hk => by
    simp at h1 h2; subst h1; subst h2
    show bindC kindOf ((p, w) :: P.zip vs) m p = _
    unfold bindC
    rw [bindC_out fun v hv => (List.nodup_cons.mp nd).1 (List.of_mem_zip hv).1, if_neg hk]
    simp
  | p :: P, w :: vs, i + 1, m, nd, h1, h2, hk => by
    show bindC kindOf ((p, w) :: P.zip vs) m x = _
    unfold bindC
    exact bindC_get (i := i) (List.nodup_cons.mp nd).2 (by simpa using h1) (by simpa using h2) hk

/-- the names' values at the entry -/
def start (N : List Str) (vs : List V) : St := vs.map some ++ List.replicate (N.length - vs.length) none

/-- the context of a def's body, at its entry; an exception leaves the frame, then lies as CX says -/
def cxOf (CX : CXT) (P : Program) (w : World) (K : PySem.W.Frag) (mg : Str → Option Value) (base : Heap) (N : List Str) (qual : Str) (scope : Scope) (f : Addr) (cd : Value) (A : Around) (outer : List Env) (s : Shared) (H : Hp) (E : XK) : Cx where
  prog := P
  w := w
  K := K
  mg := mg
  base := base
  A := A.deeper (envOfC qual scope s.heap.objs.size f cd)
  N := N
  s₀ := s
  H₀ := H
  env := envOfC qual scope s.heap.objs.size f cd
  outer := outer
  stack := envOfC qual scope s.heap.objs.size f cd :: outer
  ex := []
  calm := true
  fn := fun _ => true
  pn := []
  xe := fun e s' => wpAny (model P w) (A.deeper (envOfC qual scope s.heap.objs.size f cd)) (leaving (envOfC qual scope s.heap.objs.size f cd) e) (fun _ s'' => CX outer H s E e s'') (fun e' s'' => CX outer H s E e' s'') s'

theorem cell_has {sc : Scope} {n : Nat} {x : Str} (h : sc.names.lookup x = some .cell) : ∃ c, (cellsFrom n sc.names []).lookup x = some c := by
  have q := PySem.W.cellsFrom_some sc.names n [] (.inl h)
  exact Option.isSome_iff_exists.mp q

theorem inv_start {CX : CXT} {P : Program} {w : World} {K : PySem.W.Frag} {mg : Str → Option Value} {base : Heap} {N ps : List Str} {qual : Str} {scope : Scope} {f : Addr} {cd : Value} {A : Around} {outer : List Env} {s s1 : Shared} {H : Hp} {E : XK} {us : List Value} {vs : List V}
    (S : FnScope N ps scope) (hd : A.handled = none) (e0 : Env0 P w K mg base A outer s H) (hl : vs.length = ps.length) (r : Vals vs us)
    (x : InCallC s s.heap.objs.size (bindL (envOfC qual scope s.heap.objs.size f cd).kindOf (ps.zip us) fun _ => none) (cellsFrom (s.heap.objs.size + 1) scope.names []) (bindC (envOfC qual scope s.heap.objs.size f cd).kindOf (ps.zip us) fun _ => none) s1) :
    Inv (cxOf CX P w K mg base N qual scope f cd A outer s H E) [] (start N vs) H s1 := by
  have hpl : ps.length ≤ N.length := by have := congrArg List.length S.pre; rw [List.length_take] at this; omega
  obtain ⟨h1, tk, rfl, hk⟩ := x.done
  have noA : ∀ b : Addr, b ∉ (cxOf CX P w K mg base N qual scope f cd A outer s H E).ex := fun b z => absurd (show b ∈ ([] : List Addr) from z) (by simp)
  refine ⟨⟨e0.mod, S.kind, rfl, rfl, Nat.le_refl _, fun y z c h1 h2 => ?_, fun y hy => ?_, fun y c _ h => ?_, fun _ => hd, Around.frames_deeper e0.frames, .inr ⟨rfl, rfl⟩, fun b z => absurd z (noA b), e0.bs, e0.bsz, fun b _ _ => noA b, fun b z => absurd z (noA b), e0.funs, e0.frf⟩,
    rfl, e0.bare, Un.kept hk, ⟨_, x.toInCall.ns, fun i y v h1 h2 h3 => ?_⟩, fun y c h => ⟨_, x.cell y c h⟩, e0.hok.fresh (Nat.le_refl _), fun y c h => ?_, fun p hp => absurd (show p ∈ ([] : List (Addr × Obj)) from hp) (by simp), e0.hok.kept hk, ?_⟩
  · exact name_of_addr x.apart (PySem.mem_of_lookup h1) (PySem.mem_of_lookup h2)
  · have hy : scope.names.lookup y = some .cell ∨ scope.names.lookup y = some .free := hy
    rcases hy with hy | hy
    · exact cell_has hy
    · exact absurd rfl (S.nofree _ (PySem.mem_of_lookup hy))
  · exact Nat.le_of_lt (x.above y c (PySem.mem_of_lookup h))
  · have hi : i < vs.length := by
      unfold start at h2
      by_cases hi : i < vs.length
      · exact hi
      · rw [List.getElem?_append_right (by simpa using hi)] at h2
        rw [List.getElem?_replicate] at h2
        split at h2 <;> cases h2
    have ha : vs[i]? = some v := by
      unfold start at h2
      rw [List.getElem?_append_left (by simpa using hi), List.getElem?_map] at h2
      cases e : vs[i]? with
      | none => rw [e] at h2; cases h2
      | some a => rw [e] at h2; cases h2; rfl
    obtain ⟨u, hu, rv⟩ := r.get ha
    have hp : ps[i]? = some y := by
      rw [← S.pre, List.getElem?_take_of_lt (by omega)]; exact h1
    have ndP : ps.Nodup := by rw [← S.pre]; exact S.nd.sublist (List.take_sublist _ _)
    refine ⟨u, rv, ?_⟩
    rcases S.par y (List.mem_of_getElem? hp) with k | k
    · exact .inl ⟨k, bindL_get ndP hp hu k⟩
    · obtain ⟨c, e⟩ := cell_has (n := s.heap.objs.size + 1) k
      refine .inr ⟨.inl k, c, e, ?_⟩
      have q := x.cell y c e
      rw [bindC_get ndP hp hu (by show scope.names.lookup y ≠ _; rw [k]; decide)] at q
      exact q
  · exact e0.hok.fresh (Nat.le_of_lt (x.above y c (PySem.mem_of_lookup h)))
  · unfold start
    show _ = N.length
    rw [List.length_append, List.length_map, List.length_replicate]
    omega

/-- THE RULE: a def (or a method) of the text, by its body. The body's reading t is chosen for each entry; it is run at the parameters' values -/
theorem fn_of {CX : CXT} {P : Program} {w : World} {K : PySem.W.Frag} {mg : Str → Option Value} {base : Heap} {k : Nat} {f : Addr} {name qual : Str} {params : Arguments} {body : List Stmt} {scope : Scope} {dV kV doc pm cdv ct oc : Value} {an od : Option Addr}
    {osl : Array (Option Value)} {N ps : List Str} {sp : Sp} (lk : K.lookup f = some ⟨oc, od, .func (PySem.W.fnOf name qual params body scope dV kV doc pm an cdv ct), osl⟩) (hcd : PySem.W.codeIn K cdv qual = true) (S : FnScope N ps scope)
    (len : ∀ vs H Q E, sp vs H Q E → vs.length = ps.length)
    (hbody : ∀ (A : Around) (outer : List Env) (s : Shared) (H : Hp) (vs : List V) (Q : VK) (E : XK), Room k (A.deeper (envOfC qual scope s.heap.objs.size f cdv)) → sp vs H Q E →
      ∃ t, PSs (cxOf CX P w K mg base N qual scope f cdv A outer s H E) body t ∧ t { nx := fun _ H' => Q .non H', rt := Q } (start N vs) H) :
    FnOk P w K mg base CX (k + 1) f (PySem.W.fnOf name qual params body scope dV kV doc pm an cdv ct) ps sp := by
  refine ⟨len, fun A outer s H args us vs Q E hr e0 hb r hsp => ?_⟩
  have hl := len _ _ _ _ hsp
  have KX : K.In s.heap := e0.mod.kin.keeps fun b o e => (e0.bs b o e).1
  have lim : s.heap.NoLimit := e0.mod.nolimit.keeps fun b o e => (e0.bs b o e).1
  have hkind : ∀ y ∈ ps.zip us, scope.names.lookup y.1 = some .local ∨ (scope.names.lookup y.1 = some .cell ∧ ((cellsFrom (s.heap.objs.size + 1) scope.names []).lookup y.1).isSome = true) := fun ⟨n, v⟩ hy => by
    rcases S.par n (List.of_mem_zip hy).1 with q | q
    · exact .inl q
    · exact .inr ⟨q, PySem.W.cellsFrom_some _ _ _ (.inl q)⟩
  refine codeAny_call_function hr.depth (KX _ _ lk) rfl S.co S.gen rfl (PySem.W.codeRec_of KX hcd) (hb _ _ _ _ ?_)
  refine wpAny_newFunctionEnv_cells S.kind hkind fun env he s1 x => ?_
  subst he
  refine ⟨lim.keeps x.toInCall.keep, codeAny_func ?_⟩
  obtain ⟨t, ht, hq⟩ := hbody A outer s H vs Q E (hr.deeper _) hsp
  have I : Inv (cxOf CX P w K mg base N qual scope f cdv A outer s H E) [] (start N vs) H s1 := inv_start S hr.hd e0 hl r x
  refine wpAny_mono (ht [] s1 (start N vs) H _ I hq) (fun fl s' hs => ?_) fun e s' hs => hs
  have fin : ∀ {σ' : St} {H' : Hp} {v : V} {u : Value}, Inv (cxOf CX P w K mg base N qual scope f cdv A outer s H E) [] σ' H' s' → RelV v u → Q v H' → CE outer P w H s Q u s' :=
    fun {σ' H' v u} J rv q => ⟨v, H', J.os, J.bare, J.base, J.hok, rv, q⟩
  cases fl with
  | ret u =>
    obtain ⟨v, σ', H', J, rv, q⟩ := hs
    exact fin J rv q
  | next =>
    obtain ⟨σ', H', J, q⟩ := hs
    exact fin (v := V.non) (u := Value.none) J rfl q
  | brk =>
    obtain ⟨_, _, _, q⟩ := hs
    exact False.elim q
  | cont =>
    obtain ⟨_, _, _, q⟩ := hs
    exact False.elim q
end L2

namespace L2
open PySem PySem.Spec PyProof.Rows
section
variable {X : Cx} {x : Str} {p pos : Pos} {e : Expr} {es : List Expr} {t : TA} {id T : String} {r : List V → Hp → VK → Prop}

def tCB (r : List V → Hp → VK → Prop) (t : TA) : TE := fun σ H Q => t σ H fun vs H1 => r vs H1 Q
/-- f(e, ..), f a built-in function -/
theorem pe_callB (hc : CallR X (.builtin id) r) (hg : Gl X x) (hm : X.mg x = none) (hv : bootBuiltins x = some (.builtin id)) (ha : PA X (e :: es) t) (hn : x ≠ "__name__" := by decide) (hdb : (x == ("__debug__" : Str)) = false := by decide)
    (he : starEach (e :: es) X.env = (false, eval e X.env) :: starEach es X.env := by rfl) (hpl : (backTo pos (starEach es X.env)).any (·.1) = false := by rfl) : PE X (.Call (.Name x p) (e :: es) [] pos) (tCB r t) := by
  intro pins s σ H Q I h
  refine wpAny_Call_Name_kw (ld_blt I hg hm hv ?_ hn hdb)
  exact PyProof.Rows.callWith_builtin1 (thn (ha pos pins s σ H _ I h) fun us s1 ⟨vs, H1, I1, r1, q1⟩ => hc pins s1 σ H1 vs us Q I1 r1 q1) he hpl
/-- T(e, ..), T a built-in type -/
theorem pe_callTy (hc : CallR X (.type T) r) (hg : Gl X x) (hm : X.mg x = none) (hv : bootBuiltins x = some (.type T)) (ha : PA X (e :: es) t) (hn : x ≠ "__name__" := by decide) (hdb : (x == ("__debug__" : Str)) = false := by decide)
    (he : starEach (e :: es) X.env = (false, eval e X.env) :: starEach es X.env := by rfl) (hpl : (backTo pos (starEach es X.env)).any (·.1) = false := by rfl) : PE X (.Call (.Name x p) (e :: es) [] pos) (tCB r t) := by
  intro pins s σ H Q I h
  refine wpAny_Call_Name_kw (ld_blt I hg hm hv ?_ hn hdb)
  exact PyProof.Rows.callWith_type1 (thn (ha pos pins s σ H _ I h) fun us s1 ⟨vs, H1, I1, r1, q1⟩ => hc pins s1 σ H1 vs us Q I1 r1 q1) he hpl
end
end L2

namespace HT
open PySem PyProof.Rows

section
open PySem.SeqAt
open PySem.AutoSeq1 (wpAny_loadPart')
open PySem.MeetsSeq PySem.MeetsSeq2 PySem.MeetsSeq3

end

section
variable {prog : Program} {w : World} {A : Around} {E : Value → Shared → Prop} {s : Shared}

/-! ### t[a:b], not the whole -/
/-- a slice's bound as a place among n (d where it is left out) -/
def sIx (n d : Nat) : Option Int → Nat
  | none => d
  | some v => if v < 0 then (v + (n : Int)).toNat else min v.toNat n
end
end HT

namespace L2
open PySem PySem.Spec PyProof.Rows

/-! ### the parts of a slice -/
abbrev TO := St → Hp → (Option Int → Hp → Prop) → Prop
/-- a slice's part (left out, or an int) -/
def PO (X : Cx) (e : Option Expr) (t : TO) : Prop :=
  ∀ (pins : List (Addr × Obj)) (s : Shared) (σ : St) (H : Hp) (Q : Option Int → Hp → Prop), Inv X pins σ H s → t σ H Q →
    wpAny (model X.prog X.w) X.A (evalPart e X.env) (fun u s' => ∃ o H', Inv X pins σ H' s' ∧ IsPart u o ∧ Q o H') X.xe s
def tPart (t : TE) : TO := fun σ H Q => t σ H fun x H1 => ∃ i, x = .int i ∧ Q (some i) H1

section
variable {X : Cx} {e : Expr} {te : TE} {lo hi : Option Expr} {tl th : TO} {pos p2 : Pos}

theorem po_some (h : PE X e te) : PO X (some e) (tPart te) := by
  intro pins s σ H Q I hw
  rw [evalPart_some]
  refine thn (h pins s σ H _ I hw) fun u s1 ⟨x, H1, I1, r1, q1⟩ => ?_
  obtain ⟨i, rfl, q⟩ := q1
  obtain ⟨t, rfl⟩ := r1
  exact ⟨some i, H1, I1, .int i t, q⟩

/-- what a slice of a value is, by values: the slice object stands at sl -/
def SlR (X : Cx) (r : V → Option Int → Option Int → Hp → VK → Prop) : Prop :=
  ∀ (pins : List (Addr × Obj)) (s : Shared) (σ : St) (H : Hp) (x : V) (v vl vu : Value) (lo hi : Option Int) (sl : Addr) (Q : VK), Inv X pins σ H s → RelV x v → s.heap.IsSliceOf sl vl vu .none → IsPart vl lo → IsPart vu hi → r x lo hi H Q →
    ∃ T id, typeLookup (.type T) "__getitem__" = pure (some (.builtin id)) ∧ s.TypeIs v T ∧ wpAny (model X.prog X.w) X.A (getItem v (.ref sl)) (EP X pins σ Q) X.xe s
theorem SlR.or {r r' : V → Option Int → Option Int → Hp → VK → Prop} (h : SlR X r) (h' : SlR X r') : SlR X (fun x lo hi H Q => r x lo hi H Q ∨ r' x lo hi H Q) := by
  intro pins s σ H x v vl vu lo hi sl Q I rx hs pl pu q
  rcases q with q | q
  · exact h pins s σ H x v vl vu lo hi sl Q I rx hs pl pu q
  · exact h' pins s σ H x v vl vu lo hi sl Q I rx hs pl pu q
def tSl (r : V → Option Int → Option Int → Hp → VK → Prop) (te : TE) (tl th : TO) : TE := fun σ H Q => te σ H fun x H1 => tl σ H1 fun l H2 => th σ H2 fun u H3 => r x l u H3 Q
/-- a[lo:hi], any a -/
theorem pe_slice {r : V → Option Int → Option Int → Hp → VK → Prop} (hr : SlR X r) (he : PE X e te) (hl : PO X lo tl) (hu : PO X hi th) : PE X (.Subscript e (.Slice lo hi none p2) pos) (tSl r te tl th) := by
  intro pins s σ H Q I h
  refine Subscript_ (thn (he pins s σ H _ I h) fun v s1 ⟨x, H1, I1, r1, q1⟩ => ?_)
  refine wpAny_Slice (thn (hl pins s1 σ H1 _ I1 q1) fun vl s2 ⟨l, H2, I2, pl, q2⟩ => thn (hu pins s2 σ H2 _ I2 q2) fun vu s3 ⟨u, H3, I3, pu, q3⟩ => ?_)
  rw [evalPart_none]
  refine wpAny_pure ?_
  have I4 : Inv X pins σ H3 { s3 with heap := s3.heap.push { cls := .type "slice", data := .fields #[vl, vu, .none] } } := I3.kept (t' := s3.toks) fun b ob q => Heap.get?_push_of_some _ q
  obtain ⟨T, id, hT, ht, hg⟩ := hr pins { s3 with heap := s3.heap.push { cls := .type "slice", data := .fields #[vl, vu, .none] } } σ H3 x v vl vu l u s3.heap.objs.size Q I4 r1 (Heap.IsSliceOf.new ..) pl pu q3
  show wpAny (model X.prog X.w) X.A (subscriptTail e (.Slice lo hi none p2) v (.ref s3.heap.objs.size)) (EP X pins σ Q) X.xe { s3 with heap := s3.heap.push { cls := .type "slice", data := .fields #[vl, vu, .none] } }
  exact tail_any (ops := [.ref s3.heap.objs.size, v]) ht hT hg (by with_unfolding_all rfl)

/-- the items of xs[lo:hi] -/
def cutV (xs : List V) (lo hi : Option Int) : List V := (xs.drop (HT.sIx xs.length 0 lo)).take (HT.sIx xs.length xs.length hi - HT.sIx xs.length 0 lo)
theorem cutV_length (xs : List V) (lo hi : Option Int) : (cutV xs lo hi).length ≤ xs.length := by
  unfold cutV
  rw [List.length_take, List.length_drop]
  omega
/-! ### t < u, t + u -/
end
end L2

namespace L2
open PySem PySem.Spec PyProof.Rows

/-! ### places -/
/-- the place that an index of any sign means -/
def ixN (n : Nat) (i : Int) : Option Nat := if 0 ≤ i then (if i < n then some i.toNat else none) else if -(n : Int) ≤ i then some (i + n).toNat else none
def atI {α : Type} (xs : List α) (i : Int) : Option α := (ixN xs.length i).bind fun j => xs[j]?
theorem ixN_seq {n : Nat} {i : Int} {j : Nat} (h : ixN n i = some j) : seqIndex? i n = some j ∧ j < n ∧ -(n : Int) ≤ i ∧ i < n := by
  unfold ixN at h
  by_cases h0 : 0 ≤ i
  · rw [if_pos h0] at h
    by_cases h1 : i < n
    · rw [if_pos h1] at h
      have e : i.toNat = j := Option.some.inj h
      exact ⟨by rw [seqIndex_of h0 h1, e], by omega, by omega, h1⟩
    · rw [if_neg h1] at h; cases h
  · rw [if_neg h0] at h
    by_cases h1 : -(n : Int) ≤ i
    · rw [if_pos h1] at h
      have e : (i + n).toNat = j := Option.some.inj h
      exact ⟨by rw [seqIndex_neg (by omega) h1, e], by omega, h1, by omega⟩
    · rw [if_neg h1] at h; cases h
theorem atI_get {α : Type} {xs : List α} {i : Int} {v : α} (h : atI xs i = some v) : ∃ j, seqIndex? i xs.length = some j ∧ xs[j]? = some v ∧ j < xs.length ∧ -(xs.length : Int) ≤ i ∧ i < xs.length := by
  unfold atI at h
  cases e : ixN xs.length i with
  | none => rw [e] at h; cases h
  | some j =>
    rw [e] at h
    obtain ⟨h1, h2, h3, h4⟩ := ixN_seq e
    exact ⟨j, h1, h, h2, h3, h4⟩
theorem atI_nat {α : Type} {xs : List α} {j : Nat} {v : α} (h : xs[j]? = some v) : atI xs (j : Int) = some v := by
  have hj : j < xs.length := (List.getElem?_eq_some_iff.mp h).1
  have e : ixN xs.length (j : Int) = some j := by
    unfold ixN
    rw [if_pos (by omega), if_pos (by omega)]; simp
  unfold atI; rw [e]; exact h
/-! ### what may be subscripted -/
/-- what stands as an index of a plain subscript -/
def PlainIx (b : Expr) : Prop := ∀ o i, subscripted b false o i = operate [o, i] (getItem o i)
/-- a subscript by values -/
def IxR (X : Cx) (r : R2) : Prop :=
  ∀ (value slice : Expr) (pins : List (Addr × Obj)) (s : Shared) (σ : St) (H : Hp) (x y : V) (v u : Value) (Q : VK), Inv X pins σ H s → RelV x v → RelV y u → r x y H Q →
    subscripted slice false v u = operate [v, u] (getItem v u) → wpAny (model X.prog X.w) X.A (subscriptTail value slice v u) (EP X pins σ Q) X.xe s
/-- a call of a builtin's method by values: the receiver, the arguments -/
def MtR (X : Cx) (id : String) (r : V → List V → Hp → VK → Prop) : Prop :=
  ∀ (pins : List (Addr × Obj)) (s : Shared) (σ : St) (H : Hp) (x : V) (xs : List V) (v : Value) (us : List Value) (Q : VK), Inv X pins σ H s → RelV x v → Vals xs us → r x xs H Q →
    wpAny (model X.prog X.w) X.A (call (.builtin id) (v :: us)) (EP X pins σ Q) X.xe s
section
variable {X : Cx} {a b : Expr} {ta tb : TE} {pos : Pos}
theorem IxR.or {r r' : R2} (h : IxR X r) (h' : IxR X r') : IxR X (fun x y H Q => r x y H Q ∨ r' x y H Q) := by
  intro value slice pins s σ H x y v u Q I rx ry q hs
  rcases q with q | q
  · exact h value slice pins s σ H x y v u Q I rx ry q hs
  · exact h' value slice pins s σ H x y v u Q I rx ry q hs
theorem MtR.or {id : String} {r r' : V → List V → Hp → VK → Prop} (h : MtR X id r) (h' : MtR X id r') : MtR X id (fun x xs H Q => r x xs H Q ∨ r' x xs H Q) := by
  intro pins s σ H x xs v us Q I rx rs q
  rcases q with q | q
  · exact h pins s σ H x xs v us Q I rx rs q
  · exact h' pins s σ H x xs v us Q I rx rs q
/-- a[b] -/
theorem pe_ix {r : R2} (hr : IxR X r) (ha : PE X a ta) (hb : PE X b tb) (hs : PlainIx b) : PE X (.Subscript a b pos) (tOp r ta tb) := by
  intro pins s σ H Q I h
  exact Subscript_ (binT ha hb I h fun v u s2 x y H2 I2 rx ry q => hr a b pins s2 σ H2 x y v u Q I2 rx ry q (hs _ _))

def rIxL (K : PySem.W.Frag) : R2 := fun x y H Q => ∃ p xs i v, x = .ref p ∧ y = .int i ∧ SqL K H p xs ∧ atI xs i = some v ∧ Q v H
def rIxT (K : PySem.W.Frag) : R2 := fun x y H Q => ∃ p xs i v, x = .ref p ∧ y = .int i ∧ SqT K H p xs ∧ atI xs i = some v ∧ Q v H
def rIxS : R2 := fun x y H Q => ∃ z i c, x = .str z ∧ y = .int i ∧ z.length ≤ sizeLine ∧ atI z.cps.toList i = some c ∧ Q (.str ⟨#[c]⟩) H
theorem ix_list : IxR X (rIxL X.K) := by
  intro value slice pins s σ H x y v u Q I rx ry h hs
  obtain ⟨p, xs, i, z, rfl, rfl, hq, he, q⟩ := h
  cases rx
  obtain ⟨t, rfl⟩ := ry
  obtain ⟨its, r, pl, hz⟩ := I.list hq
  obtain ⟨j, h1, h2, h3, h4, h5⟩ := atI_get he
  obtain ⟨w, ew, rw'⟩ := r.get h2
  have hl := r.length
  have hn := line63
  have fin : EP X pins σ Q w s := ⟨z, H, I, rw', q⟩
  by_cases h0 : 0 ≤ i
  · have hj : i.toNat = j := by
      rw [seqIndex_of h0 h5] at h1
      exact Option.some.inj h1
    exact item_listR pl.isList h0 (by omega) (by rw [hj]; simpa using ew) fin hs
  · have hj : (i + (its.toArray.size : Int)).toNat = j := by
      rw [seqIndex_neg (by omega) h4] at h1
      rw [List.size_toArray, ← hl]
      exact Option.some.inj h1
    exact subscriptTail_builtinR (x := w) pl.isList.typeIs slot_list_getitem.lookup
      (wpAny_getItem_list_neg (Q := fun r s' => r = w ∧ EP X pins σ Q r s') pl.isList (by omega) (by rw [List.size_toArray] <;> omega) (by omega) (by rw [hj]; simpa using ew) ⟨rfl, fin⟩) hs
theorem ix_tup : IxR X (rIxT X.K) := by
  intro value slice pins s σ H x y v u Q I rx ry h hs
  obtain ⟨p, xs, i, z, rfl, rfl, hq, he, q⟩ := h
  cases rx
  obtain ⟨t, rfl⟩ := ry
  obtain ⟨its, r, pl, hz⟩ := I.tuple hq
  obtain ⟨j, h1, h2, h3, h4, h5⟩ := atI_get he
  obtain ⟨w, ew, rw'⟩ := r.get h2
  have hl := r.length
  have hn := line63
  have fin : EP X pins σ Q w s := ⟨z, H, I, rw', q⟩
  exact subscriptTail_builtinR (x := w) pl.typeIs slot_tuple_getitem.lookup
    (getItem_tuple (j := j) (Q := fun r s' => r = w ∧ EP X pins σ Q r s') pl (by omega) (by omega) (by rw [List.size_toArray, ← hl]; exact h1) (by simpa using ew) ⟨rfl, fin⟩) hs
theorem ix_str : IxR X rIxS := by
  intro value slice pins s σ H x y v u Q I rx ry h hs
  obtain ⟨z, i, c, rfl, rfl, hz, he, q⟩ := h
  obtain ⟨t, rfl⟩ := rx
  obtain ⟨t', rfl⟩ := ry
  obtain ⟨j, h1, h2, h3, h4, h5⟩ := atI_get he
  have hl : z.cps.toList.length = z.length := by simp [Str.length]
  rw [hl] at h1 h4 h5
  have hn := line63
  exact tail_any (typeIs_str s z t) slot_str_getitem.lookup (getItem_str (c := c) (by
    have e1 : decide (i < -(2 ^ 63 : Int)) = false := decide_eq_false (by omega)
    have e2 : decide (i ≥ 2 ^ 63) = false := decide_eq_false (by omega)
    rw [e1, e2, Bool.or_false]) (by rw [h1]; simpa using h2) ⟨.str ⟨#[c]⟩, H, I.tok _, ⟨_, rfl⟩, q⟩) hs
/-! ### xs[i] = v, any sign -/
theorem Inv.lst {pins : List (Addr × Obj)} {σ : St} {H : Hp} {s : Shared} {p : Addr} {xs : List V} (I : Inv X pins σ H s) (h : H p = some (.lst xs)) :
    ∃ (its : List Value) (n : Nat), Vals xs its ∧ s.heap.get? p = some { cls := .type "list", data := .seq its.toArray n } ∧ xs.length ≤ sizeLine := by
  obtain ⟨z, its, n, r, e⟩ := I.hok p _ h
  exact ⟨its, n, r, e, z⟩
/-! ### slices -/
theorem slice_bounds (lo hi : Option Int) (n : Nat) : (sliceBounds lo hi none n).1 = ((HT.sIx n 0 lo : Nat) : Int) ∧ (sliceBounds lo hi none n).2.1 = ((HT.sIx n n hi : Nat) : Int) ∧ (sliceBounds lo hi none n).2.2 = 1 := by
  refine ⟨?_, ?_, rfl⟩
  · cases lo with
    | none => simp [sliceBounds, HT.sIx]
    | some i =>
      simp only [sliceBounds, HT.sIx, Option.getD_none, show (1 : Int) > 0 by decide, if_true]
      by_cases h : i < 0
      · simp only [h, if_true] <;> omega
      · simp only [h, if_false] <;> omega
  · cases hi with
    | none => simp [sliceBounds, HT.sIx]
    | some i =>
      simp only [sliceBounds, HT.sIx, Option.getD_none, show (1 : Int) > 0 by decide, if_true]
      by_cases h : i < 0
      · simp only [h, if_true] <;> omega
      · simp only [h, if_false] <;> omega
theorem slicePick_cut (its : List Value) (lo hi : Option Int) : slicePick its.toArray lo hi none = ((its.drop (HT.sIx its.length 0 lo)).take (HT.sIx its.length its.length hi - HT.sIx its.length 0 lo)).toArray := by
  obtain ⟨h1, h2, h3⟩ := slice_bounds lo hi its.toArray.size
  unfold slicePick
  rw [h1, h2, h3]
  simp only [sliceRange_one, pick_run, List.size_toArray] <;> rfl
/-- xs[lo:hi] of a list: a new list -/
def rSlL (K : PySem.W.Frag) : V → Option Int → Option Int → Hp → VK → Prop := fun x lo hi H Q => ∃ a xs, x = .ref a ∧ SqL K H a xs ∧ ∀ p, H p = none → Q (.ref p) (upd H p (.lst (cutV xs lo hi)))
theorem sl_list : SlR X (rSlL X.K) := by
  intro pins s σ H x v vl vu lo hi sl Q I rx hs pl pu h
  obtain ⟨a, xs, rfl, hx, q⟩ := h
  cases rx
  obtain ⟨its, r, ht, hz⟩ := I.list hx
  have hlen := r.length
  refine ⟨"list", _, slot_list_getitem.lookup, ht.isList.typeIs, ?_⟩
  refine wpAny_getItem_list_slice ht.isList hs pl pu .none (by simp) ?_ (by rw [List.size_toArray] <;> omega)
  rw [slicePick_cut, ← hlen]
  refine ⟨.ref s.heap.objs.size, _, I.laid (t' := s.toks) (o := .lst (cutV xs lo hi)) (fun b ob q => Heap.get?_push_of_some _ q) (Nat.le_refl _) ?_, rfl, q _ (I.hok.fresh (Nat.le_refl _))⟩
  exact ⟨Nat.le_trans (cutV_length xs lo hi) hz, _, 0, (r.drop (HT.sIx xs.length 0 lo)).take (HT.sIx xs.length xs.length hi - HT.sIx xs.length 0 lo), Heap.get?_push_size _ rfl⟩

/-! ### in, not in: flat items -/
def flatV : V → Bool
  | .non => true
  | .bl _ => true
  | .int _ => true
  | .str _ => true
  | _ => false
/-- == of flat values -/
def eqV : V → V → Bool
  | .non, .non => true
  | .bl a, .bl b => a == b
  | .bl a, .int b => (if a then 1 else 0) == b
  | .int a, .bl b => a == (if b then 1 else 0)
  | .int a, .int b => a == b
  | .str a, .str b => a == b
  | _, _ => false
theorem eqAt_V {A : Around} {s : Shared} {y x : V} {u v : Value} (ry : RelV y u) (rx : RelV x v) (fy : flatV y = true) (fx : flatV x = true) : SeqAt.EqAt A s u v (eqV y x) := by
  cases y with
  | non =>
    cases ry
    cases x with
    | non => cases rx; exact SeqAt.EqAt.same _
    | bl b => cases rx; exact SeqAt.EqAt.none_bool b
    | int b => obtain ⟨t, rfl⟩ := rx; exact SeqAt.EqAt.none_int b t
    | str b => obtain ⟨t, rfl⟩ := rx; exact SeqAt.EqAt.none_str b t
    | _ => exact absurd (show false = true from fx) Bool.false_ne_true
  | bl a =>
    cases ry
    cases x with
    | non => cases rx; exact SeqAt.EqAt.bool_none a
    | bl b => cases rx; exact SeqAt.EqAt.bool_bool a b
    | int b => obtain ⟨t, rfl⟩ := rx; exact SeqAt.EqAt.bool_int a b t
    | str b => obtain ⟨t, rfl⟩ := rx; exact SeqAt.EqAt.bool_str a b t
    | _ => exact absurd (show false = true from fx) Bool.false_ne_true
  | int a =>
    obtain ⟨t', rfl⟩ := ry
    cases x with
    | non => cases rx; exact SeqAt.EqAt.int_none a t'
    | bl b => cases rx; exact SeqAt.EqAt.int_bool a t' b
    | int b => obtain ⟨t, rfl⟩ := rx; exact SeqAt.EqAt.int_int a t' b t
    | str b => obtain ⟨t, rfl⟩ := rx; exact SeqAt.EqAt.int_str a t' b t
    | _ => exact absurd (show false = true from fx) Bool.false_ne_true
  | str a =>
    obtain ⟨t', rfl⟩ := ry
    cases x with
    | non => cases rx; exact SeqAt.EqAt.str_none a t'
    | bl b => cases rx; exact SeqAt.EqAt.str_bool a t' b
    | int b => obtain ⟨t, rfl⟩ := rx; exact SeqAt.EqAt.str_int a t' b t
    | str b => obtain ⟨t, rfl⟩ := rx; exact SeqAt.EqAt.str_str a t' b t
    | _ => exact absurd (show false = true from fx) Bool.false_ne_true
  | _ => exact absurd (show false = true from fy) Bool.false_ne_true
/-- the items' answers, read off the values (a value's own answer does not lean on its token) -/
def eqU (x : V) (u : Value) : Bool := match u with
  | .none => eqV .non x
  | .bool b => eqV (.bl b) x
  | .int i _ => eqV (.int i) x
  | .str z _ => eqV (.str z) x
  | _ => false
theorem eqU_of {x y : V} {u : Value} (r : RelV y u) (f : flatV y = true) : eqU x u = eqV y x := by
  cases y with
  | non => cases r; rfl
  | bl b => cases r; rfl
  | int i => obtain ⟨t, rfl⟩ := r; rfl
  | str z => obtain ⟨t, rfl⟩ := r; rfl
  | _ => exact absurd (show false = true from f) Bool.false_ne_true
theorem any_eqU {x : V} : ∀ {xs : List V} {us : List Value}, Vals xs us → xs.all flatV = true → us.any (eqU x) = xs.any fun y => eqV y x
  | _, _, .nil, _ => rfl
  | y :: xs, u :: us, .cons r t, f => by
    rw [List.all_cons, Bool.and_eq_true] at f
    rw [List.any_cons, List.any_cons, eqU_of r f.1, any_eqU t f.2]
theorem mem_eqAt {A : Around} {s : Shared} {x : V} {v : Value} (rx : RelV x v) (fx : flatV x = true) : ∀ {xs : List V} {us : List Value}, Vals xs us → xs.all flatV = true → ∀ u ∈ us, SeqAt.EqAt A s u v (eqU x u)
  | _, _, .nil, _ => fun u hu => by cases hu
  | y :: xs, u :: us, .cons r t, f => fun u' hu => by
    rw [List.all_cons, Bool.and_eq_true] at f
    rcases List.mem_cons.mp hu with rfl | hu
    · rw [eqU_of r f.1]; exact eqAt_V r rx f.1 fx
    · exact mem_eqAt rx fx t f.2 u' hu
def inV (x : V) (xs : List V) : Bool := xs.any fun y => eqV y x
/-- x in a list or tuple of flat items -/
def rIn (K : PySem.W.Frag) (neg : Bool) : R2 := fun x y H Q => ∃ p xs, y = .ref p ∧ (SqL K H p xs ∨ SqT K H p xs) ∧ flatV x = true ∧ xs.all flatV = true ∧ Q (.bl (if neg then !inV x xs else inV x xs)) H
theorem op_in_seq : OpR X (compareOp .In) (rIn X.K false) := by
  intro pins s σ H x y v u Q I rx ry h
  obtain ⟨p, xs, rfl, hq, fx, fs, q⟩ := h
  cases ry
  rcases hq with hq | hq
  · obtain ⟨its, r, pl, hz⟩ := I.list hq
    refine SeqAt.in_listAt (eqU x) pl.isList (fun w hw => mem_eqAt rx fx r fs w (by simpa using hw)) ⟨.bl _, H, I, rfl, ?_⟩
    rw [show its.toArray.any (eqU x) = its.any (eqU x) by simp, any_eqU r fs]
    exact q
  · obtain ⟨its, r, pl, hz⟩ := I.tuple hq
    refine SeqAt.in_tupleAt (eqU x) pl (fun w hw => mem_eqAt rx fx r fs w (by simpa using hw)) ⟨.bl _, H, I, rfl, ?_⟩
    rw [show its.toArray.any (eqU x) = its.any (eqU x) by simp, any_eqU r fs]
    exact q
/-! ### len, list(x), tuple(x) of any list or tuple that is read -/
theorem call_len_seq : CallR X (.builtin "len") (fun xs H Q => ∃ p ys, xs = [.ref p] ∧ (SqL X.K H p ys ∨ SqT X.K H p ys) ∧ Q (.int ys.length) H) := by
  intro pins s σ H xs us Q I r h
  obtain ⟨p, ys, rfl, hq, q⟩ := h
  obtain ⟨u, rfl, rx⟩ := vals1 r
  cases rx
  have hn := line63
  rcases hq with hq | hq
  · obtain ⟨its, r', pl, hz⟩ := I.list hq
    have hlen := r'.length
    exact Calls.call_len_list pl.isList (by simp only [List.size_toArray] <;> omega) ⟨.int ys.length, H, I.tok _, ⟨s.toks + 1, by rw [List.size_toArray, hlen]⟩, q⟩
  · obtain ⟨its, r', pl, hz⟩ := I.tuple hq
    have hlen := r'.length
    exact len_tuple pl (by simp only [List.size_toArray] <;> omega) ⟨.int ys.length, H, I.tok _, ⟨s.toks + 1, by rw [List.size_toArray, hlen]⟩, q⟩
theorem CallR.or {f : Value} {r r' : List V → Hp → VK → Prop} (h : CallR X f r) (h' : CallR X f r') : CallR X f (fun xs H Q => r xs H Q ∨ r' xs H Q) := by
  intro pins s σ H xs us Q I rs q
  rcases q with q | q
  · exact h pins s σ H xs us Q I rs q
  · exact h' pins s σ H xs us Q I rs q
/-! ### the call of a builtin's method: o.m(..) -/
/-- the value is of that builtin type -/
def tyV (K : PySem.W.Frag) (T : String) (x : V) (H : Hp) : Prop := match x with
  | .str _ => T = "str"
  | .int _ => T = "int"
  | .ref p => (T = "list" ∧ ∃ xs, SqL K H p xs) ∨ (T = "tuple" ∧ ∃ o, K.lookup p = some o ∧ o.cls = .type "tuple" ∧ o.dict = none) ∨
      (T = "dict" ∧ ((∃ kvs, H p = some (.dK kvs)) ∨ ∃ kvs, H p = some (.dT kvs))) ∨ (T = "set" ∧ ∃ S n, H p = some (.set S n))
  | _ => False
theorem tyV_is {pins : List (Addr × Obj)} {σ : St} {H : Hp} {s : Shared} {T : String} {x : V} {v : Value} (I : Inv X pins σ H s) (r : RelV x v) (ty : tyV X.K T x H) :
    s.TypeIs v T ∧ ∀ a, v = .ref a → ∃ ob, s.heap.get? a = some ob ∧ ob.dict = none := by
  cases x with
  | str z =>
    obtain ⟨t, rfl⟩ := r
    cases (show T = "str" from ty)
    exact ⟨typeIs_str s z t, fun _ e => nomatch e⟩
  | int i =>
    obtain ⟨t, rfl⟩ := r
    cases (show T = "int" from ty)
    exact ⟨typeIs_int s i t, fun _ e => nomatch e⟩
  | ref p =>
    cases r
    rcases ty with ⟨rfl, xs, hq⟩ | ⟨rfl, o, hk, hc, hd⟩ | ⟨rfl, hk⟩ | ⟨rfl, S, n, hk⟩
    · obtain ⟨its, _, pl, _⟩ := I.list hq
      refine ⟨pl.isList.typeIs, fun a e => ?_⟩
      cases e
      obtain ⟨o, n, e, c, hd, _⟩ := pl
      exact ⟨o, e, hd⟩
    · refine ⟨⟨o, I.kIn p o hk, hc⟩, fun a e => ?_⟩
      cases e
      exact ⟨o, I.kIn _ o hk, hd⟩
    · have z : ∃ o, s.heap.get? p = some o ∧ o.ExactDict := by
        rcases hk with ⟨kvs, hk⟩ | ⟨kvs, hk⟩
        · obtain ⟨_, _, _, _, o, _, _, e, ex, _⟩ := I.hok p _ hk
          exact ⟨o, e, ex⟩
        · obtain ⟨_, _, _, _, o, _, _, e, ex, _⟩ := I.hok p _ hk
          exact ⟨o, e, ex⟩
      obtain ⟨o, e, ex⟩ := z
      refine ⟨⟨o, e, ex.1⟩, fun a e2 => ?_⟩
      cases e2
      exact ⟨o, e, ex.2.1⟩
    · obtain ⟨o, _, _, _, e, ex, _⟩ := I.hok p _ hk
      refine ⟨⟨o, e, ex.1⟩, fun a e2 => ?_⟩
      cases e2
      exact ⟨o, e, ex.2.1⟩
  | _ => exact False.elim ty
def tBM0 (K : PySem.W.Frag) (T : String) (r : V → List V → Hp → VK → Prop) (to : TE) : TE := fun σ H Q => to σ H fun x H1 => tyV K T x H1 ∧ r x [] H1 Q
def tBM (K : PySem.W.Frag) (T : String) (r : V → List V → Hp → VK → Prop) (to : TE) (t : TA) : TE := fun σ H Q => to σ H fun x H1 => tyV K T x H1 ∧ t σ H1 fun xs H2 => r x xs H2 Q
variable {o e : Expr} {es : List Expr} {to : TE} {t : TA} {name : Str} {apos cpos : Pos} {T id : String} {r : V → List V → Hp → VK → Prop}
theorem pe_bm0 (pa : PlainAttrs T) (slot : Slot T name id) (hty : typeOf (.builtin id) = pure (.type "method_descriptor")) (hm : MtR X id r) (ho : PE X o to)
    (hbase : attributeBase o name X.env (eval o X.env) = eval o X.env := by rfl) (hline : (apos.endLine == cpos.line) = true := by rfl) : PE X (.Call (.Attribute o name apos) [] [] cpos) (tBM0 X.K T r to) := by
  intro pins s σ H Q I h
  refine wpAny_Call_method0_late hbase hline (thn (ho pins s σ H _ I h) fun v s1 ⟨x, H1, I1, r1, ty, q1⟩ => ?_)
  obtain ⟨h1, h2⟩ := tyV_is I1 r1 ty
  exact ⟨T, id, pa, slot, hty, h1, h2, Calls.callWith_builtin rfl (PySem.evalArgs_none (hm pins s1 σ H1 x [] v [] Q I1 r1 .nil q1))⟩
theorem pe_bm (pa : PlainAttrs T) (slot : Slot T name id) (hty : typeOf (.builtin id) = pure (.type "method_descriptor")) (hm : MtR X id r) (ho : PE X o to) (ha : PA X (e :: es) t)
    (hbase : attributeBase o name X.env (eval o X.env) = eval o X.env := by rfl)
    (hfew : ((backTo cpos (starEach (e :: es) X.env)).all (fun x => !x.1) && (backToKw cpos (keywordEach [] X.env)).all (fun x => x.1.isSome)
      && decide ((e :: es).length + ([] : List Keyword).length + (if ([] : List Keyword).isEmpty then 0 else 1) < 30)) = true := by rfl)
    (hline : (apos.endLine == cpos.line) = true := by rfl) (hs : starEach (e :: es) X.env = (false, eval e X.env) :: starEach es X.env := by rfl) (hplain : (backTo cpos (starEach es X.env)).any (·.1) = false := by rfl) :
    PE X (.Call (.Attribute o name apos) (e :: es) [] cpos) (tBM X.K T r to t) := by
  intro pins s σ H Q I h
  refine wpAny_Call_method_late hbase hfew hline rfl (thn (ho pins s σ H _ I h) fun v s1 ⟨x, H1, I1, r1, ty, q1⟩ => ?_)
  obtain ⟨h1, h2⟩ := tyV_is I1 r1 ty
  refine ⟨T, id, pa, slot, hty, h1, h2, ?_⟩
  have hA := ha cpos pins s1 σ H1 _ I1 q1
  rw [hs] at hA ⊢
  refine Calls.callWith_builtin (by show (false || (backTo cpos (starEach es X.env)).any (·.1)) = false; rw [hplain] <;> rfl) (Calls.evalArgs_plain ?_)
  exact thn hA fun us s2 ⟨vs, H2, I2, r2, q2⟩ => hm pins s2 σ H2 x vs v us Q I2 r1 r2 q2
/- xs.append(e), list.index on a module's tuple .. are MtR facts of 06m -/
end
end L2

namespace L2
open PySem PySem.Spec PyProof.Rows

def MtM (X : Cx) (id : String) (r : V → List V → Hp → VK → Prop) : Prop :=
  ∀ (pins : List (Addr × Obj)) (s : Shared) (σ : St) (H : Hp) (x : V) (xs : List V) (v : Value) (us : List Value) (Q : VK), Inv X pins σ H s → RelV x v → Vals xs us → r x xs H Q →
    wpAny (model X.prog X.w) X.A (call (.builtin id) (v :: us)) (EP X pins σ Q) X.xe s

/-! ### lists of values -/
theorem Vals.one : ∀ {x : V} {us : List Value}, Vals [x] us → ∃ u, us = [u] ∧ RelV x u
  | _, _, .cons r .nil => ⟨_, rfl, r⟩
theorem Vals.two : ∀ {x y : V} {us : List Value}, Vals [x, y] us → ∃ u v, us = [u, v] ∧ RelV x u ∧ RelV y v
  | _, _, _, .cons r (.cons q .nil) => ⟨_, _, rfl, r, q⟩
theorem Vals.zero : ∀ {us : List Value}, Vals [] us → us = []
  | _, .nil => rfl
theorem Vals.dropLast {xs : List V} {us : List Value} (h : Vals xs us) : Vals xs.dropLast us.dropLast := by
  induction h with
  | nil => exact .nil
  | cons r t ih =>
    cases t with
    | nil => exact .nil
    | cons q t' => exact .cons r ih
theorem Vals.eraseIdx : ∀ {xs : List V} {us : List Value} (i : Nat), Vals xs us → Vals (xs.eraseIdx i) (us.eraseIdx i)
  | _, _, _, .nil => .nil
  | _, _, 0, .cons _ t => t
  | _, _, i + 1, .cons r t => .cons r (Vals.eraseIdx i t)
theorem erase_last {α : Type} (l : List α) : l.eraseIdx (l.length - 1) = l.dropLast := by
  induction l with
  | nil => rfl
  | cons a r ih =>
    cases r with
    | nil => rfl
    | cons b r =>
      have e : (a :: b :: r).length - 1 = ((b :: r).length - 1) + 1 := by
        have h1 : (a :: b :: r).length = r.length + 2 := rfl
        have h2 : (b :: r).length = r.length + 1 := rfl
        omega
      rw [e, List.eraseIdx_cons_succ, ih]
      all_goals rfl
section
variable {X : Cx} {pins : List (Addr × Obj)} {σ : St} {H : Hp} {s : Shared} {l b : Addr} {xs ys zs : List V}

/-! ### the two steps: a tracked list is rewritten, a new list is laid -/
theorem Inv.lset {its its' : List Value} {n : Nat} {f : Array Value → Array Value} {t' : Nat} (I : Inv X pins σ H s) (hH : H l = some (.lst xs))
    (e : s.heap.get? l = some { cls := .type "list", data := .seq its.toArray n }) (hf : f its.toArray = its'.toArray) (hv : Vals ys its') (hz : ys.length ≤ sizeLine) :
    Inv X pins σ (upd H l (.lst ys)) { s with heap := s.heap.update l (Obj.mapSeq f), toks := t' } := by
  have q := PySem.IsL.update e f
  rw [hf] at q
  refine I.write (x := l) (e := l) (by rw [hH]; exact trivial) (.inl rfl) (fun b' u hb hu => (Heap.get?_update_other s.heap (Obj.mapSeq f) (Ne.symm hb)).trans hu) ⟨_, q⟩ ?_
  exact ⟨hz, its', _, hv, q⟩
theorem Inv.lnew {its : List Value} {t' : Nat} (I : Inv X pins σ H s) (hv : Vals ys its) (hz : ys.length ≤ sizeLine) :
    Inv X pins σ (upd H s.heap.objs.size (.lst ys)) { s with heap := s.heap.push { cls := .type "list", data := .seq its.toArray }, toks := t' } :=
  I.laid (fun _ _ q => Heap.get?_push_of_some _ q) (Nat.le_refl _) ⟨hz, its, 0, hv, Heap.get?_push_size _ rfl⟩
theorem Inv.fresh (I : Inv X pins σ H s) : H s.heap.objs.size = none := I.hok.fresh (Nat.le_refl _)
theorem Inv.lstM (I : Inv X pins σ H s) (hH : H l = some (.lst xs)) : xs.length ≤ sizeLine ∧ ∃ (its : List Value) (n : Nat), Vals xs its ∧ xs.length = its.length ∧ s.heap.get? l = some { cls := .type "list", data := .seq its.toArray n } := by
  obtain ⟨z, its, n, r, e⟩ := I.hok l _ hH
  exact ⟨z, its, n, r, r.length, e⟩

end

section
variable {X : Cx}

/-! ### methods -/
def rAppend : V → List V → Hp → VK → Prop := fun x vs H Q => ∃ l xs y, x = .ref l ∧ vs = [y] ∧ H l = some (.lst xs) ∧ xs.length < sizeLine ∧ Q .non (upd H l (.lst (xs ++ [y])))
theorem mt_append : MtM X "list.append" rAppend := by
  intro pins s σ H x vs v us Q I rx rv h
  obtain ⟨l, xs, y, rfl, rfl, hH, hz, q⟩ := h
  cases rx
  obtain ⟨u, rfl, ru⟩ := rv.one
  obtain ⟨z, its, n, r, hl, e⟩ := I.lstM hH
  refine call_meets F.slot_list_append ⟨_, e, rfl⟩ F.entry_list_append (F.args_list_append_2 _ _) (PySem.list_append l its.toArray n u (by rw [List.size_toArray]; omega)) ⟨e, ?_⟩
  refine ⟨.non, _, I.lset (its' := its ++ [u]) hH e (by simp) (r.append (.cons ru .nil)) ?_, rfl, q⟩
  rw [List.length_append, List.length_singleton]
  omega

def rPop : V → List V → Hp → VK → Prop := fun x vs H Q => ∃ l xs y, x = .ref l ∧ vs = [] ∧ H l = some (.lst xs) ∧ xs[xs.length - 1]? = some y ∧ Q y (upd H l (.lst xs.dropLast))
theorem mt_pop : MtM X "list.pop" rPop := by
  intro pins s σ H x vs v us Q I rx rv h
  obtain ⟨l, xs, y, rfl, rfl, hH, hy, q⟩ := h
  cases rx
  have hus := rv.zero
  subst hus
  obtain ⟨z, its, n, r, hl, e⟩ := I.lstM hH
  obtain ⟨u, hu, ru⟩ := r.get hy
  have hy' : its.toArray[its.toArray.size - 1]? = some u := by
    show its.toArray[its.length - 1]? = some u
    rw [← Array.getElem?_toList, ← hl]
    exact hu
  refine call_meets F.slot_list_pop ⟨_, e, rfl⟩ F.entry_list_pop (F.args_list_pop_1 _) (MeetsSeq.list_pop_last l its.toArray n u hy' (by rw [List.size_toArray]; omega)) ⟨e, ?_⟩
  refine ⟨y, _, I.lset (its' := its.dropLast) hH e ?_ r.dropLast ?_, ru, q⟩
  · show its.toArray.eraseIdxIfInBounds (its.toArray.size - 1) = its.dropLast.toArray
    rw [List.size_toArray, List.eraseIdxIfInBounds_toArray, erase_last]
  · rw [List.length_dropLast]
    omega

/-! ### list + list, list += list, list * int -/
def rCat : R2 := fun x y H Q => ∃ l b xs zs, x = .ref l ∧ y = .ref b ∧ H l = some (.lst xs) ∧ H b = some (.lst zs) ∧ xs.length + zs.length ≤ sizeLine ∧ ∀ p, H p = none → Q (.ref p) (upd H p (.lst (xs ++ zs)))
theorem op_cat : OpR X (binaryOp .Add) rCat := by
  intro pins s σ H x y v u Q I rx ry h
  obtain ⟨l, b, xs, zs, rfl, rfl, hH, hB, hz, q⟩ := h
  cases rx
  cases ry
  obtain ⟨z, its, n, r, hl, e⟩ := I.lstM hH
  obtain ⟨z2, its2, n2, r2, hl2, e2⟩ := I.lstM hB
  refine PySem.P.add_list e e2 ?_ (by rw [List.size_toArray, List.size_toArray]; omega)
  have ea : its.toArray ++ its2.toArray = (its ++ its2).toArray := by simp
  rw [ea]
  exact ⟨.ref _, _, I.lnew (t' := s.toks) (r.append r2) (by rw [List.length_append]; omega), rfl, q _ I.fresh⟩
/-! ### del xs[i] -/
end

/-! ### xs[a:b] = ys -/
section
variable {prog : Program} {w : World} {A : Around} {E : Value → Shared → Prop} {s : Shared}
end

section
variable {X : Cx}
end
end L2

namespace Att
open PySem PySem.W PySem.Calls PyProof.Rows

/-! ### the script -/
theorem ints_of_wellAll {P : Params} {h : Heap} : ∀ (ns : List Int) (vs : List Value), WellAll P h vs (ns.map WData.int) → IntsAre vs ns := by
  intro ns
  induction ns with
  | nil =>
    intro vs w
    rw [List.map_nil] at w
    cases w
    exact .nil
  | cons n ns ih =>
    intro vs w
    rw [List.map_cons] at w
    cases w with
    | cons a b =>
      cases a
      exact .cons _ _ (ih _ b)

theorem script_of {l : OpenLaw} {n : Nat} (hn : l.most = some n) {P : Params} {h : Heap} {args : List WData} {vals : List Value}
    (hpre : l.row.toRowW.claim.pre args = true) (hwl : WellAll P h vals args) :
    ∃ a vs ns, vals = [Value.ref a] ∧ args = [WData.list (ns.map WData.int)] ∧ h.get? a = some { cls := .type "list", data := .seq vs.toArray } ∧ IntsAre vs ns ∧ ns.length ≤ n := by
  have hsh : WShape.hasAll [] args [.list .int] = true := (pre_splitW hpre).1
  have hc : l.pre.holds [] { args := args } = true := (pre_splitW hpre).2
  obtain ⟨d, r, rfl, h1, h2⟩ := hasAllW_cons hsh
  obtain rfl := hasAllW_nil h2
  obtain ⟨xs, rfl, h3⟩ := hasW_list h1
  obtain ⟨ns, rfl⟩ := items_int h3
  have hlen : ns.length ≤ n := by
    unfold OpenLaw.pre at hc
    have h4 : (WTm.not (.lt (.lit (.int (n : Int))) (.len (.arg 0)))).holds [] { args := [.list (ns.map .int)] } = true := by
      have h4 := (holds_andW hc).1
      rw [hn] at h4
      exact h4
    have h5 := condW_of h4 (w_not (w_lt w_lit (w_len_list (w_arg rfl))))
    rw [List.length_map] at h5
    refine Nat.le_of_not_lt fun q => ?_
    have q' : (n : Int) < ((ns.length : Nat) : Int) := by omega
    first
      | (rw [decide_eq_true q'] at h5; exact absurd h5 (by decide))
      | (simp at h5; omega)
  cases hwl with
  | cons w1 w2 =>
    cases w2
    cases w1 with
    | list ho hall => exact ⟨_, _, ns, rfl, rfl, ho, ints_of_wellAll ns _ hall, hlen⟩

theorem post_true (l : OpenLaw) (args : List WData) : l.row.toRowW.claim.post args (.bool true) args = true :=
  postW_of (r := l.row.toRowW) (X := (true == true))
    (show WShape.has [] (.bool true) .bool = true by first | rfl | decide | simp [WShape.has, WShape.arms, WShape.armsAll])
    (show (WTm.eq .res (.lit (.bool true))).value [] { args := args, res := some (.bool true), after := args } = some (.bool (true == true)) from w_eq_bool (w_res rfl) w_lit) rfl

/-! ### the attachment: holds_open's last premise (the goal 'hc' behind k_head) from a wpAny of the law's body -/
/-! ### rules over ANY heap (no ledger) from facts about the written part K: the library's own take a ledger (News) for what they write -/
section
variable {prog : Program} {w : World} {A : Around} {E : Value → Shared → Prop} {s : Shared} {K : Frag}

/-! the whole heap as the ledger: makes every rule that writes through a ledger a rule over any heap -/
end
end Att

namespace L2
open PySem PySem.Spec PyProof.Rows

theorem vals_ints : ∀ {vs : List Value} {ns : List Int}, IntsAre vs ns → Vals (ns.map V.int) vs
  | _, _, .nil => .nil
  | _, _, .cons n t h => .cons ⟨t, rfl⟩ (vals_ints h)

end L2

namespace L2
open PySem PySem.Spec PyProof.Rows

abbrev KOf {K : PySem.W.Frag} {h : Heap} (_ : K.In h) : PySem.W.Frag := K

end L2


/-! SHORT WORDS over the layer: a def of the text, its body, what a loop and a test want. -/
namespace L2
open PySem PySem.Spec PyProof.Rows

/-! ### the text by places -/
/-- the j-th statement of a class's body -/
def inClass (s : Stmt) (j : Nat) : Stmt := match s with
  | .ClassDef _ _ _ body _ _ _ _ _ _ _ => body.getD j (.Pass ⟨0, 0, 0, 0⟩)
  | _ => .Pass ⟨0, 0, 0, 0⟩
def defArgs (s : Stmt) : Arguments := match s with
  | .FunctionDef _ a _ _ _ _ _ _ _ _ => a
  | _ => { posonlyargs := [], args := [], vararg := none, kwonlyargs := [], kw_defaults := [], kwarg := none, defaults := [] }
def defBody (s : Stmt) : List Stmt := match s with
  | .FunctionDef _ _ b _ _ _ _ _ _ _ => b
  | _ => []
def defScope (s : Stmt) : Scope := match s with
  | .FunctionDef _ _ _ _ _ _ sc _ _ _ => sc
  | _ => { kind := .function, names := [], isGenerator := false, isCoroutine := false }

/-! ### no exception leaves a def -/
abbrev CX0 : CXT := fun _ _ _ _ _ _ => False
abbrev E0 : XK := fun _ _ _ => False
theorem pass0 {X : Cx} : Passes CX0 X E0 := fun _ _ _ _ _ _ _ h => h.elim

/-! ### a def (or method) of the text as it stands behind the top -/
structure Fun (K : PySem.W.Frag) (x qual : Str) (st : Stmt) (f : Addr) (fd : FuncData) : Prop where
  ex : ∃ (oc : Value) (od : Option Addr) (kV doc pm : Value) (an : Option Addr) (cdv ct : Value) (osl : Array (Option Value)),
    fd = PySem.W.fnOf x qual (defArgs st) (defBody st) (defScope st) .none kV doc pm an cdv ct ∧ K.lookup f = some ⟨oc, od, .func fd, osl⟩ ∧ PySem.W.codeIn K cdv qual = true
  kp : PySem.W.keepIn K (.ref f) = true
section
variable {P : Program} {w : World} {K : PySem.W.Frag} {mg : Str → Option Value} {base : Heap}
/-- THE RULE for a def: its body as a term of rules, and the reading of that term -/
theorem Fun.ok {x qual : Str} {st : Stmt} {f : Addr} {fd : FuncData} {N ps : List Str} {k : Nat} {sp : Sp} (F : Fun K x qual st f fd) (S : FnScope N ps (defScope st)) (len : ∀ vs H Q E, sp vs H Q E → vs.length = ps.length)
    (hbody : ∀ (cdv : Value) (A : Around) (outer : List Env) (s : Shared) (H : Hp) (vs : List V) (Q : VK) (E : XK), Room k (A.deeper (envOfC qual (defScope st) s.heap.objs.size f cdv)) → sp vs H Q E →
      ∃ t, PSs (cxOf CX0 P w K mg base N qual (defScope st) f cdv A outer s H E).nox (defBody st) t ∧ t { nx := fun _ H' => Q .non H', rt := Q } (start N vs) H) : FnOk P w K mg base CX0 (k + 1) f fd ps sp := by
  obtain ⟨oc, od, kV, doc, pm, an, cdv, ct, osl, rfl, lk, hcd⟩ := F.ex
  refine fn_of lk hcd S len fun A outer s H vs Q E hr hsp => ?_
  obtain ⟨t, h, q⟩ := hbody cdv A outer s H vs Q E hr hsp
  exact ⟨t, h.nox, q⟩
/-- how its arguments bind (no defaults): h is «fun _ _ _ _ _ _ us hl => match us, hl with | [_, _], _ => rfl», one _ a parameter -/
theorem Fun.binds {x qual : Str} {st : Stmt} {f : Addr} {fd : FuncData} {ps : List Str} (F : Fun K x qual st f fd)
    (h : ∀ (kV doc pm : Value) (an : Option Addr) (cdv ct : Value) (us : List Value), us.length = ps.length → bindArgs (PySem.W.fnOf x qual (defArgs st) (defBody st) (defScope st) .none kV doc pm an cdv ct) ⟨us, []⟩ = pure (ps.zip us)) : Binds K fd ps [] := by
  obtain ⟨oc, od, kV, doc, pm, an, cdv, ct, osl, rfl, lk, hcd⟩ := F.ex
  exact .all (h kV doc pm an cdv ct)
theorem fun_mk {x qual : Str} {st : Stmt} {f : Addr} {oc : Value} {od an : Option Addr} {osl : Array (Option Value)} {kV doc pm cdv ct : Value} (l : K.lookup f = some ⟨oc, od, .func (PySem.W.fnOf x qual (defArgs st) (defBody st) (defScope st) .none kV doc pm an cdv ct), osl⟩)
    (c : PySem.W.codeIn K cdv qual = true) (k : PySem.W.keepIn K (.ref f) = true) : Fun K x qual st f (PySem.W.fnOf x qual (defArgs st) (defBody st) (defScope st) .none kV doc pm an cdv ct) := ⟨⟨oc, od, kV, doc, pm, an, cdv, ct, osl, rfl, l, c⟩, k⟩
end
theorem hu_of {A : Around} {k : Nat} (hr : Room k A) : A.units + 1 < cLine := Nat.lt_of_le_of_lt (Nat.add_le_add_left (by decide : 1 ≤ 64) _) hr.units
theorem small1000 {n : Nat} (h : n ≤ 1000) : n < sizeLine := Nat.lt_of_le_of_lt h (by decide)

/-! ### expressions in short: the name that stands in the i-th slot -/
section
variable {X : Cx}
theorem pv (i : Nat) {x : Str} {pos : Pos} (hN : X.N[i]? = some x := by rfl) (hv : Vis X.env.scope x := by first | exact Or.inl rfl | exact Or.inr (Or.inl rfl) | exact Or.inr (Or.inr rfl)) (hd : (x == ("__debug__" : Str)) = false := by decide)
    (hcd : (x == ("__classdict__" : Str)) = false := by decide) : PE X (.Name x pos) (tVar i) := pe_var hN hv hd hcd
end

/-! ### tests -/
theorem iteF {A B : Prop} (h : B) : if false = true then A else B := by
  rw [if_neg Bool.false_ne_true]
  exact h
theorem iteT {A B : Prop} (h : A) : if true = true then A else B := by
  rw [if_pos rfl]
  exact h
theorem ite2 {c A B : Prop} [Decidable c] (h1 : c → A) (h2 : ¬ c → B) : if c then A else B := by
  by_cases h : c
  · rw [if_pos h]
    exact h1 h
  · rw [if_neg h]
    exact h2 h
/-! ### heaps -/
/-- all that was tracked is as it was -/
def Same (H H' : Hp) : Prop := ∀ b o, H b = some o → H' b = some o
theorem Same.refl (H : Hp) : Same H H := fun _ _ h => h
theorem Same.trans {H H1 H2 : Hp} (a : Same H H1) (b : Same H1 H2) : Same H H2 := fun c o h => b c o (a c o h)
theorem Same.free {H H' : Hp} (e : Same H H') {l : Addr} (h : H' l = Option.none) : H l = Option.none := by
  cases q : H l with
  | none => rfl
  | some o =>
    rw [e l o q] at h
    cases h
theorem Same.seq {K : PySem.W.Frag} {H H' : Hp} {a : Addr} {xs : List V} (e : Same H H') (h : SqL K H a xs) : SqL K H' a xs := by
  rcases h with (h | ⟨o, h⟩) | h
  · exact .inl (.inl (e _ _ h))
  · exact .inl (.inr ⟨o, e _ _ h⟩)
  · exact .inr h

end L2
namespace L2
open PySem PySem.Spec PyProof.Rows

/-! ### lists of pairs as tables -/
section
variable {κ : Type} [DecidableEq κ]
def valV (kvs : List (κ × V)) (k : κ) : Option V := (kvs.find? fun kv => decide (kv.1 = k)).map (·.2)
/-- in its place, or at the end -/
def putK (kvs : List (κ × V)) (k : κ) (v : V) : List (κ × V) :=
  if (kvs.any fun kv => decide (kv.1 = k)) = true then kvs.map (fun kv => if kv.1 = k then (kv.1, v) else kv) else kvs ++ [(k, v)]
def dropK (kvs : List (κ × V)) (k : κ) : List (κ × V) := kvs.filter fun kv => decide (kv.1 ≠ k)

theorem valV_pos {p : κ × V} {r : List (κ × V)} {k : κ} (e : p.1 = k) : valV (p :: r) k = some p.2 := by simp [valV, List.find?_cons, e]
theorem valV_neg {p : κ × V} {r : List (κ × V)} {k : κ} (e : ¬ p.1 = k) : valV (p :: r) k = valV r k := by simp [valV, List.find?_cons, e]
theorem valV_any (k : κ) : ∀ kvs : List (κ × V), (kvs.any fun kv => decide (kv.1 = k)) = (valV kvs k).isSome
  | [] => rfl
  | p :: r => by
    rw [List.any_cons]
    by_cases e : p.1 = k
    · simp only [valV_pos e, decide_eq_true e, Bool.true_or, Option.isSome_some]
    · rw [valV_neg e, decide_eq_false e, Bool.false_or]; exact valV_any k r
theorem valV_map (k j : κ) (y : V) : ∀ kvs : List (κ × V), valV (kvs.map fun kv => if kv.1 = k then (kv.1, y) else kv) j = (valV kvs j).map fun x => if j = k then y else x
  | [] => rfl
  | p :: r => by
    have ih := valV_map k j y r
    rw [List.map_cons]
    by_cases h : p.1 = k
    · rw [if_pos h]
      by_cases e : p.1 = j
      · rw [valV_pos (p := (p.1, y)) e, valV_pos e, Option.map_some, if_pos (e.symm.trans h)]
      · rw [valV_neg (p := (p.1, y)) e, valV_neg e, ih]
    · rw [if_neg h]
      by_cases e : p.1 = j
      · rw [valV_pos (p := p) e, valV_pos e, Option.map_some, if_neg (fun z => h (e.trans z))]
      · rw [valV_neg (p := p) e, valV_neg e, ih]
theorem valV_snoc (k j : κ) (y : V) : ∀ kvs : List (κ × V), valV kvs k = none → valV (kvs ++ [(k, y)]) j = if j = k then some y else valV kvs j
  | [], _ => by
    by_cases e : k = j
    · rw [if_pos e.symm]; exact valV_pos (p := (k, y)) e
    · rw [if_neg (fun z => e z.symm)]; exact valV_neg (p := (k, y)) e
  | p :: r, hn => by
    rw [List.cons_append]
    have hk : ¬ p.1 = k := fun z => by rw [valV_pos z] at hn; cases hn
    rw [valV_neg hk] at hn
    have ih := valV_snoc k j y r hn
    by_cases e : p.1 = j
    · rw [valV_pos e, valV_pos e, if_neg (fun z => hk (e.trans z))]
    · rw [valV_neg e, valV_neg e, ih]
theorem valV_put (kvs : List (κ × V)) (k j : κ) (y : V) : valV (putK kvs k y) j = if j = k then some y else valV kvs j := by
  unfold putK
  by_cases a : (kvs.any fun kv => decide (kv.1 = k)) = true
  · rw [if_pos a, valV_map]
    rw [valV_any] at a
    by_cases e : j = k
    · obtain ⟨x, hx⟩ := Option.isSome_iff_exists.mp a
      rw [if_pos e, e, hx, Option.map_some, if_pos rfl]
    · rw [if_neg e]
      cases valV kvs j with
      | none => rfl
      | some x => rw [Option.map_some, if_neg e]
  · rw [if_neg a]
    refine valV_snoc k j y kvs ?_
    rw [valV_any] at a
    cases q : valV kvs k with
    | none => rfl
    | some x => rw [q] at a; exact (a rfl).elim
theorem length_putK (kvs : List (κ × V)) (k : κ) (v : V) : (putK kvs k v).length ≤ kvs.length + 1 := by
  unfold putK
  split
  · rw [List.length_map]; omega
  · rw [List.length_append, List.length_cons, List.length_nil]; omega
theorem RelO.isSome_eq {o : Option V} {u : Option Value} (r : RelO o u) : o.isSome = u.isSome := by
  cases o with
  | none => cases u with
    | none => rfl
    | some _ => exact (show False from r).elim
  | some _ => cases u with
    | none => exact (show False from r).elim
    | some _ => rfl
theorem RelO.getD {o : Option V} {u : Option Value} {d : V} {d' : Value} (r : RelO o u) (rd : RelV d d') : RelV (o.getD d) (u.getD d') := by
  cases o with
  | none => cases u with
    | none => exact rd
    | some _ => exact (show False from r).elim
  | some _ => cases u with
    | none => exact (show False from r).elim
    | some _ => exact r

/-- raw tables of the same keys -/
theorem KV.val {kvs : List (κ × V)} {vs : List (κ × Value)} (r : KV kvs vs) (k : κ) : RelO (valV kvs k) (valueAt vs k) := by
  unfold KV at r
  induction r with
  | nil => exact True.intro
  | @cons p q ps qs h t ih =>
    obtain ⟨h1, h2⟩ := h
    by_cases e : p.1 = k
    · have e' : q.1 = k := h1.symm.trans e
      have b : valueAt (q :: qs) k = some q.2 := by simp [valueAt, List.find?_cons, e']
      rw [valV_pos e, b]; exact h2
    · have e' : ¬ q.1 = k := fun z => e (h1.trans z)
      have b : valueAt (q :: qs) k = valueAt qs k := by simp [valueAt, List.find?_cons, e']
      rw [valV_neg e, b]; exact ih
theorem KV.any {kvs : List (κ × V)} {vs : List (κ × Value)} (r : KV kvs vs) (k : κ) : (kvs.any fun kv => decide (kv.1 = k)) = vs.any fun kv => decide (kv.1 = k) := by
  unfold KV at r
  induction r with
  | nil => rfl
  | cons h t ih => rw [List.any_cons, List.any_cons, ih, h.1]
theorem KV.repl {kvs : List (κ × V)} {vs : List (κ × Value)} (r : KV kvs vs) (k : κ) {y : V} {u : Value} (ry : RelV y u) :
    KV (kvs.map fun kv => if kv.1 = k then (kv.1, y) else kv) (vs.map fun kv => if kv.1 = k then (kv.1, u) else kv) := by
  unfold KV at r ⊢
  induction r with
  | nil => exact .nil
  | @cons p q ps qs h t ih =>
    rw [List.map_cons, List.map_cons]
    refine .cons ?_ ih
    obtain ⟨h1, h2⟩ := h
    by_cases e : p.1 = k
    · rw [if_pos e, if_pos (h1.symm.trans e)]; exact ⟨h1, ry⟩
    · rw [if_neg e, if_neg (fun z => e (h1.trans z))]; exact ⟨h1, h2⟩
theorem KV.put {kvs : List (κ × V)} {vs : List (κ × Value)} (r : KV kvs vs) (k : κ) {y : V} {u : Value} (ry : RelV y u) : KV (putK kvs k y) (stored vs k u) := by
  unfold putK stored
  rw [r.any k]
  by_cases e : (vs.any fun kv => decide (kv.1 = k)) = true
  · rw [if_pos e, if_pos e]; exact r.repl k ry
  · rw [if_neg e, if_neg e]; exact Paired.snoc r ⟨rfl, ry⟩
theorem KV.drop {kvs : List (κ × V)} {vs : List (κ × Value)} (r : KV kvs vs) (k : κ) : KV (dropK kvs k) (without vs k) := by
  unfold KV at r ⊢
  unfold dropK without
  induction r with
  | nil => exact .nil
  | @cons p q ps qs h t ih =>
    obtain ⟨h1, h2⟩ := h
    rw [List.filter_cons, List.filter_cons]
    by_cases e : p.1 = k
    · have a : ¬ decide (p.1 ≠ k) = true := by simp [e]
      have b : ¬ decide (q.1 ≠ k) = true := by simp [h1.symm.trans e]
      rw [if_neg a, if_neg b]; exact ih
    · have e' : ¬ q.1 = k := fun z => e (h1.trans z)
      have a : decide (p.1 ≠ k) = true := by simp [e]
      have b : decide (q.1 ≠ k) = true := by simp [e']
      rw [if_pos a, if_pos b]; exact .cons ⟨h1, h2⟩ ih
theorem KV.keys {kvs : List (κ × V)} {vs : List (κ × Value)} (r : KV kvs vs) : kvs.map (·.1) = vs.map (·.1) := by
  unfold KV at r
  induction r with
  | nil => rfl
  | cons h t ih => rw [List.map_cons, List.map_cons, ih, h.1]
theorem KV.length {kvs : List (κ × V)} {vs : List (κ × Value)} (r : KV kvs vs) : kvs.length = vs.length := Paired.length r
end


/-! ### a tracked dict, its keys ints and texts or tuples of these -/
theorem kV_is {P : Program} {w : World} {k : Key} {u : Value} (r : RelV (kV k) u) : (mixKind P w).is k u = true := by
  cases k with
  | inl i => obtain ⟨t, e⟩ := (show ∃ t, u = Value.int i t from r); subst e; exact mixKind_int P w i t
  | inr x => obtain ⟨t, e⟩ := (show ∃ t, u = Value.str x t from r); subst e; exact mixKind_str P w x t
theorem items_are {P : Program} {w : World} : ∀ {ks : List Key} {us : List Value}, Vals (ks.map kV) us → ItemsAre (mixKind P w) ks us
  | [], _, r => by rw [List.map_nil] at r; cases r; exact .nil
  | k :: ks, _, r => by
    rw [List.map_cons] at r
    cases r with
    | cons h t => exact .cons (kV_is h) (items_are t)

/-- raw entries of a dict with tuple keys -/
abbrev KT (H : Hp) : List (List Key × V) → List (List Key × Addr × Value) → Prop := Paired fun p q => p.1 = q.1 ∧ H q.2.1 = some (.tup (p.1.map kV)) ∧ RelV p.2 q.2.2
theorem KT.val {H : Hp} {kvs : List (List Key × V)} {xs : List (List Key × Addr × Value)} (r : KT H kvs xs) (k : List Key) : RelO (valV kvs k) ((atKey xs k).map (·.2)) := by
  induction r with
  | nil => exact True.intro
  | @cons p q ps qs h t ih =>
    obtain ⟨h1, _, h2⟩ := h
    by_cases e : p.1 = k
    · have e' : q.1 = k := h1.symm.trans e
      have b : atKey (q :: qs) k = some q.2 := by simp [atKey, List.find?_cons, e']
      rw [valV_pos e, b]; exact h2
    · have e' : ¬ q.1 = k := fun z => e (h1.trans z)
      have b : atKey (q :: qs) k = atKey qs k := by simp [atKey, List.find?_cons, e']
      rw [valV_neg e, b]; exact ih
theorem KT.repl {H : Hp} {kvs : List (List Key × V)} {xs : List (List Key × Addr × Value)} (r : KT H kvs xs) (k : List Key) {y : V} {u : Value} (ry : RelV y u) :
    KT H (kvs.map fun kv => if kv.1 = k then (kv.1, y) else kv) (xs.map (putAt k u)) := by
  induction r with
  | nil => exact .nil
  | @cons p q ps qs h t ih =>
    rw [List.map_cons, List.map_cons]
    refine .cons ?_ ih
    obtain ⟨h1, h2, h3⟩ := h
    unfold putAt
    by_cases e : p.1 = k
    · rw [if_pos e, if_pos (h1.symm.trans e)]; exact ⟨h1, h2, ry⟩
    · rw [if_neg e, if_neg (fun z => e (h1.trans z))]; exact ⟨h1, h2, h3⟩
theorem KT.put {H : Hp} {kvs : List (List Key × V)} {xs : List (List Key × Addr × Value)} (r : KT H kvs xs) (k : List Key) {b : Addr} {y : V} {u : Value} (hb : H b = some (.tup (k.map kV))) (ry : RelV y u) :
    KT H (putK kvs k y) (storedH xs k b u) := by
  have e : (kvs.any fun kv => decide (kv.1 = k)) = (atKey xs k).isSome := by
    rw [valV_any, (r.val k).isSome_eq, Option.isSome_map]
  unfold putK storedH
  rw [e]
  by_cases q : (atKey xs k).isSome = true
  · rw [if_pos q, if_pos q]; exact r.repl k ry
  · rw [if_neg q, if_neg q]; exact Paired.snoc r ⟨rfl, hb, ry⟩
theorem KT.keeps {H H' : Hp} {kvs : List (List Key × V)} {xs : List (List Key × Addr × Value)} (r : KT H kvs xs) (ht : ∀ b ys, H b = some (.tup ys) → H' b = some (.tup ys)) : KT H' kvs xs :=
  Paired.mapP r fun _ _ z => ⟨z.1, ht _ _ z.2.1, z.2.2⟩

section
variable {P : Program} {w : World} {H : Hp} {h : Heap} {a : Addr}
theorem rd_of {u : HO} (ok : HOk P w H h) (e : Rd H a u) : ObjOk P w H h a u := e.ok ok
theorem dk_rd {kvs : List (Key × V)} (ok : HOk P w H h) (e : Rd H a (.dK kvs)) : kvs.length ≤ sizeLine ∧ (a == sysModules) = false ∧ ∃ vs, KV kvs vs ∧ h.DictOf (mixKind P w) a vs :=
  show ObjOk P w H h a (.dK kvs) from rd_of ok e
theorem dk_of {kvs : List (Key × V)} (ok : HOk P w H h) (e : H a = some (.dK kvs)) : kvs.length ≤ sizeLine ∧ (a == sysModules) = false ∧ ∃ vs, KV kvs vs ∧ h.DictOf (mixKind P w) a vs := dk_rd ok (.inl e)
/-- a tracked tuple of ints and texts is a key -/
theorem key_of {ks : List Key} (ok : HOk P w H h) (e : H a = some (.tup (ks.map kV))) : (tupleKind (mixKind P w)).is h ks a := by
  obtain ⟨_, its, r, o, h1, h2, n, h3⟩ := (show ObjOk P w H h a (.tup (ks.map kV)) from ok a _ e)
  exact ⟨o, its.toArray, n, h1, h2, h3, by simpa using items_are r⟩
theorem dt_rd {kvs : List (List Key × V)} (ok : HOk P w H h) (e : Rd H a (.dT kvs)) : kvs.length ≤ sizeLine ∧ (a == sysModules) = false ∧
    ∃ xs, KT H kvs xs ∧ h.DictOfH (tupleKind (mixKind P w)) a xs := by
  obtain ⟨z, y, xs, r, o, es, ep, h1, h2, h3, h4, h5⟩ := (show ObjOk P w H h a (.dT kvs) from rd_of ok e)
  refine ⟨z, y, xs, r, o, es, ep, h1, h2, h3, h4, fun x hx => ?_, h5⟩
  have all : ∀ {l : List (List Key × V)} {m : List (List Key × Addr × Value)}, KT H l m → ∀ x ∈ m, (tupleKind (mixKind P w)).is h x.1 x.2.1 := by
    intro l m q
    induction q with
    | nil => intro x hx; exact nomatch hx
    | @cons p q ps qs hq t ih =>
      intro x hx
      rcases List.mem_cons.mp hx with e | hx
      · subst e
        exact key_of ok (by rw [← hq.1]; exact hq.2.1)
      · exact ih x hx
  exact all r x hx
theorem dt_of {kvs : List (List Key × V)} (ok : HOk P w H h) (e : H a = some (.dT kvs)) : kvs.length ≤ sizeLine ∧ (a == sysModules) = false ∧
    ∃ xs, KT H kvs xs ∧ h.DictOfH (tupleKind (mixKind P w)) a xs := dt_rd ok (.inl e)
end

/-- what the dict at a holds at the key y -/
def DGet (H : Hp) (a : Addr) (y : V) (r : Option V) : Prop :=
  (∃ kvs k, Rd H a (.dK kvs) ∧ y = kV k ∧ r = valV kvs k) ∨ ∃ kvs k b, Rd H a (.dT kvs) ∧ y = .ref b ∧ H b = some (.tup (k.map kV)) ∧ r = valV kvs k
/-- the heap behind a[y] = v -/
def DPut (H : Hp) (a : Addr) (y v : V) (H' : Hp) : Prop :=
  (∃ kvs k, H a = some (.dK kvs) ∧ y = kV k ∧ kvs.length < sizeLine ∧ H' = upd H a (.dK (putK kvs k v))) ∨
  ∃ kvs k b, H a = some (.dT kvs) ∧ y = .ref b ∧ H b = some (.tup (k.map kV)) ∧ kvs.length < sizeLine ∧ H' = upd H a (.dT (putK kvs k v))
theorem DGet.k {H : Hp} {a : Addr} {kvs : List (Key × V)} {k : Key} (e : H a = some (.dK kvs)) : DGet H a (kV k) (valV kvs k) := .inl ⟨kvs, k, .inl e, rfl, rfl⟩
theorem DGet.t {H : Hp} {a b : Addr} {kvs : List (List Key × V)} {k : List Key} (e : H a = some (.dT kvs)) (eb : H b = some (.tup (k.map kV))) : DGet H a (.ref b) (valV kvs k) := .inr ⟨kvs, k, b, .inl e, rfl, eb, rfl⟩
theorem DPut.k {H : Hp} {a : Addr} {kvs : List (Key × V)} {k : Key} {v : V} (e : H a = some (.dK kvs)) (hl : kvs.length < sizeLine) : DPut H a (kV k) v (upd H a (.dK (putK kvs k v))) := .inl ⟨kvs, k, e, rfl, hl, rfl⟩
theorem DPut.t {H : Hp} {a b : Addr} {kvs : List (List Key × V)} {k : List Key} {v : V} (e : H a = some (.dT kvs)) (eb : H b = some (.tup (k.map kV))) (hl : kvs.length < sizeLine) :
    DPut H a (.ref b) v (upd H a (.dT (putK kvs k v))) := .inr ⟨kvs, k, b, e, rfl, eb, hl, rfl⟩


section
variable {X : Cx} {pins : List (Addr × Obj)} {σ : St} {H : Hp} {s : Shared} {a : Addr} {y v : V} {u r : Value} {o : Option V} {A : Around} {E : Value → Shared → Prop}

theorem Inv.big (I : Inv X pins σ H s) : sysModules < s.heap.objs.size := by
  have h : mainGlobals < s.heap.objs.size := (I.mod.glob.keeps I.bk).lt
  exact Nat.lt_trans (by decide) h

/-- d[y], there -/
theorem d_getItem {Q : Value → Shared → Prop} (hu : A.units + 1 < cLine) (I : Inv X pins σ H s) (g : DGet H a y (some v)) (ry : RelV y u) (h : ∀ w' s', Inv X pins σ H s' → RelV v w' → Q w' s') :
    wpAny (model X.prog X.w) A (getItem (.ref a) u) Q E s := by
  rcases g with ⟨kvs, k, e, ey, l⟩ | ⟨kvs, k, b, e, ey, eb, l⟩
  · subst ey
    obtain ⟨z, hd, vs, rel, dd⟩ := dk_rd I.hok e
    obtain ⟨w', hw, rw'⟩ := RelO.some_of (v := v) (o := valueAt vs k) (by rw [l]; exact rel.val k)
    exact wpAny_getItem_of (kV_is ry) dd.mapOf hw (h w' _ (I.tok _) rw')
  · subst ey
    cases (show u = Value.ref b from ry)
    obtain ⟨z, hd, xs, rel, dd⟩ := dt_rd I.hok e
    obtain ⟨w', hw, rw'⟩ := RelO.some_of (v := v) (o := (atKey xs k).map (·.2)) (by rw [l]; exact rel.val k)
    obtain ⟨p, hp, hp2⟩ := Option.map_eq_some_iff.mp hw
    refine wpAny_getItem_heap (tupleKind_room_in1 hu) (key_of I.hok eb) dd hp ?_
    rw [hp2]
    exact h w' _ (I.tok _) rw'
/-- a dict's object is replaced -/
theorem d_write {h' : Heap} {t' : Nat} {ob : HO} (I : Inv X pins σ H s) (mu : Mut (H a)) (hs : Heap.SameBut a s.heap h') (he : ∃ q, h'.get? a = some q) (new : ObjOk X.prog X.w (upd H a ob) h' a ob) :
    Inv X pins σ (upd H a ob) { s with heap := h', toks := t' } :=
  I.write (x := a) (e := a) mu (.inl rfl) (fun b q hb z => (hs.2 b hb).trans z) he new
theorem dk_new {P : Program} {w : World} {H' : Hp} {h' : Heap} {kvs : List (Key × V)} {vs : List (Key × Value)} (z : kvs.length ≤ sizeLine) (hd : (a == sysModules) = false) (rel : KV kvs vs) (dd : h'.DictOf (mixKind P w) a vs) :
    ObjOk P w H' h' a (.dK kvs) := ⟨z, hd, vs, rel, dd⟩
/-- d[y] = v -/
theorem d_setItem {H' : Hp} {Q : Unit → Shared → Prop} (hu : A.units + 1 < cLine) (I : Inv X pins σ H s) (g : DPut H a y v H') (ry : RelV y u) (rv : RelV v r) (h : ∀ s', Inv X pins σ H' s' → Q () s') :
    wpAny (model X.prog X.w) A (setItem (.ref a) u r) Q E s := by
  rcases g with ⟨kvs, k, e, ey, l, eH⟩ | ⟨kvs, k, b, e, ey, eb, l, eH⟩
  · subst ey eH
    obtain ⟨z, hd, vs, rel, dd⟩ := dk_of I.hok e
    have hz : vs.length ≤ sizeLine := by rw [← rel.length]; exact z
    have hl : (putK kvs k v).length ≤ sizeLine := by have := length_putK kvs k v; omega
    refine wpAny_setItem_pairs (hsz := hz) (kV_is ry) dd fun h' dd' hs => h _ ?_
    have he : ∃ q, h'.get? a = some q := let ⟨q, _, _, hq, _⟩ := dd'; ⟨q, hq⟩
    exact d_write I (by rw [e]; exact True.intro) hs he (dk_new hl hd (rel.put k rv) dd')
  · subst ey eH
    cases (show u = Value.ref b from ry)
    obtain ⟨z, hd, xs, rel, dd⟩ := dt_of I.hok e
    have hz : xs.length ≤ sizeLine := by rw [← Paired.length rel]; exact z
    have hl : (putK kvs k v).length ≤ sizeLine := by have := length_putK kvs k v; omega
    refine wpAny_setItem_heap (hsz := hz) (tupleKind_room_in1 hu) (key_of I.hok eb) dd fun h' dd' hs => h _ ?_
    obtain ⟨q, es, ep, hq, h2, h3, h4, _, h5⟩ := dd'
    refine d_write I (by rw [e]; exact True.intro) hs ⟨q, hq⟩ ⟨hl, hd, _, (rel.put k eb rv).keeps fun c ys ec => ?_, q, es, ep, hq, h2, h3, h4, h5⟩
    rw [upd_ne (ne_of ec e (fun z => nomatch z))]
    exact ec
end

section
variable {X : Cx} {pins : List (Addr × Obj)} {σ : St} {H : Hp} {s : Shared} {a : Addr} {kvs : List (Key × V)} {k : Key} {u : Value} {A : Around} {E : Value → Shared → Prop}
end


/-! ### readings and rules -/
/-- the element of a subscription, not a slice -/
def NoSl (i : Expr) : Prop := ∀ ov iv, subscripted i false ov iv = operate [ov, iv] (getItem ov iv)
theorem subD_of {prog : Program} {w : World} {A : Around} {E : Value → Shared → Prop} {s : Shared} {env : Env} {value slice : Expr} {pos : Pos} {T id : String} {Q : Value → Shared → Prop}
    (hl : typeLookup (.type T) "__getitem__" = pure (some (.builtin id))) (hs : NoSl slice)
    (h : wpAny (model prog w) A (eval value env) (fun o s₁ => wpAny (model prog w) A (eval slice env) (fun i s₂ => s₂.TypeIs o T ∧ wpAny (model prog w) A (getItem o i) Q E s₂) E s₁) E s) :
    wpAny (model prog w) A (eval (.Subscript value slice pos) env) Q E s := by
  refine Subscript_ (wpAny_mono h (fun o s₁ h₁ => wpAny_mono h₁ (fun i s₂ h₂ => ?_) fun _ _ x => x) fun _ _ x => x)
  obtain ⟨hT, h₂⟩ := h₂
  unfold subscriptTail
  refine wpAny_bind ?_
  rw [getitemInPython_of_ne hT.not_modules]
  refine wpAny_bind (wpAny_specialOf hT hl ?_)
  have fin : wpAny (model prog w) A (subscripted slice false o i) (fun r s₃ => wpAny (model prog w) A (letTemporaryGo value o r >>= fun _ => pure r) Q E s₃) E s₂ := by
    rw [hs o i]
    exact wpAny_operating (wpAny_mono h₂ (fun r s₃ h₃ => wpAny_bind (wpAny_letTemporaryGo (wpAny_pure h₃))) fun _ _ x => x)
  first
    | exact wpAny_pure (wpAny_bind fin)
    | exact wpAny_bind (wpAny_pure (wpAny_bind fin))
    | exact wpAny_bind fin

theorem dict_typeIs {X : Cx} {pins : List (Addr × Obj)} {σ : St} {H : Hp} {s : Shared} {a : Addr} {y : V} {o : Option V} (I : Inv X pins σ H s) (g : DGet H a y o) : s.TypeIs (.ref a) "dict" := by
  rcases g with ⟨kvs, k, e, _, _⟩ | ⟨kvs, k, b, e, _, _, _⟩
  · obtain ⟨_, _, vs, _, dd⟩ := dk_rd I.hok e
    exact dd.typeIs
  · obtain ⟨_, _, xs, _, dd⟩ := dt_rd I.hok e
    exact dd.typeIs
/-- d[y] -/
def tDGet (td ty : TE) : TE := fun σ H Q => td σ H fun x H1 => ty σ H1 fun y H2 => ∃ a v, x = .ref a ∧ DGet H2 a y (some v) ∧ Q v H2
/-- d[y] = v -/
def sDPut (td ty tv : TE) : TS := fun D σ H => tv σ H fun v H1 => td σ H1 fun x H2 => ty σ H2 fun y H3 => ∃ a H4, x = .ref a ∧ DPut H3 a y v H4 ∧ D.nx σ H4
section
variable {X : Cx} {o i e value : Expr} {pos pos' tpos : Pos} {td ty tv : TE}
theorem pe_dget (hu : X.A.units + 1 < cLine) (ho : PE X o td) (hi : PE X i ty) (hs : NoSl i) : PE X (.Subscript o i pos) (tDGet td ty) := by
  intro pins s σ H Q I h
  refine subD_of PySem.F.slot_dict_getitem.lookup hs (thn (ho pins s σ H _ I h) fun u s1 ⟨x, H1, I1, rx, q1⟩ => thn (hi pins s1 σ H1 _ I1 q1) fun iv s2 ⟨y, H2, I2, ry, a, v, ex, g, q2⟩ => ?_)
  subst ex
  obtain rfl : u = Value.ref a := rx
  exact ⟨dict_typeIs I2 g, d_getItem hu I2 g ry fun w' s3 I3 rw' => ⟨v, H2, I3, rw', q2⟩⟩
theorem ps_dput (hu : X.A.units + 1 < cLine) (ho : PE X o td) (hi : PE X i ty) (hv : PE X value tv) (hs : swapsWith value (some (.Subscript o i pos')) pos.line X.env = pure false) :
    PS X (.Assign [.Subscript o i pos'] value pos) (sDPut td ty tv) := by
  intro pins s σ H D I h
  refine wpAny_Assign_Subscript (thn (hv pins s σ H _ I h) fun r s1 ⟨v, H1, I1, rv, q1⟩ => thn (ho pins s1 σ H1 _ I1 q1) fun u s2 ⟨x, H2, I2, rx, q2⟩ => thn (hi pins s2 σ H2 _ I2 q2) fun iv s3 ⟨y, H3, I3, ry, a, H4, ex, g, q3⟩ => ?_) hs
  subst ex
  obtain rfl : u = Value.ref a := rx
  exact d_setItem hu I3 g ry rv fun s4 I4 => ⟨σ, H4, I4, q3⟩
end


/-! ### displays -/
theorem dk_empty {P : Program} {w : World} {H : Hp} (h : Heap) (hb : sysModules < h.objs.size) : ObjOk P w H (h.push { cls := .type "dict", data := .dict #[] }) h.objs.size (.dK []) :=
  ⟨Nat.zero_le _, beq_eq_false_iff_ne.mpr (Ne.symm (Nat.ne_of_lt hb)), [], .nil, Heap.DictOf.new h⟩
/-- {}, to be a dict of the kind that is wanted -/
def tDNewK : TE := fun _ H Q => ∀ p, H p = none → Q (.ref p) (upd H p (.dK []))
section
variable {X : Cx} {pos : Pos}
theorem pe_dnewK : PE X (.Dict [] [] pos) tDNewK := fun pins s σ H Q I h =>
  wpAny_Dict_empty ⟨.ref s.heap.objs.size, _, I.laid (a := s.heap.objs.size) (o := .dK []) (t' := s.toks) (fun _ _ q => Heap.get?_push_of_some _ q) (Nat.le_refl _) (dk_empty s.heap I.big), rfl, h _ (I.hok.fresh (Nat.le_refl _))⟩
end

/-- the pairs of a display, from the left -/
def tPairs : List (TE × TE) → St → Hp → (List (V × V) → Hp → Prop) → Prop
  | [], _, H, Q => Q [] H
  | (tk, tv) :: r, σ, H, Q => tk σ H fun x H1 => tv σ H1 fun y H2 => tPairs r σ H2 fun ps H3 => Q ((x, y) :: ps) H3
abbrev VV : List (V × V) → List (Value × Value) → Prop := Paired fun p q => RelV p.1 q.1 ∧ RelV p.2 q.2
def PPs (X : Cx) (pos : Pos) (keys : List (Option Expr)) (values : List Expr) (trs : List (TE × TE)) : Prop :=
  ∀ (pins : List (Addr × Obj)) (s : Shared) (σ : St) (H : Hp) (Q : List (V × V) → Hp → Prop), Inv X pins σ H s → tPairs trs σ H Q →
    wpAny (model X.prog X.w) X.A (evalPairs (pairTrees keys values X.env pos)) (fun vs s' => ∃ ps H', Inv X pins σ H' s' ∧ VV ps vs ∧ Q ps H') X.xe s
/-! ### methods -/
/-- a method call o.m(e) of a built-in, with one argument: what must be seen of the text -/
structure M1 (X : Cx) (o : Expr) (m : Str) (apos : Pos) (e : Expr) (cpos : Pos) : Prop where
  base : attributeBase o m X.env (eval o X.env) = eval o X.env
  few : ((backTo cpos (starEach [e] X.env)).all (fun x => !x.1) && (backToKw cpos (keywordEach [] X.env)).all (fun x => x.1.isSome)
    && decide (([e] : List Expr).length + ([] : List Keyword).length + (if ([] : List Keyword).isEmpty then 0 else 1) < 30)) = true
  line : (apos.endLine == cpos.line) = true
  trees : backTo cpos (starEach [e] X.env) = [(false, eval e X.env)]
structure M2 (X : Cx) (o : Expr) (m : Str) (apos : Pos) (e f : Expr) (cpos : Pos) : Prop where
  base : attributeBase o m X.env (eval o X.env) = eval o X.env
  few : ((backTo cpos (starEach [e, f] X.env)).all (fun x => !x.1) && (backToKw cpos (keywordEach [] X.env)).all (fun x => x.1.isSome)
    && decide (([e, f] : List Expr).length + ([] : List Keyword).length + (if ([] : List Keyword).isEmpty then 0 else 1) < 30)) = true
  line : (apos.endLine == cpos.line) = true
  trees : backTo cpos (starEach [e, f] X.env) = [(false, eval e X.env), (false, eval f X.env)]

/-- a is a dict, whatever its keys -/
def IsD (H : Hp) (a : Addr) : Prop := (∃ kvs, Rd H a (.dK kvs)) ∨ ∃ kvs, Rd H a (.dT kvs)
theorem isD_at {X : Cx} {pins : List (Addr × Obj)} {σ : St} {H : Hp} {s : Shared} {a : Addr} (I : Inv X pins σ H s) (d : IsD H a) :
    s.TypeIs (.ref a) "dict" ∧ (∀ b, Value.ref a = .ref b → ∃ ob, s.heap.get? b = some ob ∧ ob.dict = none) ∧ (a == sysModules) = false := by
  rcases d with ⟨kvs, e⟩ | ⟨kvs, e⟩
  · obtain ⟨_, hd, vs, _, dd⟩ := dk_rd I.hok e
    refine ⟨dd.typeIs, fun b q => ?_, hd⟩
    cases q
    obtain ⟨ob, _, _, h1, h2, _⟩ := dd
    exact ⟨ob, h1, h2.2.1⟩
  · obtain ⟨_, hd, xs, _, dd⟩ := dt_rd I.hok e
    refine ⟨dd.typeIs, fun b q => ?_, hd⟩
    cases q
    obtain ⟨ob, _, _, h1, h2, _⟩ := dd
    exact ⟨ob, h1, h2.2.1⟩

section
variable {X : Cx} {pins : List (Addr × Obj)} {σ : St} {H : Hp} {s : Shared} {a : Addr} {y d : V} {u r : Value} {o : Option V} {A : Around} {E : Value → Shared → Prop}
/-- d.get(y) -/
theorem d_get1 {Q : Value → Shared → Prop} (hu : A.units + 1 < cLine) (I : Inv X pins σ H s) (g : DGet H a y o) (ry : RelV y u) (h : ∀ w' s', Inv X pins σ H s' → RelV (o.getD .non) w' → Q w' s') :
    wpAny (model X.prog X.w) A (call (.builtin "dict.get") [.ref a, u]) Q E s := by
  rcases g with ⟨kvs, k, e, ey, l⟩ | ⟨kvs, k, b, e, ey, eb, l⟩
  · subst ey
    obtain ⟨z, hd, vs, rel, dd⟩ := dk_rd I.hok e
    refine call_meetsIn PySem.F.slot_dict_get dd.typeIs PySem.F.entry_dict_get (PySem.F.args_dict_get_2 _ _) (meets_dict_get (mixKind X.prog X.w) a (kV_is ry) hd) ⟨_, dd.mapOf, h _ _ (I.tok _) ?_⟩
    rw [l]
    exact (rel.val k).getD rfl
  · subst ey
    cases (show u = Value.ref b from ry)
    obtain ⟨z, hd, xs, rel, dd⟩ := dt_rd I.hok e
    refine call_meetsIn PySem.F.slot_dict_get dd.typeIs PySem.F.entry_dict_get (PySem.F.args_dict_get_2 _ _) (meetsH_dict_get (tupleKind (mixKind X.prog X.w)) a b hd) ⟨tupleKind_room_in1 hu, k, xs, key_of I.hok eb, dd, h _ _ (I.tok _) ?_⟩
    rw [l]
    exact (rel.val k).getD rfl
end

def tDGet1 (td ty : TE) : TE := fun σ H Q => td σ H fun x H1 => ∃ a, x = .ref a ∧ IsD H1 a ∧ ty σ H1 fun y H2 => ∃ o, DGet H2 a y o ∧ Q (o.getD .non) H2
section
variable {X : Cx} {o e f : Expr} {apos cpos : Pos} {td ty tx : TE}
theorem pe_dget1 (hu : X.A.units + 1 < cLine) (ho : PE X o td) (he : PE X e ty) (m : M1 X o "get" apos e cpos) : PE X (.Call (.Attribute o "get" apos) [e] [] cpos) (tDGet1 td ty) := by
  intro pins s σ H Q I h
  refine wpAny_Call_method m.base m.few m.line PySem.F.plainAttrs_dict PySem.F.slot_dict_get PySem.F.type_dict_get (thn (ho pins s σ H _ I h) fun u s1 ⟨x, H1, I1, rx, a, ex, d, q1⟩ => ?_)
  subst ex
  obtain rfl : u = Value.ref a := rx
  obtain ⟨t1, t2, _⟩ := isD_at I1 d
  refine ⟨t1, t2, ?_⟩
  rw [m.trees]
  refine Calls.callWith_builtin rfl (Calls.evalArgs_plain (Calls.spliced_cons (thn (he pins s1 σ H1 _ I1 q1) fun iv s2 ⟨y, H2, I2, ry, ov, g, q2⟩ => Calls.spliced_nil ?_)))
  exact d_get1 hu I2 g ry fun w' s3 I3 rw' => ⟨_, H2, I3, rw', q2⟩
end

/-! ### dict(d): a copy -/
section
variable {X : Cx} {pins : List (Addr × Obj)} {σ : St} {H : Hp} {s : Shared} {a : Addr} {kvs : List (Key × V)} {A : Around} {E : Value → Shared → Prop}
end


section
variable {X : Cx} {pins : List (Addr × Obj)} {σ : St} {H : Hp} {s : Shared} {a : Addr} {y : V} {u : Value} {A : Around} {E : Value → Shared → Prop}
end
end L2

namespace L2
open PySem PySem.Spec PyProof.Rows
section
variable {X : Cx}
end
/-! ### a dict's pairs: keys that differ -/
section
variable {κ : Type} [DecidableEq κ]
end
end L2
/-! comprehensions over the layer -/
namespace L2
open PySem PySem.Spec PyProof.Rows PySem.Calls

/-! ### the loop of a comprehension, with the step ahead of the store -/
section
variable {prog : Program} {w : World} {A : Around} {R : Result → Shared → Prop} {s : Shared}
theorem compLoop_go {elt target iter : Expr} {scope : Scope} {pos : Pos} {it acc : Value} {env : Env} (I : Nat → Shared → Prop)
    (turn : ∀ n s, I n s → wpAny (model prog w) A (pyNext it) (fun r s₁ => match r with
      | none => R (.ok .next) s₁
      | some v => wpAny (model prog w) A (letOwnedTupleGo target it v) (fun _ s₂ => wpAny (model prog w) A (assign target env v) (fun _ s₃ =>
          wpAny (model prog w) A (eval elt env) (fun x s₄ =>
            wpAny (model prog w) A (call (.builtin "list.append") [acc, x]) (fun _ s₅ => ∃ m, m < n ∧ I m s₅) (notedBy (model prog w) A env fun e s' => R (.error e) s') s₄)
            (notedBy (model prog w) A env fun e s' => R (.error e) s') s₃) (notedBy (model prog w) A env fun e s' => R (.error e) s') s₂) (notedBy (model prog w) A env fun e s' => R (.error e) s') s₁)
      (notedBy (model prog w) A env fun e s' => R (.error e) s') s)
    (n : Nat) (h : I n s) : codeAny (model prog w) A (.compLoop (.ListComp elt [⟨target, iter, [], 0⟩] scope pos) 0 it acc env) R s := by
  refine codeAny_loop rfl I (fun n s hI => ?_) n h
  show wpAny _ A ((compTurn (.ListComp elt [⟨target, iter, [], 0⟩] scope pos) 0 it acc env).onRaise (fun x => do noteFrame x env; theTreesLotGoes x)) _ _ s
  refine wpAny_noted ?_
  rw [compTurn_list1]
  refine wpAny_bind (wpAny_standAt (wpAny_bind (wpAny_mono (turn n s hI) (fun r s₁ h₁ => ?_) fun _ _ h' => h')))
  cases r with
  | none => exact wpAny_pure h₁
  | some v =>
    refine wpAny_bind (wpAny_mono h₁ (fun _ s₂ h₂ => wpAny_bind (wpAny_mono h₂ (fun _ s₃ h₃ => ?_) fun _ _ h' => h')) fun _ _ h' => h')
    exact wpAny_bind (wpAny_bind (wpAny_mono h₃ (fun x s₄ h₄ => wpAny_bind (wpAny_mono h₄ (fun _ s₅ h₅ => wpAny_pure (wpAny_pure ⟨rfl, h₅⟩)) fun _ _ h' => h')) fun _ _ h' => h'))
end

/-! ### the cells that a comprehension's block takes along -/
def clOf (env : Env) : List (Str × NameKind) → List (Str × Addr) → List (Str × Addr)
  | [], cs => cs
  | (n, k) :: r, cs => clOf env r (if k == .free then match env.cells.lookup n with | some c => (n, c) :: cs | none => cs else cs)
theorem clOf_mem {env : Env} : ∀ {ns : List (Str × NameKind)} {cs : List (Str × Addr)} {y : Str} {c : Addr}, (y, c) ∈ clOf env ns cs → (y, c) ∈ cs ∨ env.cells.lookup y = some c
  | [], _, _, _, h => .inl h
  | (n, k) :: r, cs, y, c, h => by
    unfold clOf at h
    rcases clOf_mem h with q | q
    · split at q
      · cases e : env.cells.lookup n with
        | none => rw [e] at q; exact .inl q
        | some d =>
          rw [e] at q
          rcases List.mem_cons.mp q with z | z
          · cases z; exact .inr e
          · exact .inl z
      · exact .inl q
    · exact .inr q
theorem clOf_has {env : Env} : ∀ {ns : List (Str × NameKind)} {cs : List (Str × Addr)} {y : Str}, ((∃ c, (y, c) ∈ cs) ∨ ((y, NameKind.free) ∈ ns ∧ ∃ c, env.cells.lookup y = some c)) → ∃ c, (y, c) ∈ clOf env ns cs
  | [], _, _, h => by
    rcases h with h | ⟨h, _⟩
    · exact h
    · cases h
  | (n, k) :: r, cs, y, h => by
    unfold clOf
    apply clOf_has
    rcases h with ⟨c, h⟩ | ⟨h, c, e⟩
    · left
      split
      · cases e : env.cells.lookup n with
        | none => exact ⟨c, h⟩
        | some d => exact ⟨c, List.mem_cons_of_mem _ h⟩
      · exact ⟨c, h⟩
    · rcases List.mem_cons.mp h with z | z
      · cases z
        left
        rw [e]
        exact ⟨c, by simp⟩
      · exact .inr ⟨z, c, e⟩
theorem closure_cl {env : Env} : ∀ {ns : List (Str × NameKind)} {cs : List (Str × Addr)}, (∀ y, (y, NameKind.free) ∈ ns → ∃ c, env.cells.lookup y = some c) →
    (forIn ns cs fun (x : Str × NameKind) (r : List (Str × Addr)) => (if x.2 == NameKind.free then (do let c ← cellOf env x.1; pure (ForInStep.yield ((x.1, c) :: r))) else pure (ForInStep.yield r) : Sem (ForInStep (List (Str × Addr))))) = (pure (clOf env ns cs) : Sem (List (Str × Addr)))
  | [], _, _ => rfl
  | (n, k) :: r, cs, h => by
    have ih := @closure_cl env r
    rw [List.forIn_cons]
    unfold clOf
    cases hk : k == NameKind.free with
    | false =>
      simp only [Bool.false_eq_true, if_false]
      exact ih fun y hy => h y (List.mem_cons_of_mem _ hy)
    | true =>
      have ek : k = NameKind.free := by simpa using hk
      subst ek
      obtain ⟨c, e⟩ := h n (by simp)
      have ec : cellOf env n = pure c := by unfold cellOf; rw [e]
      simp only [if_true]
      rw [ec, e]
      exact ih fun y hy => h y (List.mem_cons_of_mem _ hy)
theorem closure_eq {scope : Scope} {env : Env} (h : ∀ y, (y, NameKind.free) ∈ scope.names → ∃ c, env.cells.lookup y = some c) : closureFor scope env = pure (clOf env scope.names []) := by
  have q := closure_cl (cs := []) h
  unfold closureFor
  exact congrArg (fun m => m >>= fun r => pure r) q
end L2
namespace L2
open PySem PySem.Spec PyProof.Rows PySem.Calls

theorem lookup_relabel {env : Env} {y : Str} : ∀ {names : List (Str × NameKind)},
    (names.map fun (n, k) => if (k == NameKind.free && env.scope.kind == .function && env.kindOf n == some .cell) then (n, NameKind.cell) else (n, k)).lookup y
      = (names.lookup y).map fun k => if (k == NameKind.free && env.scope.kind == .function && env.kindOf y == some .cell) then NameKind.cell else k
  | [] => rfl
  | (n, k) :: r => by
    have ih := @lookup_relabel env y r
    by_cases hx : y = n
    · subst hx
      simp only [List.map_cons]
      split <;> rename_i hc
      · rw [List.lookup_cons, List.lookup_cons]; simp only [beq_self_eq_true, Option.map_some]; rw [if_pos hc]
      · rw [List.lookup_cons, List.lookup_cons]; simp only [beq_self_eq_true, Option.map_some]; rw [if_neg hc]
    · have hb : (y == n) = false := beq_eq_false_iff_ne.mpr hx
      simp only [List.map_cons]
      split <;> simp only [List.lookup_cons, hb] <;> exact ih

section
variable {X : Cx} {pins : List (Addr × Obj)} {σ : St} {H : Hp} {s : Shared} {a : Addr} {o : HO}
/-- an untracked new record is tracked from here on -/
theorem Inv.track (I : Inv X pins σ H s) (f : FpOk X pins H a) (hs : X.s₀.heap.objs.size ≤ a) (new : ObjOk X.prog X.w (upd H a o) s.heap a o) : Inv X pins σ (upd H a o) s := by
  obtain ⟨f0, f1, f2, f3, f4, f5⟩ := f
  have old : ∀ b ob, X.s₀.heap.get? b = some ob → b ≠ a := fun b ob e z => by subst z; exact absurd (Nat.lt_of_lt_of_le (Heap.lt_size e) hs) (Nat.lt_irrefl _)
  refine ⟨I.ok, I.os, I.bare, ⟨I.base.keep, I.base.slot, fun b ob e n hx => ?_, I.base.there, fun b xs e => ?_, fun b ob u e => ?_, fun b ps e => ?_⟩, I.loc, I.cell, ?_, fun x c e => ?_, fun p hp => ?_, fun b u e => ?_, I.len⟩
  · rw [upd_ne (old b ob e)]; exact I.base.free b ob e n hx
  · have q := I.base.tups b xs e; rw [upd_ne (ne_of_none q f0)]; exact q
  · have q := I.base.frzs b ob u e; rw [upd_ne (ne_of_none q f0)]; exact q
  · obtain ⟨more, q⟩ := I.base.tbls b ps e; exact ⟨more, by rw [upd_ne (ne_of_none q f0)]; exact q⟩
  · rw [upd_ne (Ne.symm f1)]; exact I.free
  · rw [upd_ne (f4 x c e)]; exact I.freeC x c e
  · obtain ⟨e, n, ne, nf, d⟩ := I.pin p hp
    exact ⟨e, by rw [upd_ne (f5 p hp)]; exact n, ne, nf, d⟩
  · by_cases hb : b = a
    · subst hb; rw [upd_same] at e; cases e; exact new
    · rw [upd_ne hb] at e
      exact (I.hok b u e).stay (fun c v _ q => q) (fun c q => by rw [upd_ne (ne_of_none q f0)]; exact q) fun c xs q => by rw [upd_ne (ne_of_none q f0)]; exact q
end

/-- the context of a comprehension's block: the variable x, then the names of the def around -/
def compCx (X : Cx) (scope : Scope) (C : Addr) (x : Str) (M : List Str) (s₂ : Shared) (H₂ : Hp) (fp : List Addr) : Cx :=
  { X with N := x :: M, s₀ := s₂, H₀ := H₂, env := compEnvC scope (clOf X.env scope.names []) C X.env, outer := X.stack, ex := fp, fn := fun _ => false, pn := [], xe := fun _ _ => False }

structure CompOk (X : Cx) (scope : Scope) (x : Str) (M : List Str) : Prop where
  kind : scope.kind = .function
  cell : ∀ y ∈ scope.names, y.2 ≠ .cell
  names : ∀ y ∈ scope.names, y.2 = .local → scope.names.lookup y.1 = some .local
  loc : scope.names.lookup x = some .local
  nd : (x :: M).Nodup
  free : ∀ y, (y, NameKind.free) ∈ scope.names → X.env.scope.names.lookup y = some .cell ∨ X.env.scope.names.lookup y = some .free
  len : M.length = X.N.length
  sub : ∀ (j : Nat) y, M[j]? = some y → scope.names.lookup y = some .local ∨ scope.names.lookup y = some .free → X.N[j]? = some y ∧ scope.names.lookup y = some .free

def compOkB (names outer : List (Str × NameKind)) (N M : List Str) (x : Str) : Bool :=
  names.all (fun y => decide (y.2 ≠ .cell)) && names.all (fun y => decide (y.2 = .local → names.lookup y.1 = some .local)) && decide (names.lookup x = some .local) && decide (x :: M).Nodup &&
  names.all (fun y => decide (y.2 = .free → (outer.lookup y.1 = some .cell ∨ outer.lookup y.1 = some .free))) && decide (M.length = N.length) &&
  (M.zip N).all (fun p => decide (names.lookup p.1 = some .local ∨ names.lookup p.1 = some .free → p.1 = p.2 ∧ names.lookup p.1 = some .free))
theorem compOk_of {X : Cx} {scope : Scope} {x : Str} {M : List Str} (hk : scope.kind = .function) (h : compOkB scope.names X.env.scope.names X.N M x = true) : CompOk X scope x M := by
  unfold compOkB at h
  simp only [Bool.and_eq_true, List.all_eq_true, decide_eq_true_eq] at h
  obtain ⟨⟨⟨⟨⟨⟨h1, h2⟩, h3⟩, h4⟩, h5⟩, h6⟩, h7⟩ := h
  refine ⟨hk, h1, h2, h3, h4, fun y hy => h5 _ hy rfl, h6, fun j y e q => ?_⟩
  have hj : j < M.length := (List.getElem?_eq_some_iff.mp e).1
  have hj2 : j < X.N.length := by omega
  have z : (M.zip X.N)[j]? = some (y, X.N[j]) := by rw [List.getElem?_zip_eq_some]; exact ⟨e, by simp [hj2]⟩
  have r := h7 _ (List.mem_of_getElem? z) q
  exact ⟨by rw [List.getElem?_eq_getElem hj2]; exact congrArg some r.1.symm, r.2⟩

section
variable {X : Cx} {scope : Scope} {x : Str} {M : List Str} {pins : List (Addr × Obj)} {σ : St} {H₂ : Hp} {s₂ : Shared}

/-- what the block's cells are -/
theorem CompOk.cl_of {y : Str} {c : Addr} (h : (clOf X.env scope.names []).lookup y = some c) : X.env.cells.lookup y = some c := by
  rcases clOf_mem (PySem.mem_of_lookup h) with q | q
  · cases q
  · exact q
theorem CompOk.cl_has (K : CompOk X scope x M) (ok : X.Ok) {y : Str} (h : (y, NameKind.free) ∈ scope.names) : ∃ c, (clOf X.env scope.names []).lookup y = some c ∧ X.env.cells.lookup y = some c := by
  have e1 : ∃ c, X.env.cells.lookup y = some c := ok.has y (K.free y h)
  obtain ⟨c, hc⟩ := clOf_has (env := X.env) (ns := scope.names) (cs := []) (y := y) (.inr ⟨h, e1⟩)
  have q : ∃ c, (clOf X.env scope.names []).lookup y = some c := by
    cases e : (clOf X.env scope.names []).lookup y with
    | some c => exact ⟨c, rfl⟩
    | none =>
      rw [List.lookup_eq_none_iff] at e
      have := e _ hc
      simp at this
  obtain ⟨c', hc'⟩ := q
  exact ⟨c', hc', CompOk.cl_of hc'⟩

theorem CompOk.closure (K : CompOk X scope x M) (ok : X.Ok) : closureFor scope X.env = pure (clOf X.env scope.names []) :=
  closure_eq fun y hy => by obtain ⟨c, _, q⟩ := K.cl_has ok hy; exact ⟨c, q⟩

/-- the block's start: D the list (untracked), C the block's own names -/
theorem inv_comp (K : CompOk X scope x M) (I : Inv X pins σ H₂ s₂) {fp : List Addr} (hf : ∀ b ∈ fp, FpOk X pins H₂ b) (hfl : ∀ b ∈ fp, b < s₂.heap.objs.size) {C : Addr} (hC : s₂.heap.objs.size ≤ C) {h₁ : Heap} {t : Nat} {m : Str → Option Value} (hn : h₁.Ns C m)
    (hk : ∀ b o, s₂.heap.get? b = some o → h₁.get? b = some o) : Inv (compCx X scope C x M s₂ H₂ fp) [] (none :: σ) H₂ { s₂ with heap := h₁, toks := t } := by
  have lt : ∀ {b : Addr} {o : Obj}, s₂.heap.get? b = some o → b ≠ C := fun {b o} e z => by subst z; exact absurd (Nat.lt_of_lt_of_le (Heap.lt_size e) hC) (Nat.lt_irrefl _)
  have cC : ∀ y c, (clOf X.env scope.names []).lookup y = some c → c ≠ C := fun y c e => by
    obtain ⟨v, o, ho, _⟩ := I.cell y c (CompOk.cl_of e)
    exact lt ho
  have sub : ∀ b ∈ frs X.stack, b = X.env.locals ∨ b ∈ X.fs := fun b hb => List.mem_cons.mp (I.stkSub b hb)
  have ok : (compCx X scope C x M s₂ H₂ fp).Ok := by
    refine ⟨I.ok.mod, K.kind, I.ok.glob, I.ok.blt, hC, fun y z c h1 h2 => ?_, fun y hy => ?_, fun y c z => ?_, I.ok.hd, I.ok.frames, .inl rfl, fun b hb => ⟨?_, fun y c e => ?_⟩, I.bs, Nat.le_trans I.ok.bsz I.sz, fun b o e hb => ?_, fun b hb hb2 => ?_, I.stack, I.stkFree⟩
    · exact I.ok.inj y z c (CompOk.cl_of h1) (CompOk.cl_of h2)
    · have hy' : (relabel scope X.env).names.lookup y = some .cell ∨ (relabel scope X.env).names.lookup y = some .free := hy
      have q : (y, NameKind.free) ∈ scope.names := by
        unfold relabel at hy'
        rw [lookup_relabel] at hy'
        cases e : scope.names.lookup y with
        | none => rw [e] at hy'; simp at hy'
        | some k =>
          have hm := PySem.mem_of_lookup e
          cases k with
          | free => exact hm
          | cell => exact absurd rfl (K.cell _ hm)
          | _ => rw [e] at hy'; simp at hy'
      obtain ⟨c, q, _⟩ := K.cl_has I.ok q
      exact ⟨c, q⟩
    · exact Bool.noConfusion (show false = true from z)
    · intro z
      have z' : b = C := z
      subst z'
      exact absurd (Nat.lt_of_lt_of_le (hfl b hb) hC) (Nat.lt_irrefl _)
    · exact (hf b hb).2.2.2.2.1 y c (CompOk.cl_of e)
    · have q := (hf b hb).2.2.2.1
      rcases q with q | q
      · exact I.ok.noex b o e q
      · exact absurd (Nat.lt_of_lt_of_le (Heap.lt_size (I.ok.bs b o e).1) q) (Nat.lt_irrefl _)
    · rcases sub b hb2 with z | z
      · exact (hf b hb).2.1 z
      · exact (hf b hb).2.2.1 z
  refine ⟨ok, rfl, I.bare, Un.kept hk, ⟨m, hn, fun i y v e1 e2 e3 => ?_⟩, fun y c e => ?_, ?_, fun y c e => ?_, fun p hp => absurd (show p ∈ ([] : List (Addr × Obj)) from hp) (by simp), I.hok.kept hk, ?_⟩
  · cases i with
    | zero =>
      have e2' : some (none : Option V) = some (some v) := e2
      cases e2'
    | succ j =>
      have e1' : M[j]? = some y := e1
      have e2' : σ[j]? = some (some v) := e2
      have e3' : (relabel scope X.env).names.lookup y = some .local ∨ (relabel scope X.env).names.lookup y = some .cell ∨ (relabel scope X.env).names.lookup y = some .free := e3
      have q : scope.names.lookup y = some .local ∨ scope.names.lookup y = some .free := by
        unfold relabel at e3'
        rw [lookup_relabel] at e3'
        cases e : scope.names.lookup y with
        | none => rw [e] at e3'; simp at e3'
        | some k =>
          have hm := PySem.mem_of_lookup e
          cases k with
          | free => exact .inr rfl
          | «local» => exact .inl rfl
          | cell => exact absurd rfl (K.cell _ hm)
          | _ => rw [e] at e3'; simp at e3'
      obtain ⟨nj, fr⟩ := K.sub j y e1' q
      have hm := PySem.mem_of_lookup fr
      have kd := K.free y hm
      have vs : Vis X.env.scope y := .inr kd
      obtain ⟨mo, _, lo⟩ := I.loc
      obtain ⟨u, r, l⟩ := lo j y v nj e2' vs
      refine ⟨u, r, .inr ⟨?_, ?_⟩⟩
      · show (relabel scope X.env).names.lookup y = some .cell ∨ (relabel scope X.env).names.lookup y = some .free
        unfold relabel
        rw [lookup_relabel, fr]
        simp only [Option.map_some]
        split
        · exact .inl rfl
        · exact .inr rfl
      · obtain ⟨c, q1, q2⟩ := K.cl_has I.ok hm
        rcases l with ⟨k, _⟩ | ⟨_, c', q3, z⟩
        · have k' : X.env.scope.names.lookup y = some .local := k
          rcases kd with kd | kd <;> · rw [k'] at kd; cases kd
        · rw [q2] at q3
          cases q3
          obtain ⟨oc, ho, hd⟩ := z
          exact ⟨c, q1, oc, hk _ _ ho, hd⟩
  · obtain ⟨v, oc, ho, hd⟩ := I.cell y c (CompOk.cl_of e)
    exact ⟨v, oc, hk _ _ ho, hd⟩
  · exact I.hok.fresh hC
  · exact I.freeC y c (CompOk.cl_of e)
  · show (none :: σ).length = (x :: M).length
    rw [List.length_cons, List.length_cons, K.len, I.len]
end
end L2
namespace L2
open PySem PySem.Spec PyProof.Rows PySem.Calls

/-- [e for x in it]: n bounds the turns; W i ys H: behind i turns, ys made -/
def tComp (wi : TI) (te : TE) : TE := fun σ H Q => wi σ H fun J H1 => ∃ (n : Nat) (W : Nat → List V → Hp → Prop), n ≤ sizeLine ∧ W 0 [] H1 ∧ ∀ i ys H, i ≤ n → ys.length = i → W i ys H →
  (J.stop i H ∧ ∀ p, H p = none → Q (.ref p) (upd H p (.lst ys))) ∨ (J.go i H ∧ i < n ∧ ∀ x H', J.yld i H x H' → te (some x :: σ) H' fun v H'' => W (i + 1) (ys ++ [v]) H'')

section
variable {X : Cx} {scope : Scope} {x : Str} {M : List Str} {pins : List (Addr × Obj)} {σ : St} {H₂ : Hp} {s₂ : Shared} {elt iter : Expr} {px pos : Pos} {te : TE} {wi : TI}

theorem comp_block (K : CompOk X scope x M) (hc : X.calm = true) (I : Inv X pins σ H₂ s₂) (he : ∀ (C : Addr) (s₂ : Shared) (H₂ : Hp) (fp : List Addr), PE (compCx X scope C x M s₂ H₂ fp) elt te)
    {it : Addr} {fp : List Addr} {tn : Nat → Heap → Prop} {J : It} (T : Turn X.prog X.w X.K (.Name x px) J fp it tn) (st : tn 0 s₂.heap) (hf : ∀ b ∈ fp, FpOk X pins H₂ b) {n : Nat} (hsz : n ≤ sizeLine) {W : Nat → List V → Hp → Prop} {F : List V → Hp → Prop}
    (w0 : W 0 [] H₂) (turn : ∀ i ys H, i ≤ n → ys.length = i → W i ys H → (J.stop i H ∧ F ys H) ∨ (J.go i H ∧ i < n ∧ ∀ x H', J.yld i H x H' → te (some x :: σ) H' fun v H'' => W (i + 1) (ys ++ [v]) H''))
    {E : Value → Shared → Prop} {RR : Value → Addr → Result → Shared → Prop}
    (hRR : ∀ (D C : Addr) (s' : Shared) (H' : Hp) (ys : List V) (m : Str → Option Value), Inv X pins σ (upd H' D (.lst ys)) s' → H' D = none → FpOk X pins (upd H' D (.lst ys)) C → s'.heap.Ns C m → F ys H' → RR (.ref D) C (.ok .next) s') :
    wpAny (model X.prog X.w) X.A (newList []) (fun acc s₃ => wpAny (model X.prog X.w) X.A (newFunctionEnv scope X.env.globals (clOf X.env scope.names []) [] X.env.qual none .none (some X.env)) (fun cenv s₄ =>
      codeAny (model X.prog X.w) X.A (.compStart (.ListComp elt [⟨.Name x px, iter, [], 0⟩] scope pos) 0 (.ref it) acc { cenv with scope := relabel scope X.env }) (RR acc cenv.locals) s₄) E s₃) E s₂ := by
  refine wpAny_newObj_type (wpAny_newFunctionEnv K.cell (by intro y hy; simp at hy) (fun h₁ hns₁ hsb₁ => ?_) K.kind)
  dsimp only at hns₁ hsb₁ ⊢
  generalize hH2 : s₂.heap.push { cls := .type "list", dict := none, data := .seq ([] : List Value).toArray } = H2 at hns₁ hsb₁ ⊢
  have hC : H2.objs.size = s₂.heap.objs.size + 1 := by rw [← hH2, Heap.size_push]
  have hDC : s₂.heap.objs.size ≠ H2.objs.size := by rw [hC]; exact Nat.ne_of_lt (Nat.lt_succ_self _)
  have below : ∀ b, b < s₂.heap.objs.size → b ≠ H2.objs.size ∧ b ≠ s₂.heap.objs.size := fun b hb => ⟨by rw [hC]; exact Nat.ne_of_lt (Nat.lt_succ_of_lt hb), Nat.ne_of_lt hb⟩
  have hfl : ∀ b ∈ fp, b < s₂.heap.objs.size := fun b hb => by obtain ⟨o, e, _⟩ := T.obj _ _ st b hb; exact Heap.lt_size e
  have old : ∀ b o, s₂.heap.get? b = some o → h₁.get? b = some o := fun b o e => hsb₁.extBut b o (below b (Heap.lt_size e)).1 (Heap.get?_push_of_some _ (hH2 ▸ Heap.get?_push_of_some _ e))
  have hacc : h₁.get? s₂.heap.objs.size = some { cls := .type "list", data := .seq ([] : List Value).toArray 0 } := hsb₁.extBut _ _ hDC (Heap.get?_push_of_some _ (hH2 ▸ Heap.get?_push_size _ rfl))
  generalize hCC : H2.objs.size = C at *
  generalize hDD : s₂.heap.objs.size = D at *
  have hCle : s₂.heap.objs.size ≤ C := by rw [hDD, hC]; exact Nat.le_succ _
  have st₁ : tn 0 h₁ := T.keep _ _ _ st fun b _ o e => old b o e
  have I₁ := inv_comp (t := s₂.toks + ([] : List (Str × Value)).length) K I hf (fun b hb => by rw [hDD]; exact hfl b hb) hCle hns₁ old
  -- the context of the block
  generalize hX' : compCx X scope C x M s₂ H₂ fp = X' at I₁
  have eX : X'.prog = X.prog ∧ X'.w = X.w ∧ X'.K = X.K ∧ X'.calm = true ∧ X'.A = X.A ∧ X'.ex = fp ∧ X'.env = compEnvC scope (clOf X.env scope.names []) C X.env ∧ X'.s₀ = s₂ ∧ X'.pn = [] := by
    subst hX'; exact ⟨rfl, rfl, rfl, hc, rfl, rfl, rfl, rfl, rfl⟩
  obtain ⟨eP, ew, eK, ec, eA, eex, eenv, es0, epn⟩ := eX
  have eL : X'.env.locals = C := by rw [eenv]; rfl
  have cells' : ∀ y c, X'.env.cells.lookup y = some c → X.env.cells.lookup y = some c := fun y c e => by rw [eenv] at e; exact CompOk.cl_of e
  have efs : X'.fs = frs X.stack := by subst hX'; rfl
  have fsub : ∀ b ∈ X'.fs, b = X.env.locals ∨ b ∈ X.fs := fun b hb => List.mem_cons.mp (I.stkSub b (by rw [← efs]; exact hb))
  -- the iterator's records, the list: ours to turn
  have fpok : ∀ {pn : List (Addr × Obj)} {H' : Hp}, (∀ p ∈ pn, p.1 = D) → (∀ b ∈ fp, H' b = none) → ∀ b ∈ fp, FpOk X' pn H' b := fun {pn H'} hp hn b hb => by
    refine ⟨hn b hb, ?_, fun z => ?_, .inl (by rw [eex]; exact hb), fun y c e => (hf b hb).2.2.2.2.1 y c (cells' y c e), fun p hq => ?_⟩
    · rw [eL]; exact (below b (hfl b hb)).1
    · rcases fsub b z with q | q
      · exact (hf b hb).2.1 q
      · exact (hf b hb).2.2.1 q
    · rw [epn, List.nil_append] at hq
      rw [hp p hq]; exact Ne.symm (below b (hfl b hb)).2
  have Dfp : D ∉ fp := fun z => Nat.lt_irrefl _ (hfl D z)
  have ltL : X.env.locals < D := by have := I.lt; rw [hDD] at this; exact this
  have ltF : ∀ b ∈ X.fs, b < D := fun b hb => Nat.lt_of_not_le fun z => I.nofs (a := b) (by rw [hDD]; exact z) hb
  have newok : ∀ {b : Addr} {pn : List (Addr × Obj)} {H' : Hp}, D ≤ b → b ≠ C → H' b = none → (∀ p ∈ pn, p.1 ≠ b) → FpOk X' pn H' b := fun {b pn H'} hb hbC hn hp => by
    refine ⟨hn, by rw [eL]; exact hbC, fun z => ?_, .inr (by rw [es0, hDD]; exact hb), fun y c e => ?_, fun p hq => ?_⟩
    · rcases fsub b z with q | q
      · rw [q] at hb; exact absurd (Nat.lt_of_lt_of_le ltL hb) (Nat.lt_irrefl _)
      · exact absurd (Nat.lt_of_lt_of_le (ltF b q) hb) (Nat.lt_irrefl _)
    · obtain ⟨v, o, ho, _⟩ := I.cell y c (cells' y c e)
      have := Heap.lt_size ho
      rw [hDD] at this
      exact Nat.ne_of_lt (Nat.lt_of_lt_of_le this hb)
    · rw [epn, List.nil_append] at hq
      exact hp p hq
  -- behind the block
  have outer : ∀ {σ' : St} {H' : Hp} {s' : Shared} {pn : List (Addr × Obj)}, Inv X' pn σ' H' s' → Inv X pins σ H' s' := fun {σ' H' s' pn} J' => by
    subst hX'
    refine I.call' (ch := fp) J'.os J'.base J'.hok J'.bare fun b hb => ?_
    obtain ⟨f0, f1, f2, f3, f4, f5⟩ := hf b hb
    exact ⟨f3, f1, f4, f5⟩
  have outok : ∀ {b : Addr} {H' : Hp}, D ≤ b → H' b = none → FpOk X pins H' b := fun {b H'} hb hn => by
    have q := I.fpOk (H' := H') (b := b) (by rw [hDD]; exact hb) hn
    exact q
  have loop : ∀ s₃ : Shared, s₃ = { s₂ with heap := h₁, toks := s₂.toks + ([] : List (Str × Value)).length } →
      codeAny (model X.prog X.w) X.A (.compLoop (.ListComp elt [⟨.Name x px, iter, [], 0⟩] scope pos) 0 (.ref it) (.ref D) (compEnvC scope (clOf X.env scope.names []) C X.env)) (RR (.ref D) C) s₃ := by
    rintro s₃ rfl
    refine compLoop_go (fun k s' => ∃ (i : Nat) (ys : List V) (its : List Value) (σ0 : Option V) (H' : Hp), i ≤ n ∧ k = n + 1 - i ∧ ys.length = i ∧ Inv X' [] (σ0 :: σ) H' s' ∧ tn i s'.heap ∧ (∀ b ∈ fp, H' b = none) ∧ H' D = none ∧ Vals ys its ∧
      (∃ c, s'.heap.get? D = some { cls := .type "list", data := .seq its.toArray c }) ∧ W i ys H') ?_ (n + 1) ⟨0, [], [], none, H₂, Nat.zero_le _, rfl, rfl, I₁, st₁, fun b hb => (hf b hb).1, by rw [← hDD]; exact I.hok.fresh (Nat.le_refl _), .nil, ⟨0, hacc⟩, w0⟩
    rintro k s' ⟨i, ys, its, σ0, H', hi, rfl, hyl, I', st', fr', hD', rv, ⟨c, hobj⟩, w'⟩
    have hx0 : X'.N[0]? = some x := by subst hX'; rfl
    have hxl : X'.env.scope.names.lookup x = some .local := by rw [eenv]; exact lookup_relabel_local K.loc
    have hNd : X'.N.Nodup := by subst hX'; exact K.nd
    rcases turn i ys H' hi hyl w' with ⟨stop, fin⟩ | ⟨go, hlt, step⟩
    · have pinD : Inv X' [(D, { cls := .type "list", data := .seq its.toArray c })] (σ0 :: σ) H' s' := I'.pins_of fun p hp => by
        obtain rfl : p = (D, { cls := .type "list", data := .seq its.toArray c }) := by simpa using hp
        refine ⟨hobj, hD', ?_, ?_, fun v z => nomatch z⟩
        · rw [eL]; exact hDC
        · intro z
          rcases fsub D z with q | q
          · rw [q] at ltL; exact Nat.lt_irrefl _ ltL
          · exact Nat.lt_irrefl _ (ltF D q)
      have q := T.done X' eP ew eK ec i _ s' (σ0 :: σ) H' (notedBy (model X.prog X.w) X.A (compEnvC scope (clOf X.env scope.names []) C X.env) fun e s' => RR (.ref D) C (.error e) s') pinD (fpok (fun p hp => by obtain rfl : p = (D, { cls := .type "list", data := .seq its.toArray c }) := (by simpa using hp); rfl) fr') st' stop
      rw [eA] at q
      refine wpAny_mono q (fun r s4 ⟨hr, I4⟩ => ?_) fun _ _ z => z
      subst hr
      obtain ⟨e4, n4, _⟩ := I4.pin (D, { cls := .type "list", data := .seq its.toArray c }) (List.mem_append_right _ (by simp))
      have O4 := outer I4
      obtain ⟨m4, ns4, _⟩ := I4.loc
      rw [eL] at ns4
      refine hRR D C s4 H' ys m4 (O4.track (outok (Nat.le_refl _) n4) (Nat.le_trans I.sz (by rw [hDD]; exact Nat.le_refl _)) ⟨by rw [hyl]; exact Nat.le_trans hi hsz, its, c, rv, e4⟩) n4 (outok (by rw [hC]; exact Nat.le_succ _) ?_) ns4 fin
      rw [upd_ne (Ne.symm hDC)]
      have := I4.free
      rw [eL] at this
      exact this
    · have pinD : Inv X' [(D, { cls := .type "list", data := .seq its.toArray c })] (σ0 :: σ) H' s' := I'.pins_of fun p hp => by
        obtain rfl : p = (D, { cls := .type "list", data := .seq its.toArray c }) := by simpa using hp
        refine ⟨hobj, hD', ?_, ?_, fun v z => nomatch z⟩
        · rw [eL]; exact hDC
        · intro z
          rcases fsub D z with q | q
          · rw [q] at ltL; exact Nat.lt_irrefl _ ltL
          · exact Nat.lt_irrefl _ (ltF D q)
      have pd : ∀ p ∈ [(D, ({ cls := .type "list", data := .seq its.toArray c } : Obj))], p.1 = D := fun p hp => by obtain rfl : p = (D, { cls := .type "list", data := .seq its.toArray c }) := (by simpa using hp); rfl
      have q := T.item X' eP ew eK ec i _ s' (σ0 :: σ) H' (notedBy (model X.prog X.w) X.A (compEnvC scope (clOf X.env scope.names []) C X.env) fun e s' => RR (.ref D) C (.error e) s') pinD (fpok pd fr') st' go
      rw [eA] at q
      refine wpAny_mono q (fun r s4 ⟨u, hr, h4⟩ => ?_) fun _ _ z => z
      subst hr
      refine wpAny_mono h4 (fun _ s5 ⟨xv, H5, I5, r5, y5, st5, fr5⟩ => ?_) fun _ _ z => z
      have I5' := I5.pinned (fpok pd fr5) (T.obj _ _ st5)
      refine wpAny_assign_Name ?_
      rw [← eenv]
      refine store_ok I5' hNd hx0 (.inl hxl) r5 (fun s6 I6 => ?_) (.inr hxl)
      have te6 := step xv H5 y5
      have q6 := (he C s₂ H₂ fp) (([(D, ({ cls := .type "list", data := .seq its.toArray c } : Obj))]) ++ pinsAt fp s5.heap) s6 (some xv :: σ) H5 (fun v H'' => W (i + 1) (ys ++ [v]) H'') (by rw [hX']; exact I6) te6
      rw [hX', eP, ew, eA] at q6
      refine wpAny_mono q6 (fun u7 s7 ⟨v7, H7, I7, r7, w7⟩ => ?_) (fun _ _ z => by subst hX'; exact (show False from z).elim)
      obtain ⟨e7, n7, _⟩ := I7.pin (D, { cls := .type "list", data := .seq its.toArray c }) (List.mem_append_right _ (List.mem_append_left _ (by simp)))
      refine append_at (hsz := by rw [List.size_toArray, ← rv.length, hyl]; exact Nat.le_trans hi hsz) e7 fun h8 sb8 g8 => ?_
      have I8 : Inv X' [] (some xv :: σ) H7 { s7 with heap := h8, toks := s7.toks } := (I7.pins_of (pins' := []) fun p hp => absurd hp (by simp)).turned (t' := s7.toks) (it := D) (fun b o hb e => (sb8.2 b hb).trans e) n7 (by rw [eL]; exact hDC) (.inr (by rw [es0, hDD]; exact Nat.le_refl _))
        (newok (H' := H7) (pn := []) (Nat.le_refl _) hDC n7 (fun p hp => absurd hp (by simp))).2.2.2.2.1 (fun p hp => by rw [epn] at hp; exact absurd hp (by simp))
      refine ⟨n + 1 - (i + 1), by omega, i + 1, ys ++ [v7], its ++ [u7], some xv, H7, hlt, rfl, by rw [List.length_append, List.length_singleton, hyl], I8, ?_, fun b hb => ?_, n7, rv.append (.cons r7 .nil), ⟨c + 1, ?_⟩, w7⟩
      · refine T.keep _ _ _ st5 fun b hb o e => ?_
        have e' := (I7.pin (b, o) (List.mem_append_right _ (List.mem_append_right _ (mem_pinsAt hb e)))).1
        exact (sb8.2 b (fun z => Dfp (z ▸ hb))).trans e'
      · obtain ⟨o, e, d⟩ := T.obj _ _ st5 b hb
        exact (I7.pin (b, o) (List.mem_append_right _ (List.mem_append_right _ (mem_pinsAt hb e)))).2.1
      · rw [g8, List.push_toArray]
  exact codeAny_compStart_list (loop _ rfl) (T.self X.A 0 _ _ _ st₁ (loop _ rfl))

/-- a comprehension as a value -/
theorem pe_comp (K : CompOk X scope x M) (hc : X.calm = true) (hi : PI X (.Name x px) iter wi) (he : ∀ (C : Addr) (s₂ : Shared) (H₂ : Hp) (fp : List Addr), PE (compCx X scope C x M s₂ H₂ fp) elt te)
    (hs : ∀ x, foldedSetIterable iter X.env x = pure x := by intro _; rfl) : PE X (.ListComp elt [⟨.Name x px, iter, [], 0⟩] scope pos) (tComp wi te) := by
  intro pins s σ H Q I h
  rw [eval_ListComp]
  refine wpAny_comprehension_free (use := none) rfl hs (K.closure I.ok) K.kind K.names (thn (hi pins s σ H _ I h) fun v s1 h1 => thn h1 fun itv s2 h2 => ?_)
  obtain ⟨it, fp, tn, J, H2, e, I2, T, st2, f2, n, W, hsz, w0, turn⟩ := h2
  subst e
  refine comp_block (RR := fun acc C => compPost (model X.prog X.w) X.A X.xe none (EP X pins σ Q) acc C) K hc I2 he T st2 f2 hsz (F := fun ys H => ∀ p, H p = none → Q (.ref p) (upd H p (.lst ys))) w0 turn ?_
  intro D C s' H' ys m I' n' fC ns fin
  refine ⟨m, ns, fun h' sb => ?_⟩
  obtain ⟨f0, f1, f2, f3, f4, f5⟩ := fC
  exact ⟨.ref D, _, I'.turned (t' := s'.toks) (it := C) (fun b o hb e => (sb.2 b hb).trans e) f0 f1 f3 f4 f5, rfl, fin D n'⟩
/-- name = [..] -/
theorem ps_comp {i : Nat} {y : Str} {spos py : Pos} (hN : X.N.Nodup) (hy : X.N[i]? = some y) (hl : Loc X.env.scope y) (K : CompOk X scope x M) (hc : X.calm = true) (hi : PI X (.Name x px) iter wi) (he : ∀ (C : Addr) (s₂ : Shared) (H₂ : Hp) (fp : List Addr), PE (compCx X scope C x M s₂ H₂ fp) elt te)
    (hsw : swapsWith (.ListComp elt [⟨.Name x px, iter, [], 0⟩] scope pos) (some (.Name y py)) spos.line X.env = pure true := by rfl)
    (hs : ∀ x, foldedSetIterable iter X.env x = pure x := by intro _; rfl) (hf : X.fn y = true ∨ X.env.scope.names.lookup y = some .local := by first | exact .inl rfl | exact .inr rfl | assumption) :
    PS X (.Assign [.Name y py] (.ListComp elt [⟨.Name x px, iter, [], 0⟩] scope pos) spos) (tAsg (tComp wi te) (gName i)) := by
  intro pins s σ H Dn I h
  rw [exec_Assign_Name_used _ _ _ _ hsw]
  refine wpAny_bind (wpAny_standAt (wpAny_bind ?_))
  show wpAny _ X.A (do let _ ← comprehension (.ListComp elt [⟨.Name x px, iter, [], 0⟩] scope pos) scope X.env _ (newList []) false (eval iter X.env) (some (assign (.Name y py) X.env))) _ _ s
  refine wpAny_bind (thn (wpAny_comprehension_free (use := some (assign (.Name y py) X.env)) (Q := fun _ s' => SP X pins Dn .next s') rfl hs (K.closure I.ok) K.kind K.names (thn (hi pins s σ H _ I h) fun v s1 h1 => thn h1 fun itv s2 h2 => ?_)) fun _ s' hq => wpAny_pure (wpAny_pure hq))
  obtain ⟨it, fp, tn, J, H2, e, I2, T, st2, f2, n, W, hsz, w0, turn⟩ := h2
  subst e
  refine comp_block (RR := fun acc C => compPost (model X.prog X.w) X.A X.xe (some (assign (.Name y py) X.env)) (fun _ s' => SP X pins Dn .next s') acc C) K hc I2 he T st2 f2 hsz (F := fun ys H => ∀ p, H p = none → Dn.nx (σ.set i (some (.ref p))) (upd H p (.lst ys))) w0 turn ?_
  intro D C s' H' ys m I' n' fC ns fin
  refine wpAny_assign_Name (store_ok2 (v := .ref D) I' hN hy hl rfl (fun s'' I'' ch => ?_) hf)
  obtain ⟨f0, f1, f2, f3, f4, f5⟩ := fC
  obtain ⟨a, sb1, ha⟩ := ch
  have hCa : C ≠ a := by
    rcases ha with z | z
    · rw [z]; exact f1
    · exact Ne.symm (f4 y a z)
  refine ⟨m, ns.sameBut sb1 hCa, fun h' sb => ?_⟩
  exact ⟨_, _, I''.turned (t' := s''.toks) (it := C) (fun b o hb e => (sb.2 b hb).trans e) f0 f1 f3 f4 f5, fin D n'⟩
end
end L2
namespace L2
open PySem PySem.Spec PyProof.Rows PySem.Calls

/-! ### texts as lists of codes -/
def S (l : List Nat) : Str := ⟨l.toArray⟩
abbrev cd (x : Str) : List Nat := x.cps.toList
theorem cd_S (l : List Nat) : cd (S l) = l := rfl
theorem S_cd (x : Str) : S (cd x) = x := by cases x; rfl
theorem len_S (l : List Nat) : (S l).length = l.length := by show l.toArray.size = _; simp
theorem len_cd (x : Str) : x.length = (cd x).length := by show x.cps.size = _; simp
theorem S_app (a b : List Nat) : S a ++ S b = S (a ++ b) := by
  show (⟨a.toArray ++ b.toArray⟩ : Str) = ⟨(a ++ b).toArray⟩
  simp
/-! ### for c in text, [.. for c in text] -/
section
variable {X : Cx} {tg : Expr}
end
/-! ### comprehensions: what is read of them -/
theorem comp_range {lo : Int} {n : Nat} {te : TE} {σ : St} {H : Hp} {Q : VK} (hz : n ≤ sizeLine) (W : Nat → List V → Hp → Prop) (h0 : W 0 [] H)
    (hs : ∀ i ys H, i < n → ys.length = i → W i ys H → te (some (.int (lo + i)) :: σ) H fun v H' => W (i + 1) (ys ++ [v]) H')
    (hd : ∀ ys H, ys.length = n → W n ys H → ∀ p, H p = none → Q (.ref p) (upd H p (.lst ys))) :
    ∃ (m : Nat) (W : Nat → List V → Hp → Prop), m ≤ sizeLine ∧ W 0 [] H ∧ ∀ i ys H, i ≤ m → ys.length = i → W i ys H →
      ((Itr lo n).stop i H ∧ ∀ p, H p = none → Q (.ref p) (upd H p (.lst ys))) ∨ ((Itr lo n).go i H ∧ i < m ∧ ∀ v H', (Itr lo n).yld i H v H' → te (some v :: σ) H' fun v H'' => W (i + 1) (ys ++ [v]) H'') := by
  refine ⟨n, W, hz, h0, fun i ys H hi hl hw => ?_⟩
  by_cases hlt : i < n
  · refine .inr ⟨hlt, hlt, fun v H' y => ?_⟩
    obtain ⟨e, y⟩ := y
    subst e y
    exact hs i ys _ hlt hl hw
  · have e : i = n := by omega
    subst e
    exact .inl ⟨Nat.le_refl _, hd ys H hl hw⟩
/-! ### all, join, isinstance, slices, products -/
section
variable {X : Cx}
theorem call_all (hc : X.calm = true) : CallR X (.builtin "all") (fun xs H Q => ∃ (p : Addr) (bs : List Bool), xs = [.ref p] ∧ SqL X.K H p (bs.map V.bl) ∧ Q (.bl (bs.all id)) H) := by
  intro pins s σ H xs us Q I r h
  obtain ⟨p, bs, rfl, hq, q⟩ := h
  obtain ⟨u, rfl, ru⟩ := vals1 r
  cases ru
  obtain ⟨its, rv, pl, hz⟩ := I.list hq
  have hlt : p < s.heap.objs.size := by obtain ⟨o, n, e, _⟩ := pl; exact Heap.lt_size e
  refine call_all_walk (wpAny_pyIter_list pl.isList ?_)
  refine ⟨_, _, _, _, _, _, fun i => bs.getD i false, rfl, Walks.list (show X.A.in1.handled = none from I.ok.hd hc) s.heap.objs.size p (Nat.ne_of_lt hlt) its.toArray, ⟨⟨_, Heap.get?_push_size _ rfl, rfl, rfl⟩, pl.isList.push _⟩, fun i v s1 Q1 E1 hP hQ => ?_, fun h' tk k => ?_⟩
  · have hP' : its[i]? = some v := by simpa using hP
    obtain ⟨hi, _⟩ := List.getElem?_eq_some_iff.mp hP'
    have hl := rv.length
    rw [List.length_map] at hl
    have hb : (bs.map V.bl)[i]? = some (V.bl (bs.getD i false)) := by
      rw [List.getElem?_map, List.getElem?_eq_getElem (by omega)]
      simp [List.getD, List.getElem?_eq_getElem (show i < bs.length by omega)]
    obtain ⟨u, hu, ru⟩ := rv.get hb
    rw [hP'] at hu
    cases hu
    cases (show v = Value.bool _ from ru)
    exact wpAny_truthy_bool hQ
  · have e : (List.range its.toArray.size).all (fun i => bs.getD i false) = bs.all id := by
      have hl := rv.length
      rw [List.length_map] at hl
      rw [List.size_toArray, ← hl]
      have z : bs = (List.range bs.length).map fun i => bs.getD i false := by
        apply List.ext_getElem?
        intro i
        rw [List.getElem?_map]
        by_cases hi : i < bs.length
        · simp [List.getElem?_eq_getElem, hi, List.getD]
        · rw [List.getElem?_eq_none (Nat.not_lt.mp hi), List.getElem?_eq_none (by rw [List.length_range]; exact Nat.not_lt.mp hi)]; rfl
      conv => rhs; rw [z]
      rw [List.all_map]; rfl
    rw [e]
    refine ⟨.bl (bs.all id), H, ?_, rfl, q⟩
    have I0 : Inv X pins σ H { s with heap := s.heap.push { cls := .type "list_iterator", data := .fields #[.ref p, .int 0 0] } } := I.kept (t' := s.toks) fun b o e => Heap.get?_push_of_some _ e
    have fo := I.fpOk (H' := H) (b := s.heap.objs.size) (Nat.le_refl _) I.fresh
    obtain ⟨f0, f1, f2, f3, f4, f5⟩ := fo
    exact I0.turned (t' := tk) (it := s.heap.objs.size) (fun b o hb e => k b o (by simpa using hb) e) f0 f1 f3 f4 f5

theorem strs_of {ys : List Str} : ∀ {its : List Value}, Vals (ys.map V.str) its → StrsAre its ys := by
  induction ys with
  | nil => intro its r; cases r; exact .nil
  | cons y ys ih =>
    intro its r
    cases r with
    | cons a b => obtain ⟨t, rfl⟩ := a; exact .cons _ _ (ih b)
def joinS (sep : Str) (ys : List Str) : Str := Txt.join sep ys
theorem mt_join : MtM X "str.join" (fun x vs H Q => ∃ (sep : Str) (p : Addr) (ys : List Str), x = .str sep ∧ vs = [.ref p] ∧ (SqL X.K H p (ys.map V.str) ∨ SqT X.K H p (ys.map V.str)) ∧ (ys.map (·.length)).sum + ys.length * sep.length ≤ 16777216 ∧ Q (.str (joinS sep ys)) H) := by
  intro pins s σ H x vs v us Q I rx rv h
  obtain ⟨sep, p, ys, rfl, rfl, hq, hz, q⟩ := h
  obtain ⟨t, rfl⟩ := rx
  obtain ⟨u, rfl, ru⟩ := rv.one
  cases ru
  rcases hq with hq | hq
  · obtain ⟨its, r, pl, _⟩ := I.list hq
    exact join_list pl.isList (by simpa using strs_of r) hz fun t' k => ⟨.str _, H, I.tok _, ⟨_, rfl⟩, q⟩
  · obtain ⟨its, r, pl, _⟩ := I.tuple hq
    exact join_tuple pl (by simpa using strs_of r) hz fun t' k => ⟨.str _, H, I.tok _, ⟨_, rfl⟩, q⟩

/-- a product whose factors have few bits -/
theorem op_mulB : OpR X (binaryOp .Mult) (rI (fun i j => Builtin.Int.intBits i ≤ 60000000 ∧ Builtin.Int.intBits j ≤ 60000000) fun i j => .int (i * j)) := opI fun i j _ _ _ _ _ hc q => mul_int q (IntMulOk.of_le hc.1 hc.2 (by decide))

/-! ### a slice of a text -/
end
end L2
/-! the law's head, with the bits of the script's ints -/
namespace Att
open PySem PySem.W PySem.Calls PyProof.Rows
theorem bits_of_lay {ns : List Int} (h : WData.layableAll [WData.list (ns.map WData.int)] = true) : ∀ n ∈ ns, Builtin.Int.intBits n ≤ 1048576 := by
  have h1 : (WData.list (ns.map WData.int)).layable = true := by simpa [WData.layableAll] using h
  intro n hn
  have h2 := layableW_item h1 (.int n) (List.mem_map.mpr ⟨n, hn, rfl⟩)
  have h3 := (layableW_iff.mp h2).2.2
  simpa [WData.weight, Builtin.Int.intBits] using h3
theorem attach_callB {l : OpenLaw} {n : Nat} {q : Program} {loose : List Str} {XP : (Str → Option Value) → Heap → Prop} {YP : World → Heap → Prop} {d : DefRec}
    (hn : l.most = some n) (hdf : d.params.defaults = [])
    (call : ∀ (w : World) (s₀ s₁ : Shared) (mg mb : Str → Option Value) (fa : Addr) (o : Obj) (pm cd doc : Value) (a : Addr) (vs : List Value) (ns : List Int),
      Ground q loose [] XP w s₀ mg mb s₁.heap → YP w s₁.heap →
      s₁.heap.get? fa = some o → o.data = .func (docDef d.name d.params d.body d.scope pm cd doc) → s₁.heap.CodeRec cd d.name → mg d.name = some (.ref fa) →
      s₁.heap.get? a = some { cls := .type "list", data := .seq vs.toArray } → IntsAre vs ns → ns.length ≤ n → (∀ n ∈ ns, Builtin.Int.intBits n ≤ 1048576) → s₁.gens = #[] →
      codeAny (model l.prog w) callerA (.call (.ref fa) ⟨[.ref a], []⟩) (fun r s' => r = .ok (.ret (.bool true)) ∧ OldK s₁.heap s'.heap ∧ s'.os = s₁.os ∧ AllBare s'.gens) s₁) :
    WalkO q loose XP YP l.row.toRowW d [] (fun f vs => PySem.call f vs) := by
  intro w s₀ s₁ mg mb G Y fa o pm cd doc dV kV ho hd hcd hD hmg hg args vals as hpre hlay hrd hwl hlo
  obtain rfl : dV = .none := Dflts.none hD hdf
  obtain rfl : kV = .none := Dflts.noKw hD
  obtain ⟨a, vs, ns, rfl, rfl, hobj, hints, hlen⟩ := script_of hn hpre hwl
  refine enter_call (codeAny_mono (call w s₀ s₁ mg mb fa o pm cd doc a vs ns G Y ho (fd_plain hd) hcd hmg hobj hints hlen (bits_of_lay hlay) hg) fun r s' hq => ?_)
  obtain ⟨rfl, h2, h3, h4⟩ := hq
  exact ⟨.inl ⟨.bool true, .bool true, [], rfl, fun _ => rfl, .bool true, post_true l _, fun _ => ⟨List.Pairwise.nil, fun _ hm => (nomatch hm)⟩⟩, h2, h3, h4⟩
end Att
namespace L2
open PySem PySem.Spec PyProof.Rows
/-! ### the module's values -/
def GlobV (mg : Str → Option Value) (x : Str) (v : V) : Prop := ∃ u, mg x = some u ∧ RelV v u
theorem pe_gv {X : Cx} {x : Str} {v : V} {pos : Pos} (hg : Gl X x) (h : GlobV X.mg x v) (hd : (x == ("__debug__" : Str)) = false := by decide) : PE X (.Name x pos) (tC v) := by
  obtain ⟨u, hm, r⟩ := h
  exact pe_glob hg hm r hd
theorem SqT.mod {K : PySem.W.Frag} {a : Addr} {oc : Value} {od : Option Addr} {its : Array Value} {n : Nat} {sl : Array (Option Value)} {xs : List V} (h : K.lookup a = some ⟨oc, od, .seq its n, sl⟩) (hc : oc = .type "tuple") (hz : its.size ≤ sizeLine) (hv : Vals xs its.toList) (H : Hp) : SqT K H a xs :=
  .inr ⟨_, its, n, h, hc, rfl, hz, hv⟩
theorem Same.tup {K : PySem.W.Frag} {H H' : Hp} {a : Addr} {xs : List V} (e : Same H H') (h : SqT K H a xs) : SqT K H' a xs := by
  rcases h with (h | ⟨o, h⟩) | h
  · exact .inl (.inl (e _ _ h))
  · exact .inl (.inr ⟨o, e _ _ h⟩)
  · exact .inr h
theorem same_new {H : Hp} {p : Addr} (h : H p = none) (o : HO) : Same H (upd H p o) := fun b u q => by rw [upd_ne (ne_of_none q h)]; exact q
namespace Bt
theorem int : bootBuiltins "int" = some (.type "int") := PyProof.Rows.boot_int
theorem bool : bootBuiltins "bool" = some (.type "bool") := PyProof.Rows.boot_bool
theorem str : bootBuiltins "str" = some (.type "str") := PyProof.Rows.boot_str
theorem list : bootBuiltins "list" = some (.type "list") := PyProof.Rows.boot_list
theorem tuple : bootBuiltins "tuple" = some (.type "tuple") := PyProof.Rows.boot_tuple
theorem dict : bootBuiltins "dict" = some (.type "dict") := PyProof.Rows.boot_dict
theorem set : bootBuiltins "set" = some (.type "set") := PyProof.Rows.boot_set
theorem isinstance : bootBuiltins "isinstance" = some (.builtin "isinstance") := PyProof.Rows.boot_isinstance
theorem all : bootBuiltins "all" = some (.builtin "all") := PyProof.Rows.boot_all
theorem abs : bootBuiltins "abs" = some (.builtin "abs") := PyProof.Rows.Boot.«abs»
end Bt
end L2
namespace L2
open PySem PySem.Spec PyProof.Rows

abbrev ib (x : Int) : Nat := Builtin.Int.intBits x
theorem ib_div {x : Int} {y : Int} {m : Nat} (hy : 0 < y) (h : ib x ≤ m) : ib (x / y) ≤ m := by
  rw [← Int.fdiv_eq_ediv_of_nonneg x (Int.le_of_lt hy)]
  exact intBits_fdiv_le h
theorem ib_small {x : Int} (h1 : -(2 ^ 64) < x) (h2 : x < 2 ^ 64) : ib x ≤ 64 := intBits_le_64 h1 h2
theorem ib_big {m : Nat} {x : Int} (h : x.natAbs < 2 ^ m) : ib x ≤ m := intBits_le_iff.mpr h
theorem at_some {α : Type} {l : List α} {i : Int} (h0 : 0 ≤ i) (h1 : i < l.length) : ∃ c, atI l i = some c ∧ l[i.toNat]? = some c := by
  have hk : i.toNat < l.length := by omega
  refine ⟨l[i.toNat], ?_, List.getElem?_eq_getElem hk⟩
  have e : i = ((i.toNat : Nat) : Int) := by omega
  have q : atI l ((i.toNat : Nat) : Int) = some l[i.toNat] := atI_nat (List.getElem?_eq_getElem hk)
  rw [← e] at q
  exact q
theorem Same.ty {K : PySem.W.Frag} {H H' : Hp} {x : V} {t : Value} (e : Same H H') (h : TyOf K H x t) : TyOf K H' x t := by
  cases h with
  | non => exact .non
  | bl x => exact .bl x
  | int i => exact .int i
  | str x => exact .str x
  | flt x => exact .flt x
  | lst q => exact .lst (e _ _ q)
  | frz q => exact .frz (e _ _ q)
  | tup q => exact .tup (e _ _ q)
  | dK q => exact .dK (e _ _ q)
  | dT q => exact .dT (e _ _ q)
  | ins q a b c d f => exact .ins (e _ _ q) a b c d f
theorem small_of {n m : Nat} (h : n ≤ m) (hm : m ≤ 16777216 := by decide) : n ≤ sizeLine := by rw [sizeLine_eq]; omega
/-! ### join, as lists of codes -/
def joinL (sep : List Nat) : List (List Nat) → List Nat
  | [] => []
  | [x] => x
  | x :: y :: r => x ++ sep ++ joinL sep (y :: r)
theorem joinS_is (sep : Str) (ys : List Str) : joinS sep ys = S (joinL (cd sep) (ys.map cd)) := by
  have e : joinS sep ys = Str.join sep ys := StrLaws.glued_eq_join sep ys
  rw [e]
  clear e
  induction ys with
  | nil => rfl
  | cons y r ih =>
    cases r with
    | nil => exact (S_cd y).symm
    | cons z r =>
      show y ++ sep ++ Str.join sep (z :: r) = S (cd y ++ cd sep ++ joinL (cd sep) ((z :: r).map cd))
      rw [ih, ← S_app, ← S_app, S_cd, S_cd]
/-! ### loops and comprehensions, their readings shut (opened by their own forms) -/
structure CompR (J : It) (te : TE) (σ : St) (H1 : Hp) (Q : VK) : Prop where
  ex : ∃ (n : Nat) (W : Nat → List V → Hp → Prop), n ≤ sizeLine ∧ W 0 [] H1 ∧ ∀ i ys H, i ≤ n → ys.length = i → W i ys H →
    (J.stop i H ∧ ∀ p, H p = none → Q (.ref p) (upd H p (.lst ys))) ∨ (J.go i H ∧ i < n ∧ ∀ x H', J.yld i H x H' → te (some x :: σ) H' fun v H'' => W (i + 1) (ys ++ [v]) H'')
def tCompR (wi : TI) (te : TE) : TE := fun σ H Q => wi σ H fun J H1 => CompR J te σ H1 Q
structure ForR (J : It) (g : TG) (tb : TS) (D : Ends) (σ : St) (H1 : Hp) : Prop where
  ex : ∃ W : Nat → Nat → St → Hp → Prop, (∃ m, W 0 m σ H1) ∧ ∀ i m σ H, W i m σ H →
    (J.stop i H ∧ D.nx σ H) ∨ (J.go i H ∧ ∃ N : St → Hp → Prop, (∀ σ' H', N σ' H' → ∃ m', m' < m ∧ W (i + 1) m' σ' H') ∧ ∀ x H', J.yld i H x H' → g x σ H' fun σ2 H2 => tb { D with nx := N, ct := N, bk := D.nx } σ2 H2)
def tForR (wi : TI) (g : TG) (tb : TS) : TS := fun D σ H => wi σ H fun J H1 => ForR J g tb D σ H1
structure WhileR (c : TT) (tb : TS) (D : Ends) (σ : St) (H : Hp) : Prop where
  ex : tWhile c tb D σ H
def tWhileR (c : TT) (tb : TS) : TS := fun D σ H => WhileR c tb D σ H
theorem PI.weak {X : Cx} {tg iter : Expr} {wi : TI} (h : PI X tg iter wi) {pins : List (Addr × Obj)} {s : Shared} {σ : St} {H : Hp} {R R' : It → Hp → Prop} (I : Inv X pins σ H s) (hw : wi σ H R) (hR : ∀ J H1, R J H1 → R' J H1) :
    wpAny (model X.prog X.w) X.A (eval iter X.env) (fun v s1 => wpAny (model X.prog X.w) X.A (pyIter v) (PIE X pins σ tg R') X.xe s1) X.xe s := by
  refine thn (h pins s σ H R I hw) fun v s1 h1 => thn h1 fun itv s2 ⟨it, fp, tn, J, H', e, I', T, st, f, r⟩ => ?_
  exact ⟨it, fp, tn, J, H', e, I', T, st, f, hR J H' r⟩
section
variable {X : Cx} {scope : Scope} {x : Str} {M : List Str} {elt iter : Expr} {px pos : Pos} {te : TE} {wi : TI}
/-- the source of a comprehension or a loop, whose reading is of any form -/
theorem pi_conv {tg : Expr} {wi wi' : TI} (h : PI X tg iter wi) (hw : ∀ σ H R, wi' σ H R → ∃ R0, wi σ H R0 ∧ ∀ J H1, R0 J H1 → R J H1) : PI X tg iter wi' := by
  intro pins s σ H R I q
  obtain ⟨R0, q0, hR⟩ := hw σ H R q
  exact h.weak I q0 hR
theorem pe_compR (K : CompOk X scope x M) (hc : X.calm = true) (hi : PI X (.Name x px) iter wi) (he : ∀ (C : Addr) (s₂ : Shared) (H₂ : Hp) (fp : List Addr), PE (compCx X scope C x M s₂ H₂ fp) elt te)
    (hs : ∀ x, foldedSetIterable iter X.env x = pure x := by intro _; rfl) : PE X (.ListComp elt [⟨.Name x px, iter, [], 0⟩] scope pos) (tCompR wi te) := by
  intro pins s σ H Q I h
  have q := pe_comp (pos := pos) K hc (wi := fun σ0 H0 R0 => ∃ R, wi σ0 H0 R ∧ ∀ J H1, R J H1 → R0 J H1) (pi_conv hi fun σ H R ⟨R1, a, b⟩ => ⟨R1, a, b⟩) he hs pins s σ H Q I
  exact q ⟨_, h, fun J H1 r => r.ex⟩
theorem ps_compR {i : Nat} {y : Str} {spos py : Pos} (hN : X.N.Nodup) (hy : X.N[i]? = some y) (hl : Loc X.env.scope y) (K : CompOk X scope x M) (hc : X.calm = true) (hi : PI X (.Name x px) iter wi) (he : ∀ (C : Addr) (s₂ : Shared) (H₂ : Hp) (fp : List Addr), PE (compCx X scope C x M s₂ H₂ fp) elt te)
    (hsw : swapsWith (.ListComp elt [⟨.Name x px, iter, [], 0⟩] scope pos) (some (.Name y py)) spos.line X.env = pure true := by rfl)
    (hs : ∀ x, foldedSetIterable iter X.env x = pure x := by intro _; rfl) (hf : X.fn y = true ∨ X.env.scope.names.lookup y = some .local := by first | exact .inl rfl | exact .inr rfl | assumption) :
    PS X (.Assign [.Name y py] (.ListComp elt [⟨.Name x px, iter, [], 0⟩] scope pos) spos) (tAsg (tCompR wi te) (gName i)) := by
  intro pins s σ H D I h
  have q := ps_comp (pos := pos) (spos := spos) hN hy hl K hc (wi := fun σ0 H0 R0 => ∃ R, wi σ0 H0 R ∧ ∀ J H1, R J H1 → R0 J H1) (pi_conv hi fun σ H R ⟨R1, a, b⟩ => ⟨R1, a, b⟩) he hsw hs hf pins s σ H D I
  exact q ⟨_, h, fun J H1 r => r.ex⟩
theorem ps_forR {tg : Expr} {body : List Stmt} {g : TG} {tb : TS} (hp : PassesOwn (model X.prog X.w) X.A X.env X.xe) (hc : X.calm = true) (hi : PI X tg iter wi) (hg : PG X tg g) (hb : PSs X body tb)
    (hs : ∀ x, foldedSetIterable iter X.env x = pure x := by intro _; rfl) : PS X (.For tg iter body [] pos) (tForR wi g tb) := by
  intro pins s σ H D I h
  have q := ps_for (pos := pos) hp hc (wi := fun σ0 H0 R0 => ∃ R, wi σ0 H0 R ∧ ∀ J H1, R J H1 → R0 J H1) (pi_conv hi fun σ H R ⟨R1, a, b⟩ => ⟨R1, a, b⟩) hg hb hs pins s σ H D I
  exact q ⟨_, h, fun J H1 r => r.ex⟩
theorem ps_whileR {c : Expr} {body : List Stmt} {tc : TT} {tb : TS} (hp : PassesOwn (model X.prog X.w) X.A X.env X.xe) (hc : PT X c tc) (hb : PSs X body tb) : PS X (.While c body [] pos) (tWhileR tc tb) := fun pins s σ H D I h => ps_while hp hc hb pins s σ H D I h.ex
end

theorem comp_rangeR {lo : Int} {n : Nat} {te : TE} {σ : St} {H : Hp} {Q : VK} (hz : n ≤ sizeLine) (W : Nat → List V → Hp → Prop) (h0 : W 0 [] H)
    (hs : ∀ i ys H, i < n → ys.length = i → W i ys H → te (some (.int (lo + i)) :: σ) H fun v H' => W (i + 1) (ys ++ [v]) H')
    (hd : ∀ ys H, ys.length = n → W n ys H → ∀ p, H p = none → Q (.ref p) (upd H p (.lst ys))) : CompR (Itr lo n) te σ H Q := ⟨comp_range hz W h0 hs hd⟩
theorem for_listR {K : PySem.W.Frag} {a : Addr} {xs : List V} {g : TG} {tb : TS} {D : Ends} {σ : St} {H : Hp} (Pv : Nat → St → Hp → Prop) (h0 : Pv 0 σ H) (hl : ∀ i σ H, i ≤ xs.length → Pv i σ H → SqL K H a xs)
    (hs : ∀ i x σ H, xs[i]? = some x → Pv i σ H → g x σ H fun σ2 H2 => tb { D with nx := Pv (i + 1), ct := Pv (i + 1), bk := D.nx } σ2 H2) (hd : ∀ σ H, Pv xs.length σ H → D.nx σ H) : ForR (Itl K a) g tb D σ H := ⟨for_list Pv h0 hl hs hd⟩
theorem for_rangeR {lo : Int} {n : Nat} {g : TG} {tb : TS} {D : Ends} {σ : St} {H : Hp} (Pv : Nat → St → Hp → Prop) (h0 : Pv 0 σ H)
    (hs : ∀ i σ H, i < n → Pv i σ H → g (.int (lo + i)) σ H fun σ2 H2 => tb { D with nx := Pv (i + 1), ct := Pv (i + 1), bk := D.nx } σ2 H2) (hd : ∀ σ H, Pv n σ H → D.nx σ H) : ForR (Itr lo n) g tb D σ H := ⟨for_range Pv h0 hs hd⟩
theorem cutV_map {α : Type} (f : α → V) (l : List α) (lo hi : Option Int) : ∃ ms : List α, cutV (l.map f) lo hi = ms.map f ∧ (∀ m ∈ ms, m ∈ l) ∧ ms.length ≤ l.length := by
  refine ⟨(l.drop (HT.sIx (l.map f).length 0 lo)).take (HT.sIx (l.map f).length (l.map f).length hi - HT.sIx (l.map f).length 0 lo), ?_, fun m hm => ?_, ?_⟩
  · unfold cutV
    rw [List.map_take, List.map_drop]
  · exact List.mem_of_mem_drop (List.mem_of_mem_take hm)
  · rw [List.length_take, List.length_drop]; omega
theorem map_get {α : Type} {f : α → V} {l : List α} {i : Nat} {x : V} (h : (l.map f)[i]? = some x) : ∃ a, l[i]? = some a ∧ x = f a := by
  rw [List.getElem?_map] at h
  cases e : l[i]? with
  | none => rw [e] at h; cases h
  | some a => rw [e] at h; exact ⟨a, rfl, (Option.some.inj h).symm⟩

theorem kit_ty {K : PySem.W.Frag} {a b : String} {r : Bool} (h : (if (Value.type a == Value.type b) = true then some true else if PySem.W.kitMeta b = true then (fastBuiltinMro a).map (·.contains (Value.type b)) else none) = some r) : PySem.W.kitOne K (.type a) (.type b) = some r := h
end L2
/-! exceptions over the layer: an own class is raised, passes frames, is caught -/
namespace L2
open PySem PySem.Spec PyProof.Rows PySem.Calls

/-- how the heap behind an exception lies to that ahead of the call; B: all that stays as it is -/
structure XUn (outer : List Env) (H H' : Hp) (h B h1 : Heap) : Prop where
  keepB : ∀ b o, h.get? b = some o → H b = none → b ∉ frs outer → B.get? b = some o
  thereB : ∀ b o, h.get? b = some o → b ∉ frs outer → ∃ o', B.get? b = some o'
  slot : ∀ b o, h.get? b = some o → H b = none → b ∈ frs outer → ∃ sl, h1.get? b = some { o with slots := sl }
  free : ∀ b o, h.get? b = some o → H b = none → H' b = none
  tups : ∀ b xs, H b = some (.tup xs) → H' b = some (.tup xs)
  frzs : ∀ b o u, H b = some (.frz o u) → H' b = some (.frz o u)
  tbls : ∀ b ps, H b = some (.tbl ps) → ∃ more, H' b = some (.tbl (ps ++ more))
theorem XUn.step {outer : List Env} {H H' : Hp} {h B h1 h2 base : Heap} (x : XUn outer H H' h B h1) (fr : h1.FunFrames base outer) (up : h1.UpToSlots h2) : XUn outer H H' h B h2 :=
  ⟨x.keepB, x.thereB, fun b o e n hb => by
    obtain ⟨sl, q⟩ := x.slot b o e n hb
    obtain ⟨_, o', ho', hd'⟩ := fr.mem hb
    rw [q] at ho'; cases ho'
    obtain ⟨sl', q'⟩ := up b _ q hd'
    exact ⟨sl', q'⟩, x.free, x.tups, x.frzs, x.tbls⟩
theorem XUn.un {outer : List Env} {H H' : Hp} {h B h1 : Heap} (x : XUn outer H H' h B h1) (st : B.StaysIn h1) (fr : h1.FunFrames B outer) : Un (frs outer) [] H H' h h1 :=
  ⟨fun b o e n hb _ => st b o (x.keepB b o e n hb), fun b o e n hb _ => x.slot b o e n hb, fun b o e n _ => x.free b o e n, fun b o e _ => by
    by_cases hb : b ∈ frs outer
    · obtain ⟨_, o', ho', _⟩ := fr.mem hb
      exact ⟨o', ho'⟩
    · obtain ⟨o', q⟩ := x.thereB b o e hb
      exact ⟨o', st b o' q⟩, x.tups, x.frzs, x.tbls⟩

section
variable {P : Program} {w : World} {K : PySem.W.Frag} {mg : Str → Option Value} {base : Heap} {N : List Str} {qual : Str} {scope : Scope} {f : Addr} {cdv : Value} {A : Around} {outer : List Env} {s : Shared} {H : Hp} {E : XK}
end

/-! ### a def that may raise -/
section
variable {P : Program} {w : World} {K : PySem.W.Frag} {mg : Str → Option Value} {base : Heap}
end
end L2
namespace L2
open PySem PySem.Spec PyProof.Rows PySem.Calls PySem.W PySem.Builtin PySem.Builtin.ObjectAttr PySem.Builtin.Getset_descriptor

/-! ### the class of an object whose dict is not known -/
section
variable {prog : Program} {w : World} {A : Around} {E : Value → Shared → Prop} {s : Shared} {K : PySem.W.Frag} {x D : Addr}
def ClsAt (h : Heap) (x D : Addr) : Prop := ∃ o, h.get? x = some o ∧ o.cls = .ref D
theorem ClsAt.type {M : Model} {h : Heap} (p : ClsAt h x D) : Looks M h (typeOf (.ref x)) (.ref D) := by
  obtain ⟨o, e, c⟩ := p
  exact c ▸ (Looks.ld e).andThen .now
theorem looks_data {M : Model} {h : Heap} {name : Str} {a g : Value} (X : K.In h) (hf : findIn K (.ref D) name = some (some a)) (hg : specialIn K a "__get__" = some (some g)) (ht : takesIn K a = some true) : Looks M h (find (.ref x) (.ref D) name) (.bind g a) := by
  have l1 := looks_findIn (M := M) X hf
  have l2 : Looks M h (getOf (some a)) (some g) := looks_specialIn X hg
  have l3 := looks_takesIn (M := M) X ht
  refine l1.andThen (l2.andThen ?_)
  have l4 : Looks M h (dataDescriptor? (some a) (some g)) (some (g, a)) := l3.andThen .now
  exact l4.andThen (Looks.tag .now)
structure ExcCls (K : PySem.W.Frag) (D : Addr) : Prop where
  ga : findIn K (.ref D) "__getattribute__" = some (some (.builtin "BaseException.__getattribute__"))
  gk : findIn K (.ref D) "__getattr__" = some none
  cl : (clsIn K D).isSome = true
  ha : findIn K (.ref D) "__class__" = some (some (.builtin "object.__class__"))
  hn : specialIn K (.builtin "object.__class__") "__get__" = some (some (.builtin "getset_descriptor.__get__"))
  tk : takesIn K (.builtin "object.__class__") = some true
  mo : mroIn K D (.type "object") = some true
  mb : mroIn K D (.type "BaseException") = some true
theorem class_get {R : Result → Shared → Prop} (c : ExcCls K D) (X : K.In s.heap) (p : ClsAt s.heap x D) (q : R (.ok (.ret (.ref D))) s) :
    codeAny (model prog w) A (.call (.builtin "getset_descriptor.__get__") ⟨[.builtin "object.__class__", .ref x, .ref D], []⟩) R s := by
  obtain ⟨hh, g, d, t, os⟩ := s
  obtain ⟨o, eo, ec⟩ := id p
  have t0 := p.type (M := model prog w)
  have l1 := looks_mroIn (M := model prog w) X c.mo
  have arg0 := KF.args_gs (Value.builtin "object.__class__") (Value.ref x) (Value.ref D)
  refine codeAny_call_builtin KF.slot_gs.plain KF.entry_gs
    (KF.slot_gs.check _ _ _ _ _ _ _ _ KF.type_class arg0 ?_)
  unfold Builtin.«getset_descriptor.__get__»
    descrGet
  rw [dga_obj]; refine wpAny_bind (wpAny_pure ?_)
  unfold descrGetter descrCheckInstance
    descrNameAndClass isInstance
  simp only [KF.owner_class]; (repeat lk)
  refine ⟨Code.quiet_builtin _
    (by decide +kernel), codeAny_builtin KF.entry_class ?_⟩
  unfold Builtin.«object.__class__»
    shownTypeOf
  (repeat lk); exact q
theorem class_call {tk : Tok} {R : Result → Shared → Prop} (c : ExcCls K D) (X : K.In s.heap) (p : ClsAt s.heap x D) (q : R (.ok (.ret (.ref D))) s) :
    codeAny (model prog w) A (.call (.builtin "BaseException.__getattribute__") ⟨[.ref x, .str "__class__" tk], []⟩) R s := by
  obtain ⟨hh, g, d, t, os⟩ := s
  obtain ⟨o, eo, ec⟩ := id p
  have t0 := p.type (M := model prog w)
  have lb := looks_mroIn (M := model prog w) X c.mb
  have f0 := looks_data (x := x) (M := model prog w) X c.ha c.hn c.tk
  have hk : builtinKind "BaseException.__getattribute__" = some .slot := by decide +kernel
  have hsplit : splitId "BaseException.__getattribute__" = some ("BaseException", "__getattribute__") := by decide +kernel
  have ha := F.args_bexc_ga (.ref x) (.str "__class__" tk)
  refine codeAny_call_builtin F.excAttr_ValueError.ga.plain F.entry_bexc_ga ?_
  simp only [checkBuiltinCall, hk, hsplit]
  unfold isInstance
  refine wpAny_bind ?_
  (repeat (first | (with_reducible refine wpAny_call (class_get c X p ?_)) | lk))
  exact q
theorem class_of {Q : Option Value → Shared → Prop} (c : ExcCls K D) (X : K.In s.heap) (p : ClsAt s.heap x D) (q : Q (some (.ref D)) { s with toks := s.toks + 1 }) : wpAny (model prog w) A (getAttr? (.ref x) "__class__") Q E s := by
  obtain ⟨hh, g, d, t, os⟩ := s
  obtain ⟨o, eo, ec⟩ := id p
  have t0 := p.type (M := model prog w)
  have t1 := looks_findIn (M := model prog w) X c.ga
  have f1 := looks_findIn (M := model prog w) X c.gk
  have f3 := F.excAttr_ValueError.ga.bind (.ref x)
  unfold getAttr? getAttrBy? getAttrBy
  refine wpAny_bind (wpAny_mkText (wpAny_bind (wpAny_attempt (wpAny_holding (wpAny_bind (t0.at (wpAny_bind (t1.at ?_))))))))
  show wpAny _ _ (getAttrByItsOwn _ _ _ _ _ _) _ _ _
  unfold getAttrByItsOwn hookBefore
  refine wpAny_bind (f1.at (wpAny_bind (wpAny_attempt (wpAny_holding ?_))))
  show wpAny _ _ (boundAndCalled _ _ _) _ _ _
  unfold boundAndCalled
  rw [f3]
  refine wpAny_bind (wpAny_pure (wpAny_call ?_))
  refine class_call c (s := ⟨hh, g, d, t + 1, os⟩) X p ?_
  exact wpAny_pure (wpAny_pure q)
theorem kit_exc (c : ExcCls K D) : KitX K (.ref x) (.ref D) (fun h => ClsAt h x D) where
  ty := fun _ _ _ p => p.type
  it := fun _ _ X _ => by
    obtain ⟨cd, e⟩ := Option.isSome_iff_exists.mp c.cl
    unfold clsIn at e
    split at e
    · rename_i c' d' cd' sl' ho
      intro A' Q' E' s' k q
      unfold isType loadHead
      exact wpAny_bind (wpAny_loadPart (k _ _ (X _ _ ho)) (wpAny_pure q))
    · cases e
  ne := fun h tp dd its n sl X htp => by
    obtain ⟨cd, e⟩ := Option.isSome_iff_exists.mp c.cl
    refine Bool.eq_false_iff.mpr fun q => ?_
    have z : D = tp := Value.ref.inj (beq_iff_eq.mp q)
    subst z
    unfold clsIn at e
    split at e
    · rename_i c' d' cd' sl' ho
      have z := (X _ _ ho).symm.trans htp
      cases z
    · cases e
  ca := fun X p k => class_of c X p k
end

/-! ### isinstance, of exceptions too, against several classes too -/
/-- an exception object: its class -/
def excO (a D : Addr) : HO := .ext fun h => ClsAt h a D
inductive TyE (K : PySem.W.Frag) (H : Hp) : V → Value → Prop where
  | old {x : V} {t : Value} (h : TyOf K H x t) : TyE K H x t
  | exc {a D : Addr} (h : H a = some (excO a D)) (c : ExcCls K D) : TyE K H (.ref a) (.ref D)
  | tpl {a : Addr} {xs : List V} (h : SqT K H a xs) : TyE K H (.ref a) (.type "tuple")
def vVal : V → Value
  | .ref a => .ref a
  | .ty n => .type n
  | _ => .none
def isCls : V → Bool
  | .ref _ => true
  | .ty _ => true
  | _ => false
section
variable {X : Cx} {pins : List (Addr × Obj)} {σ : St} {H : Hp} {s : Shared} {A : Around} {E : Value → Shared → Prop} {Q : Value → Shared → Prop} {c : Value} {b : Bool}
theorem kit_of {x : V} {u t : Value} (I : Inv X pins σ H s) (rx : RelV x u) (ty : TyE X.K H x t) : (∃ P : Heap → Prop, KitX X.K u t P ∧ P s.heap) ∧ u ≠ .builtin "__main__.__loader__#opaque" := by
  cases ty with
  | @tpl a xs h =>
    cases (show u = Value.ref a from rx)
    obtain ⟨its, r, pl, hz⟩ := I.tuple h
    obtain ⟨o, h1, h2, _⟩ := pl
    exact ⟨⟨_, kitx_tuple, ⟨o, h1, h2⟩⟩, fun z => nomatch z⟩
  | old ty =>
    cases ty with
    | non => cases (show u = Value.none from rx); exact ⟨⟨_, kitx_none, True.intro⟩, fun z => nomatch z⟩
    | bl y => cases (show u = Value.bool y from rx); exact ⟨⟨_, kitx_bool, True.intro⟩, fun z => nomatch z⟩
    | int i => obtain ⟨t, q⟩ := (show ∃ t, u = Value.int i t from rx); cases q; exact ⟨⟨_, kitx_int, True.intro⟩, fun z => nomatch z⟩
    | str y => obtain ⟨t, q⟩ := (show ∃ t, u = Value.str y t from rx); cases q; exact ⟨⟨_, kitx_str, True.intro⟩, fun z => nomatch z⟩
    | flt y => obtain ⟨t, q⟩ := (show ∃ t, u = Value.float y t from rx); cases q; exact ⟨⟨_, kitx_float, True.intro⟩, fun z => nomatch z⟩
    | @lst a xs ea =>
      cases (show u = Value.ref a from rx)
      obtain ⟨_, _, n, _, h1⟩ := (show ObjOk X.prog X.w H s.heap a (.lst xs) from I.hok a _ ea)
      exact ⟨⟨_, kitx_list, ⟨_, h1, rfl⟩⟩, fun z => nomatch z⟩
    | @frz a ob xs ea =>
      cases (show u = Value.ref a from rx)
      obtain ⟨_, _, _, n, _, h1⟩ := (show ObjOk X.prog X.w H s.heap a (.frz ob (.lst xs)) from I.hok a _ ea)
      exact ⟨⟨_, kitx_list, ⟨_, h1, rfl⟩⟩, fun z => nomatch z⟩
    | @tup a xs ea =>
      cases (show u = Value.ref a from rx)
      obtain ⟨_, _, _, p⟩ := (show ObjOk X.prog X.w H s.heap a (.tup xs) from I.hok a _ ea)
      obtain ⟨o, h1, h2, _⟩ := p
      exact ⟨⟨_, kitx_tuple, ⟨o, h1, h2⟩⟩, fun z => nomatch z⟩
    | @dK a kvs ea =>
      cases (show u = Value.ref a from rx)
      obtain ⟨_, _, vs, _, p⟩ := (show ObjOk X.prog X.w H s.heap a (.dK kvs) from I.hok a _ ea)
      obtain ⟨o, es, ep, h1, h2, _⟩ := p
      exact ⟨⟨_, kitx_dict, ⟨o, h1, h2.1⟩⟩, fun z => nomatch z⟩
    | @dT a kvs ea =>
      cases (show u = Value.ref a from rx)
      obtain ⟨_, _, xs, _, o, es, ep, h1, h2, _⟩ := (show ObjOk X.prog X.w H s.heap a (.dT kvs) from I.hok a _ ea)
      exact ⟨⟨_, kitx_dict, ⟨o, h1, h2.1⟩⟩, fun z => nomatch z⟩
    | @ins a C dx fs ea cl ha hn htk hm =>
      cases (show u = Value.ref a from rx)
      obtain ⟨mA, O, _⟩ := ins_get I.hok ea
      obtain ⟨od, J, _⟩ := O.look
      exact ⟨⟨_, kitx_own (cl.get _) cl.hd ha hn htk hm, J⟩, fun z => nomatch z⟩
  | @exc a D h c =>
    cases (show u = Value.ref a from rx)
    obtain ⟨p, _⟩ := (show ObjOk X.prog X.w H s.heap a (excO a D) from I.hok a _ h)
    exact ⟨⟨_, kit_exc c, p⟩, fun z => nomatch z⟩
theorem vVal_rel {x : V} {u : Value} (h : isCls x = true) (r : RelV x u) : u = vVal x := by
  cases x with
  | ref a => exact r
  | ty n => exact r
  | _ => cases h
theorem call_isi : CallR X (.builtin "isinstance") (fun xs H Q => ∃ x y t b, xs = [x, y] ∧ isCls y = true ∧ TyE X.K H x t ∧ PySem.W.kitOne X.K t (vVal y) = some b ∧ Q (.bl b) H) := by
  intro pins s σ H xs us Q I r h
  obtain ⟨x, y, t, b, rfl, hc, ty, e, q⟩ := h
  obtain ⟨u, w', rfl, rx, ry⟩ := vals2 r
  obtain rfl := vVal_rel hc ry
  obtain ⟨⟨P, Z, p⟩, nb⟩ := kit_of I rx ty
  exact kia_one Z I.kIn p e nb fun tk => ⟨.bl b, H, I.tok _, rfl, q⟩
end
end L2
namespace L2
open PySem PySem.Spec PyProof.Rows PySem.Calls PySem.W

/-! ### raise C(..), C an own class of errors without an __init__ -/
section
variable {P : Program} {w : World} {K : PySem.W.Frag} {mg : Str → Option Value} {base : Heap} {N : List Str} {qual : Str} {scope : Scope} {f : Addr} {cdv : Value} {A : Around} {outer : List Env} {s : Shared} {H : Hp} {E : XK}
end

/-! ### what may raise, at one state of the names -/
abbrev TSx := Ends → (St → XK) → St → Hp → Prop
section
variable {X : Cx} {k : Nat} {f C : Addr} {fd : FuncData} {ps : List Str} {sp : Sp} {dvs : List V} {ds : List Value} {x m : Str} {p pos apos : Pos} {e o : Expr} {es : List Expr} {ta : TE} {t : TA}
theorem PA.nox {es : List Expr} {t : TA} (h : PA X.nox es t) (E : Value → Shared → Prop) {pos : Pos} {pins : List (Addr × Obj)} {s : Shared} {σ : St} {H : Hp} {Q : List V → Hp → Prop} (I : Inv X pins σ H s) (q : t σ H Q) :
    wpAny (model X.prog X.w) X.A (spliced (backTo pos (starEach es X.env))) (AP X pins σ Q) E s :=
  wpAny_mono (h pos pins s σ H Q (I.wish _) q) (fun _ _ ⟨vs, H', I', r, q⟩ => ⟨vs, H', I'.unwish, r, q⟩) fun _ _ z => False.elim z
end

/-! ### try: .. except C: .. -/
section
variable {X : Cx} {body suite : List Stmt} {b₀ : Stmt} {x : Str} {C : Addr} {np hpos pos : Pos} {tb : TSx} {th : TS}
end
end L2
namespace L2
open PySem PySem.Spec PyProof.Rows PySem.Calls PySem.W
section
variable {X : Cx} {pins : List (Addr × Obj)} {σ : St} {H : Hp} {s : Shared}
end
section
variable {X : Cx} {body suite : List Stmt} {b₀ : Stmt} {x n : Str} {C : Addr} {np hpos pos : Pos} {tb : TSx} {th : TS} {j : Nat}
end
end L2
namespace L2
open PySem PySem.Spec PyProof.Rows PySem.Calls
/-! ### methods of texts -/
section
variable {X : Cx}
/-- text * n -/
def repN (l : List Nat) : Nat → List Nat
  | 0 => []
  | k + 1 => repN l k ++ l
theorem repN_len (l : List Nat) : ∀ k, (repN l k).length = k * l.length
  | 0 => by simp [repN]
  | k + 1 => by rw [repN, List.length_append, repN_len l k, Nat.succ_mul]
theorem rep_is (x : Str) (k : Nat) : (⟨(List.replicate k x.cps).foldl (· ++ ·) #[]⟩ : Str) = S (repN (cd x) k) := by
  have g : ∀ k, (List.replicate k x.cps).foldl (· ++ ·) #[] = (repN (cd x) k).toArray := fun k => by
    induction k with
    | zero => rfl
    | succ k ih => rw [List.replicate_succ', List.foldl_append, ih]; show _ ++ x.cps = _; rw [repN]; apply Array.ext'; simp [cd]
  rw [g]; rfl
theorem op_mul_str : OpR X (binaryOp .Mult) (fun x y H Q => ∃ z n, x = .str z ∧ y = .int n ∧ 0 ≤ n ∧ n ≤ 1000000 ∧ z.length * n.toNat ≤ 1000000 ∧ z.length ≤ 1000000 ∧ Q (.str (S (repN (cd z) n.toNat))) H) := by
  intro pins s σ H x y v u Q I rx ry h
  obtain ⟨z, n, rfl, rfl, h0, h1, h2, h3, q⟩ := h
  obtain ⟨t, rfl⟩ := rx
  obtain ⟨t', rfl⟩ := ry
  have tl : Builtin.Str.tooLong (z.length * n.toNat) = false := by
    unfold Builtin.Str.tooLong
    exact decide_eq_false (by rw [sizeLine_eq]; omega)
  refine P.mul_str ?_ ?_ (fun _ _ => tl) ?_
  · rw [decide_eq_false (by omega), decide_eq_false (by omega)]; rfl
  · intro hn _ hgt
    have : (2 ^ 63 - 1 : Int) / n ≥ 1000000 := by
      have : (1000000 : Int) * n ≤ 2 ^ 63 - 1 := by omega
      exact Int.le_ediv_of_mul_le (by omega) this
    omega
  · have fin : ∀ y : Str, y = S (repN (cd z) n.toNat) → ∀ t tk, EP X pins σ Q (.str y t) { s with toks := tk } := fun y e t tk => by
      subst e; exact ⟨.str _, H, I.tok _, ⟨_, rfl⟩, q⟩
    by_cases hn : n < 1
    · rw [if_pos hn]
      have e0 : n = 0 := by omega
      subst e0
      exact ⟨by rw [sizeLine_eq]; exact Nat.zero_le _, fin _ rfl _ _⟩
    · rw [if_neg hn]
      by_cases h1 : (n == 1 || z.length == 0) = true
      · rw [if_pos h1]
        refine fin z ?_ t s.toks
        rcases Bool.or_eq_true_iff.mp h1 with e | e
        · have e' : n = 1 := by simpa using e
          subst e'
          show z = S (repN (cd z) 1)
          rw [show repN (cd z) 1 = cd z from by simp [repN], S_cd]
        · have e' : (cd z) = [] := List.eq_nil_of_length_eq_zero (by rw [← len_cd]; simpa using e)
          have : ∀ k, repN [] k = [] := fun k => by induction k with | zero => rfl | succ k ih => simp [repN, ih]
          rw [e', this, ← e', S_cd]
      · rw [if_neg h1]
        refine ⟨?_, fin _ (rep_is z n.toNat) _ _⟩
        rw [rep_is, len_S, repN_len, ← len_cd, sizeLine_eq, Nat.mul_comm]
        omega
end
end L2
namespace L2
open PySem PySem.Spec PyProof.Rows PySem.Calls
/-! ### a def with defaults: T their tuple, ds its items -/
structure FunD (K : PySem.W.Frag) (x qual : Str) (st : Stmt) (ds : List Value) (f : Addr) (fd : FuncData) : Prop where
  ex : ∃ (T : Addr) (oc : Value) (od : Option Addr) (kV doc pm : Value) (an : Option Addr) (cdv ct : Value) (osl : Array (Option Value)) (to : Obj) (n : Nat),
    fd = PySem.W.fnOf x qual (defArgs st) (defBody st) (defScope st) (.ref T) kV doc pm an cdv ct ∧ K.lookup f = some ⟨oc, od, .func fd, osl⟩ ∧ PySem.W.codeIn K cdv qual = true ∧ K.lookup T = some to ∧ to.cls = .type "tuple" ∧ to.data = .seq ds.toArray n
  kp : PySem.W.keepIn K (.ref f) = true
section
variable {P : Program} {w : World} {K : PySem.W.Frag} {mg : Str → Option Value} {base : Heap} {x qual : Str} {st : Stmt} {f : Addr} {fd : FuncData} {N ps : List Str} {k : Nat} {sp : Sp} {ds : List Value}
theorem FunD.ok (F : FunD K x qual st ds f fd) (S : FnScope N ps (defScope st)) (len : ∀ vs H Q E, sp vs H Q E → vs.length = ps.length)
    (hbody : ∀ (cdv : Value) (A : Around) (outer : List Env) (s : Shared) (H : Hp) (vs : List V) (Q : VK) (E : XK), Room k (A.deeper (envOfC qual (defScope st) s.heap.objs.size f cdv)) → sp vs H Q E →
      ∃ t, PSs (cxOf CX0 P w K mg base N qual (defScope st) f cdv A outer s H E).nox (defBody st) t ∧ t { nx := fun _ H' => Q .non H', rt := Q } (start N vs) H) : FnOk P w K mg base CX0 (k + 1) f fd ps sp := by
  obtain ⟨T, oc, od, kV, doc, pm, an, cdv, ct, osl, to, n, rfl, lk, hcd, _⟩ := F.ex
  refine fn_of lk hcd S len fun A outer s H vs Q E hr hsp => ?_
  obtain ⟨t, h, q⟩ := hbody cdv A outer s H vs Q E hr hsp
  exact ⟨t, h.nox, q⟩
/-- its arguments bind: es the defaults that fill up -/
theorem FunD.binds {es : List Value} (F : FunD K x qual st ds f fd)
    (h : ∀ (T : Addr) (kV doc pm : Value) (an : Option Addr) (cdv ct : Value) (us : List Value) (M : Model) (A : Around) (E : Value → Shared → Prop) (Q : List (Str × Value) → Shared → Prop) (s : Shared) (to : Obj) (n : Nat), s.heap.get? T = some to → to.cls = .type "tuple" → to.data = .seq ds.toArray n →
      (us ++ es).length = ps.length → Q (ps.zip (us ++ es)) s → wpAny M A (bindArgs (PySem.W.fnOf x qual (defArgs st) (defBody st) (defScope st) (.ref T) kV doc pm an cdv ct) ⟨us, []⟩) Q E s) : Binds K fd ps es := by
  obtain ⟨T, oc, od, kV, doc, pm, an, cdv, ct, osl, to, n, rfl, lk, hcd, lt, tc, td⟩ := F.ex
  intro s us X hl M A E Q q
  exact h T kV doc pm an cdv ct us M A E Q s to n (X _ _ lt) tc td hl q
end

/-! ### classes of the text: who stands under whom -/
section
variable {K : PySem.W.Frag} {C D : Addr} {cd : ClassData} {r b : Bool} {T : String}
theorem kit_self : PySem.W.kitOne K (.ref D) (.ref D) = some true := by unfold PySem.W.kitOne; rw [if_pos (beq_self_eq_true _)]
theorem app_len {α : Type} {us ds : List α} {n m : Nat} (h : (us ++ ds).length = n) (hm : ds.length + m = n) : us.length = m := by rw [List.length_append] at h; omega
theorem funD_mk {x qual : Str} {st : Stmt} {f T : Addr} {oc : Value} {od an dd : Option Addr} {osl dsl : Array (Option Value)} {kV doc pm cdv ct : Value} {ds : List Value} {n : Nat} (l : K.lookup f = some ⟨oc, od, .func (PySem.W.fnOf x qual (defArgs st) (defBody st) (defScope st) (.ref T) kV doc pm an cdv ct), osl⟩)
    (c : PySem.W.codeIn K cdv qual = true) (k : PySem.W.keepIn K (.ref f) = true) (lt : K.lookup T = some ⟨.type "tuple", dd, .seq ds.toArray n, dsl⟩) : FunD K x qual st ds f (PySem.W.fnOf x qual (defArgs st) (defBody st) (defScope st) (.ref T) kV doc pm an cdv ct) :=
  ⟨⟨T, oc, od, kV, doc, pm, an, cdv, ct, osl, _, n, rfl, l, c, lt, rfl, rfl⟩, k⟩
end
end L2
/-! written numbers, as lists of codes -/
namespace L2
open PySem PySem.Spec PyProof.Rows
/-- what figures are worth -/
def val (l : List Nat) : Int := l.foldl (fun a c => a * 10 + ((c - 48 : Nat) : Int)) 0
/-! ### the first sign -/
/-- texts that are not long, of signs that are common -/
structure Fine (n : Nat) (z : Str) : Prop where
  len : z.length ≤ n
  cod : ∀ c ∈ cd z, c < 1000
theorem Fine.mono {n m : Nat} {z : Str} (h : Fine n z) (l : n ≤ m) : Fine m z := ⟨Nat.le_trans h.len l, h.cod⟩
theorem Fine.size {n : Nat} {z : Str} (h : Fine n z) (hn : n ≤ 100000 := by decide) : z.length ≤ sizeLine := by rw [sizeLine_eq]; have := h.len; omega
theorem Fine.int {i : Int} {k : Nat} (hk : 0 < k) (h : i.natAbs < 10 ^ k) : Fine (k + 1) (toString i) := by
  refine ⟨?_, fun c hc => ?_⟩
  · rw [show ((toString i : String) : Str).length = (toString i).length from PySem.ofString_length _]
    exact int_text_length_le10 hk h
  · rcases Nat.lt_or_ge c 1000 with z | z
    · exact z
    · exact absurd hc (int_text_free' c ⟨by omega, by omega⟩ i)
end L2
/-! equality of values, lists and tuples too -/
namespace L2
open PySem PySem.Spec PyProof.Rows PySem.Calls
/-- x == y is b, x != y is not b; by items (the same, or equal) it is b -/
structure EqJ (X : Cx) (H : Hp) (n : Nat) (x y : V) (b : Bool) : Prop where
  rc : ∀ (pins : List (Addr × Obj)) (s : Shared) (σ : St) (u v : Value) (A : Around), Inv X pins σ H s → RelV x u → RelV y v → A.units + n < cLine → SeqAt.RcAt A s u v b
  ne : ∀ (pins : List (Addr × Obj)) (s : Shared) (σ : St) (u v : Value) (A : Around), Inv X pins σ H s → RelV x u → RelV y v → A.units + n < cLine → SeqAt.RcNeAt A s u v (!b)
def EqJi (X : Cx) (H : Hp) (n : Nat) (x y : V) (b : Bool) : Prop :=
  ∀ (pins : List (Addr × Obj)) (s : Shared) (σ : St) (u v : Value) (A : Around), Inv X pins σ H s → RelV x u → RelV y v → A.units + n < cLine → SeqAt.EqAt A s u v b
section
variable {X : Cx} {H : Hp} {n : Nat} {x y : V} {b : Bool} {p q : Addr} {xs ys : List V}
theorem vals_at {xs : List V} {us : List Value} (r : Vals xs us) {j : Nat} (h : j < us.toArray.size) : ∃ x, xs[j]? = some x ∧ RelV x us.toArray[j] := by
  have hj : j < us.length := by simpa using h
  have hx : j < xs.length := by rw [r.length]; exact hj
  obtain ⟨u, hu, ru⟩ := r.get (List.getElem?_eq_getElem hx)
  refine ⟨xs[j], List.getElem?_eq_getElem hx, ?_⟩
  rw [List.getElem?_eq_getElem hj] at hu
  cases hu
  simpa using ru
theorem eqj_lists {e : Nat → Bool} (h : SqL X.K H p xs) (k : SqL X.K H q ys) (hl : xs.length = ys.length) (he : ∀ (j : Nat) x y, xs[j]? = some x → ys[j]? = some y → EqJi X H n x y (e j)) :
    EqJ X H (n + 1) (.ref p) (.ref q) ((List.range xs.length).all e) := by
  have g : ∀ (pins : List (Addr × Obj)) (s : Shared) (σ : St) (A : Around), Inv X pins σ H s → A.units + (n + 1) < cLine → ∃ its its' : List Value, s.heap.IsList p its.toArray ∧ s.heap.IsList q its'.toArray ∧ its.toArray.size = its'.toArray.size ∧ its.toArray.size = xs.length ∧
      ∀ j (h1 : j < its.toArray.size) (h2 : j < its'.toArray.size), SeqAt.EqAt A.in1 s its.toArray[j] its'.toArray[j] (e j) := fun pins s σ A I hu => by
    obtain ⟨its, r, pl, _⟩ := I.list h
    obtain ⟨its', r', pl', _⟩ := I.list k
    have l1 := r.length
    have l2 := r'.length
    refine ⟨its, its', pl.isList, pl'.isList, by simp only [List.size_toArray]; omega, by simp only [List.size_toArray]; omega, fun j h1 h2 => ?_⟩
    obtain ⟨x, hx, rx⟩ := vals_at r h1
    obtain ⟨y, hy, ry⟩ := vals_at r' h2
    exact he j x y hx hy pins s σ _ _ A.in1 I rx ry (by show A.units + 1 + n < _; omega)
  refine ⟨fun pins s σ u v A I rx ry hu => ?_, fun pins s σ u v A I rx ry hu => ?_⟩ <;> (cases rx; cases ry; have hu' : A.units < cLine := by omega)
  · obtain ⟨its, its', a, b, c, d, z⟩ := g pins s σ A I hu
    rw [← d]; exact SeqAt.RcAt.lists a b c hu' z
  · obtain ⟨its, its', a, b, c, d, z⟩ := g pins s σ A I hu
    rw [← d]; exact SeqAt.RcNeAt.lists a b c hu' z
theorem eqj_lists_len (h : SqL X.K H p xs) (k : SqL X.K H q ys) (hl : xs.length ≠ ys.length) : EqJ X H (n + 1) (.ref p) (.ref q) false := by
  refine ⟨fun pins s σ u v A I rx ry hu => ?_, fun pins s σ u v A I rx ry hu => ?_⟩ <;> (cases rx; cases ry; have hu' : A.units < cLine := by omega)
  · obtain ⟨its, r, pl, _⟩ := I.list h
    obtain ⟨its', r', pl', _⟩ := I.list k
    exact SeqAt.RcAt.lists_lengths pl.isList pl'.isList (by rw [List.size_toArray, List.size_toArray, ← r.length, ← r'.length]; simpa using hl) hu'
  · obtain ⟨its, r, pl, _⟩ := I.list h
    obtain ⟨its', r', pl', _⟩ := I.list k
    exact SeqAt.RcNeAt.lists_lengths pl.isList pl'.isList (by rw [List.size_toArray, List.size_toArray, ← r.length, ← r'.length]; simpa using hl) hu'
/-- == and != of anything -/
theorem op_eqJ (hu : X.A.units + 20 < cLine) : OpR X (compareOp .Eq) (fun x y H Q => ∃ b, EqJ X H 20 x y b ∧ Q (.bl b) H) := by
  intro pins s σ H x y v u Q I rx ry h
  obtain ⟨b, e, q⟩ := h
  exact e.rc pins s σ v u X.A I rx ry hu X.prog X.w X.xe _ ⟨.bl b, H, I, rfl, q⟩
theorem op_neJ (hu : X.A.units + 20 < cLine) : OpR X (compareOp .NotEq) (fun x y H Q => ∃ b, EqJ X H 20 x y b ∧ Q (.bl (!b)) H) := by
  intro pins s σ H x y v u Q I rx ry h
  obtain ⟨b, e, q⟩ := h
  exact e.ne pins s σ v u X.A I rx ry hu X.prog X.w X.xe _ ⟨.bl (!b), H, I, rfl, q⟩
theorem hu20 {A : Around} {k : Nat} (hr : Room k A) : A.units + 20 < cLine := by have := hr.units; omega
end
end L2
/-! classes: methods by the class of what is at hand, a base's __init__, is True, in, index -/
namespace L2
open PySem PySem.Spec PyProof.Rows PySem.Calls
section
variable {P : Program} {w : World} {K : PySem.W.Frag} {mg : Str → Option Value} {base : Heap}
/-- a method m of the class at C -/
structure MethJ (P : Program) (w : World) (K : PySem.W.Frag) (mg : Str → Option Value) (base : Heap) (CX : CXT) (k : Nat) (C : Addr) (m : Str) where
  f : Addr
  fd : FuncData
  ps : List Str
  sp : Sp
  ds : List Value
  dvs : List V
  c : Cls K C
  hm : Meth K C m f
  F : FnOk P w K mg base CX k f fd ps sp
  hb : Binds K fd ps ds
  hd : Vals dvs ds
end
section
variable {X : Cx} {CX : CXT} {k : Nat} {E : XK} {m : Str} {pos apos : Pos} {e o : Expr} {es : List Expr} {ta : TE} {t : TA}
def tMethG (X : Cx) (CX : CXT) (k : Nat) (m : Str) (E : XK) (ta : TE) (t : TA) : TE := fun σ H Q => ta σ H fun x H1 => ∃ (a C dx : Addr) (fs : List (Str × V)) (M : MethJ X.prog X.w X.K X.mg X.base CX k C m), x = .ref a ∧ H1 a = some (.ins C dx fs) ∧ fs.lookup m = none ∧
  t σ H1 fun vs H2 => M.sp (x :: (vs ++ M.dvs)) H2 Q E
theorem pe_methG {pl : Sem Bool} (hr : Room k X.A) (hx : Passes CX X E) (he : PE X o ta) (ha : PA X (e :: es) t)
    (hst : starEach (e :: es) X.env = (false, eval e X.env) :: starEach es X.env := by rfl) (hpl : (backTo pos (starEach es X.env)).any (·.1) = false := by rfl)
    (ht : eval (.Call (.Attribute o m apos) (e :: es) [] pos) X.env = (do
      let ov ← eval o X.env
      standAt apos.atName
      let (f, first) ← holding [ov] (getMethod ov m pl)
      callWith pos f first (backTo pos (starEach (e :: es) X.env)) (backToKw pos (keywordEach [] X.env))) := by rfl) :
    PE X (.Call (.Attribute o m apos) (e :: es) [] pos) (tMethG X CX k m E ta t) := by
  intro pins s σ H Q I h
  refine PySem.W.methodCall_KW (pl := pl) (thn (he pins s σ H _ I h) fun u s1 ⟨x, H1, I1, rx, a, C, dx, fs, M, ex, ea, l, q⟩ => ?_) ht
  subst ex
  obtain rfl : u = Value.ref a := rx
  refine getmeth_ok I1 ea M.c M.hm l ?_
  refine PySem.W.callWith_K (first := [.ref a]) (h₀ := X.base) I.ok.mod.kin M.hm.kp (thn (ha pos pins s1 σ H1 _ I1 q) fun us s2 ⟨vs, H2, I2, r, q2⟩ => ⟨I2.kIn, ?_⟩) hst hpl
  exact run_fn (us := .ref a :: us) (vs := .ref a :: vs) M.F hr M.hb M.hd hx I2 (.cons rfl r) q2
theorem pe_methG0 {pl : Sem Bool} (hr : Room k X.A) (hx : Passes CX X E) (he : PE X o ta)
    (ht : eval (.Call (.Attribute o m apos) [] [] pos) X.env = (do
      let ov ← eval o X.env
      standAt apos.atName
      let (f, first) ← holding [ov] (getMethod ov m pl)
      callWith pos f first (backTo pos (starEach [] X.env)) (backToKw pos (keywordEach [] X.env))) := by rfl) :
    PE X (.Call (.Attribute o m apos) [] [] pos) (tMethG X CX k m E ta tNil) := by
  intro pins s σ H Q I h
  refine PySem.W.methodCall_KW (pl := pl) (thn (he pins s σ H _ I h) fun u s1 ⟨x, H1, I1, rx, a, C, dx, fs, M, ex, ea, l, q⟩ => ?_) ht
  subst ex
  obtain rfl : u = Value.ref a := rx
  refine getmeth_ok I1 ea M.c M.hm l ?_
  exact PySem.W.callWith_K0 (first := [.ref a]) I1.kIn M.hm.kp (run_fn (us := [.ref a]) (vs := [.ref a]) M.F hr M.hb M.hd hx I1 (.cons rfl .nil) q)
/-- C.m(self, ..): a def of the class by its name -/
structure ClsFn (K : PySem.W.Frag) (C : Addr) (m : Str) (f : Addr) : Prop where
  rd : PySem.W.readsIn K C (.type "type") = true
  at_ : PySem.W.findCls K (.ref C) (.type "type") m = some (.val (.ref f))
  sp : PySem.W.specialIn K (.ref C) "__getattribute__" = some (some (.builtin "type.__getattribute__"))
  kp : PySem.W.keepIn K (.ref f) = true
end
end L2
/-! numbers as texts; blanks left out -/
namespace L2
open PySem PySem.Spec PyProof.Rows
/-! ### strip -/
/-! ### figures of a number -/
end L2
namespace L2
open PySem PySem.Spec PyProof.Rows PySem.Calls
section
variable {X : Cx}
end
/-! ### fields -/
theorem lk0 {f a b : Str} {v w : V} (h1 : (f == a) = false) (h2 : (f == b) = false) : ([(a, v), (b, w)] : List (Str × V)).lookup f = none := by
  rw [List.lookup_cons, h1, List.lookup_cons, h2]; rfl
theorem lk1 {a : Str} {v : V} {r : List (Str × V)} : ((a, v) :: r).lookup a = some v := by rw [List.lookup_cons, beq_self_eq_true]
/-- what a thing is, to isinstance -/
structure Thing (K : PySem.W.Frag) (H : Hp) (x : V) where
  t : Value
  bi : Bool
  bb : Bool
  bs : Bool
  ty : TyE K H x t
  ki : PySem.W.kitOne K t (.type "int") = some bi
  kb : PySem.W.kitOne K t (.type "bool") = some bb
  ks : PySem.W.kitOne K t (.type "str") = some bs
  hi : (bi && !bb) = true → ∃ n, x = .int n
  hs : bs = true → ∃ z, x = .str z
  ni : ∀ n, x = .int n → (bi && !bb) = true
  ns : ∀ z, x = .str z → bs = true
  hbl : bb = true → ∃ b, x = .bl b
  nbl : ∀ b, x = .bl b → bb = true
theorem Same.seqT {K : PySem.W.Frag} {H H' : Hp} {a : Addr} {xs : List V} (e : Same H H') (h : SqT K H a xs) : SqT K H' a xs := by
  rcases h with h | h
  · exact .inl (h.imp (fun k => e _ _ k) (fun ⟨o, k⟩ => ⟨o, e _ _ k⟩))
  · exact .inr h
theorem Same.tyE' {K : PySem.W.Frag} {H H' : Hp} {x : V} {t : Value} (e : Same H H') (h : TyE K H x t) : TyE K H' x t := by
  cases h with
  | old h => exact .old (e.ty h)
  | exc h c => exact .exc (e _ _ h) c
  | tpl h => exact .tpl (e.seqT h)
def Thing.same {K : PySem.W.Frag} {H H' : Hp} {x : V} (h : Thing K H x) (e : Same H H') : Thing K H' x := ⟨h.t, h.bi, h.bb, h.bs, e.tyE' h.ty, h.ki, h.kb, h.ks, h.hi, h.hs, h.ni, h.ns, h.hbl, h.nbl⟩
theorem Same.upd {H H' : Hp} {p : Addr} {o : HO} (e : Same H H') (h : H p = none ∨ H p = some o) : Same H (L2.upd H' p o) := fun b u q => by
  by_cases z : b = p
  · subst z
    rcases h with h | h
    · rw [h] at q; cases q
    · rw [h] at q; rw [upd_same]; exact q
  · rw [upd_ne z]; exact e b u q
end L2
/-! written whole numbers: what the laws ask of them -/
namespace L2
open PySem PySem.Spec PyProof.Rows
end L2
/-! a table of the module, asked by get; in, where it is asked of lists and tuples too; index; split -/
namespace L2
open PySem PySem.Spec PyProof.Rows PySem.Calls
theorem pe_eqv {X : Cx} {e : Expr} {te te' : TE} (h : PE X e te') (h2 : te' = te) : PE X e te := h2 ▸ h
section
variable {X : Cx}
end
end L2
/-! sets of texts, made of a tuple; a text cut at blanks -/
namespace L2
open PySem PySem.Spec PyProof.Rows PySem.Calls
section
variable {prog : Program} {w : World} {A : Around} {R : Result → Shared → Prop} {I : Addr} {fp wr : List Addr} {G : Array GenState → Array GenState → Prop} {n : Nat} {P : Nat → Value → Prop} {St : Nat → Shared → Prop}
end

section
variable {prog : Program} {w : World} {A : Around} {E : Value → Shared → Prop} {s : Shared}
end
section
variable {X : Cx}
end
end L2
namespace L2
open PySem PySem.Spec PyProof.Rows PySem.Calls
section
variable {X : Cx}
end
theorem comp_tup {K : PySem.W.Frag} {a : Addr} {xs : List V} {te : TE} {σ : St} {H : Hp} {Q : VK} (hz : xs.length ≤ sizeLine) (W : Nat → List V → Hp → Prop) (h0 : W 0 [] H) (hq : ∀ i ys H, W i ys H → SqT K H a xs)
    (hs : ∀ i x ys H, xs[i]? = some x → ys.length = i → W i ys H → te (some x :: σ) H fun v H' => W (i + 1) (ys ++ [v]) H')
    (hd : ∀ ys H, ys.length = xs.length → W xs.length ys H → ∀ p, H p = none → Q (.ref p) (upd H p (.lst ys))) : CompR (Itt K a) te σ H Q := by
  refine ⟨xs.length, W, hz, h0, fun i ys H hi hl hw => ?_⟩
  have q := hq i ys H hw
  by_cases hlt : i < xs.length
  · refine .inr ⟨⟨xs, xs[i], q, by simp [hlt]⟩, hlt, fun v H' y => ?_⟩
    obtain ⟨e, y⟩ := y
    subst e
    exact hs i v ys _ (y xs q) hl hw
  · have e : i = xs.length := by omega
    subst e
    exact .inl ⟨⟨xs, q, Nat.le_refl _⟩, hd ys H hl hw⟩
/-! parts between blanks -/
end L2
namespace HT
open PySem PySem.Spec PyProof.Rows PySem.Calls
section
variable {prog : Program} {w : World} {A : Around} {E : Value → Shared → Prop} {s : Shared}
end
end HT
namespace L2
open PySem PySem.Spec PyProof.Rows PySem.Calls
section
variable {X : Cx}
end
end L2
/-! comprehensions with a target of two names, and with a test -/
namespace L2
open PySem PySem.Spec PyProof.Rows PySem.Calls
structure CompOk2 (X : Cx) (scope : Scope) (x y : Str) (M : List Str) : Prop where
  base : CompOk X scope x M
  loc2 : scope.names.lookup y = some .local
  nd2 : (x :: y :: M).Nodup
section
variable {X : Cx} {scope : Scope} {x y : Str} {M : List Str} {pins : List (Addr × Obj)} {σ : St} {H₂ : Hp} {s₂ : Shared} {elt iter tg : Expr} {ifs : List Expr} {pos : Pos} {te : TE} {wi : TI} {g : TG} {tc : TT}
end
end L2
/-! comprehensions over tuples of two, sets of lists, ranges with a step, and what items are alike -/
namespace L2
open PySem PySem.Spec PyProof.Rows PySem.Calls
section
variable {X : Cx} {scope : Scope} {x y : Str} {M : List Str} {elt iter : Expr} {ifs : List Expr} {pos p1 p2 p3 : Pos} {kk : Nat} {te : TE} {wi : TI} {tc : TT}
structure CompRT (K : PySem.W.Frag) (J : It) (tc : TT) (te : TE) (σ : St) (H1 : Hp) (Q : VK) : Prop where
  ex : ∃ (n : Nat) (W : Nat → List V → Hp → Prop), n ≤ sizeLine ∧ W 0 [] H1 ∧ ∀ i ys H, i ≤ n → ys.length ≤ i → W i ys H →
    (J.stop i H ∧ ∀ p, H p = none → Q (.ref p) (upd H p (.lst ys))) ∨ (J.go i H ∧ i < n ∧ ∀ z H', J.yld i H z H' → ∃ (p : Addr) (a b : V), z = .ref p ∧ SqT K H' p [a, b] ∧ tc (some a :: some b :: σ) H' fun c H3 => if c = true then te (some a :: some b :: σ) H3 fun z H4 => W (i + 1) (ys ++ [z]) H4 else W (i + 1) ys H3)
end
section
variable {prog : Program} {w : World} {A : Around} {E : Value → Shared → Prop} {s : Shared}
end
section
variable {X : Cx}
end
/-! range(lo, hi, c) -/
section
variable {X : Cx} {tg : Expr}
end
/-! items -/
end L2
/-! None in a list of tuples -/
namespace L2
open PySem PySem.Spec PyProof.Rows PySem.Calls
end L2
/-! an expression alone, tried -/
namespace L2
open PySem PySem.Spec PyProof.Rows PySem.Calls
end L2
/-! closures: a def that hands back a lambda which keeps one of its names -/
namespace L2
open PySem PySem.Spec PyProof.Rows PySem.Calls
open PySem.W (tabObj CodeHd kla_obj kla_fn)

/-- a cell with a value -/
def cellO (c : Addr) (v : V) : HO := .ext fun h => ∃ u, RelV v u ∧ h.IsCell c (some u)
/-- a code record -/
def codeO (c : Addr) (q : Str) : HO := .ext fun h => h.CodeRec (.ref c) q
/-- what is written of a lambda: its full name, parameters, body, scope, and the name that it keeps -/
structure LamD where
  qual : Str
  params : Arguments
  body : Expr
  scope : Scope
  x : Str
  y : Str
/-- a lambda's object -/
def lamO (D : LamD) (p cc c' : Addr) : HO := .ext fun h => ∃ pm ctv, h.get? p = some (kla_obj "<lambda>" D.qual D.params D.body D.scope [(D.y, cc)] pm c' ctv)
/-- at p stands the lambda, with v kept -/
def LamAt (D : LamD) (H : Hp) (p : Addr) (v : V) : Prop := ∃ cc c', H p = some (lamO D p cc c') ∧ H cc = some (cellO cc v) ∧ H c' = some (codeO c' D.qual)
/-- the table of the def's code: nothing yet, or the lambda's code -/
def TabE (H : Hp) (P : Addr) : Prop := H P = some (.tbl #[])
def TabG (D : LamD) (pos : Pos) (H : Hp) (P : Addr) : Prop := ∃ c', H P = some (.tbl #[rawInt pos.line, rawInt pos.col, .ref c']) ∧ H c' = some (codeO c' D.qual)
def Tab (D : LamD) (pos : Pos) (H : Hp) (P : Addr) : Prop := TabE H P ∨ TabG D pos H P
/-- the same but at P -/
def SameB (P : Addr) (H H' : Hp) : Prop := ∀ b u, b ≠ P → H b = some u → H' b = some u
theorem SameB.trans {P : Addr} {H H1 H2 : Hp} (a : SameB P H H1) (b : SameB P H1 H2) : SameB P H H2 := fun c u n e => b c u n (a c u n e)
theorem SameB.refl {P : Addr} {H : Hp} : SameB P H H := fun _ _ _ e => e

theorem IsCell.one {h1 h2 : Heap} {c : Addr} {v : Option Value} (x : h1.IsCell c v) (k : ∀ o, h1.get? c = some o → h2.get? c = some o) : h2.IsCell c v :=
  let ⟨o, ho, hd⟩ := x; ⟨o, k o ho, hd⟩
theorem ok_cellO {P : Program} {w : World} {H : Hp} {h : Heap} {c : Addr} {v : V} {u : Value} (r : RelV v u) (x : h.IsCell c (some u)) : ObjOk P w H h c (cellO c v) :=
  ⟨⟨u, r, x⟩, let ⟨o, ho, _⟩ := x; ⟨o, ho⟩, fun _ _ ⟨u, r, x⟩ k => ⟨u, r, IsCell.one x k⟩⟩
theorem ok_codeO {P : Program} {w : World} {H : Hp} {h : Heap} {c : Addr} {q : Str} (x : h.CodeRec (.ref c) q) : ObjOk P w H h c (codeO c q) := by
  refine ⟨x, ?_, fun h1 h2 x k => ?_⟩
  · obtain ⟨c', o, vs, t, e, g, r⟩ := x
    cases e
    exact ⟨o, g⟩
  · obtain ⟨c', o, vs, t, e, g, r⟩ := x
    cases e
    exact ⟨c, o, vs, t, rfl, k o g, r⟩
theorem ok_lamO {P : Program} {w : World} {H : Hp} {h : Heap} {D : LamD} {p cc c' : Addr} {pm ctv : Value} (x : h.get? p = some (kla_obj "<lambda>" D.qual D.params D.body D.scope [(D.y, cc)] pm c' ctv)) : ObjOk P w H h p (lamO D p cc c') :=
  ⟨⟨pm, ctv, x⟩, ⟨_, x⟩, fun _ _ ⟨pm, ctv, x⟩ k => ⟨pm, ctv, k _ x⟩⟩

/-- without what stands at c -/
def del (H : Hp) (c : Addr) : Hp := fun b => if b = c then none else H b
theorem del_same {H : Hp} {c : Addr} : del H c c = none := if_pos rfl
theorem del_ne {H : Hp} {b c : Addr} (h : b ≠ c) : del H c b = H b := if_neg h
theorem del_none {H : Hp} {b c : Addr} (h : H b = none) : del H c b = none := by
  by_cases e : b = c
  · rw [e]; exact del_same
  · rw [del_ne e]; exact h
theorem HOk.del {P : Program} {w : World} {H : Hp} {h : Heap} {c : Addr} {φ : Heap → Prop} (x : HOk P w H h) (hc : H c = some (.ext φ)) : HOk P w (del H c) h := fun b o e => by
  by_cases hb : b = c
  · rw [hb, del_same] at e; cases e
  · rw [del_ne hb] at e
    refine (x b o e).stay (fun _ _ _ q => q) (fun d q => ?_) fun d xs q => ?_
    · rw [del_ne (by rintro rfl; rw [hc] at q; cases q)]; exact q
    · rw [del_ne (by rintro rfl; rw [hc] at q; cases q)]; exact q

/-- the context of a lambda's body -/
def cxLam (CX : CXT) (P : Program) (w : World) (K : PySem.W.Frag) (mg : Str → Option Value) (base : Heap) (D : LamD) (p cc : Addr) (cd : Value) (A : Around) (outer : List Env) (s : Shared) (H : Hp) (E : XK) : Cx where
  prog := P
  w := w
  K := K
  mg := mg
  base := base
  A := A.deeper (PySem.W.envX D.qual D.scope s.heap.objs.size p cd [(D.y, cc)])
  N := [D.x, D.y]
  s₀ := s
  H₀ := del H cc
  env := PySem.W.envX D.qual D.scope s.heap.objs.size p cd [(D.y, cc)]
  outer := outer
  stack := PySem.W.envX D.qual D.scope s.heap.objs.size p cd [(D.y, cc)] :: outer
  ex := []
  calm := true
  fn := fun _ => false
  pn := []
  xe := fun e s' => wpAny (model P w) (A.deeper (PySem.W.envX D.qual D.scope s.heap.objs.size p cd [(D.y, cc)])) (leaving (PySem.W.envX D.qual D.scope s.heap.objs.size p cd [(D.y, cc)]) e) (fun _ s'' => CX outer H s E e s'') (fun e' s'' => CX outer H s E e' s'') s'

structure LamD.Ok (D : LamD) : Prop where
  kind : D.scope.kind = .function
  co : D.scope.isCoroutine = false
  gen : D.scope.isGenerator = false
  names : D.scope.names = [(D.x, .local), (D.y, .free)]
  ne : D.x ≠ D.y
  bind : ∀ (cc : Addr) (pm cdv ct u : Value), bindArgs (kla_fn "<lambda>" D.qual D.params D.body D.scope [(D.y, cc)] pm cdv ct) ⟨[u], []⟩ = pure [(D.x, u)]

theorem LamD.Ok.lx {D : LamD} (O : D.Ok) : D.scope.names.lookup D.x = some .local := by rw [O.names, List.lookup_cons, beq_self_eq_true]
theorem LamD.Ok.ly {D : LamD} (O : D.Ok) : D.scope.names.lookup D.y = some .free := by
  rw [O.names, List.lookup_cons, beq_eq_false_iff_ne.mpr O.ne.symm, List.lookup_cons, beq_self_eq_true]
theorem LamD.Ok.of {D : LamD} (O : D.Ok) {x : Str} {k : NameKind} (h : D.scope.names.lookup x = some k) : (x = D.x ∧ k = .local) ∨ (x = D.y ∧ k = .free) := by
  rw [O.names, List.lookup_cons] at h
  cases e : x == D.x with
  | true => rw [e] at h; cases h; exact .inl ⟨eq_of_beq e, rfl⟩
  | false =>
    rw [e, List.lookup_cons] at h
    cases e2 : x == D.y with
    | true => rw [e2] at h; cases h; exact .inr ⟨eq_of_beq e2, rfl⟩
    | false => rw [e2] at h; cases h

theorem look1 {y z : Str} {cc c : Addr} (h : ([(y, cc)] : List (Str × Addr)).lookup z = some c) : z = y ∧ c = cc := by
  rw [List.lookup_cons] at h
  cases e : z == y with
  | true => rw [e] at h; cases h; exact ⟨eq_of_beq e, rfl⟩
  | false => rw [e] at h; cases h

theorem inv_lam {CX : CXT} {P : Program} {w : World} {K : PySem.W.Frag} {mg : Str → Option Value} {base : Heap} {D : LamD} {p cc : Addr} {cd : Value} {A : Around} {outer : List Env} {s : Shared} {h1 : Heap} {tk : Tok} {H : Hp} {E : XK} {u : Value} {v vc : V} {m : Str → Option Value}
    (O : D.Ok) (hd : A.handled = none) (e0 : Env0 P w K mg base A outer s H) (hc : H cc = some (cellO cc vc)) (r : RelV v u)
    (hn : h1.Ns s.heap.objs.size m) (hm : m D.x = some u) (hk : ∀ b o, s.heap.get? b = some o → h1.get? b = some o) :
    Inv (cxLam CX P w K mg base D p cc cd A outer s H E) [] [some v, some vc] (del H cc) { s with heap := h1, toks := tk } := by
  obtain ⟨⟨uc, rc, hcell⟩, _, _⟩ := e0.hok _ _ hc
  have noA : ∀ b : Addr, b ∉ (cxLam CX P w K mg base D p cc cd A outer s H E).ex := fun b z => absurd (show b ∈ ([] : List Addr) from z) (by simp)
  refine ⟨⟨e0.mod, O.kind, rfl, rfl, Nat.le_refl _, fun y z c h1 h2 => ?_, fun y hy => ?_, fun y c h _ => (by cases (show false = true from h)), fun _ => hd, Around.frames_deeper e0.frames, .inr ⟨rfl, rfl⟩, fun b z => absurd z (noA b), fun b o e => ⟨(e0.bs b o e).1, del_none (e0.bs b o e).2⟩, e0.bsz, fun b _ _ => noA b, fun b z => absurd z (noA b), e0.funs, fun b hb => del_none (e0.frf b hb)⟩,
    rfl, e0.bare, Un.kept hk, ⟨m, hn, fun i y v' h1 h2 h3 => ?_⟩, fun y c h => ?_, del_none (e0.hok.fresh (Nat.le_refl _)), fun y c h => ?_, fun p hp => absurd (show p ∈ ([] : List (Addr × Obj)) from hp) (by simp), ((e0.hok.del hc).kept hk), rfl⟩
  · exact (look1 h1).1.trans (look1 h2).1.symm
  · rcases hy with hy | hy
    · rcases O.of hy with ⟨_, e⟩ | ⟨_, e⟩ <;> cases e
    · rcases O.of hy with ⟨_, e⟩ | ⟨e, _⟩
      · cases e
      · exact ⟨cc, by rw [e]; show List.lookup D.y [(D.y, cc)] = _; rw [List.lookup_cons, beq_self_eq_true]⟩
  · match i, h1, h2 with
    | 0, h1, h2 =>
      cases h1; cases h2
      exact ⟨u, r, .inl ⟨O.lx, hm⟩⟩
    | 1, h1, h2 =>
      cases h1; cases h2
      exact ⟨uc, rc, .inr ⟨.inr O.ly, cc, (by show List.lookup D.y [(D.y, cc)] = _; rw [List.lookup_cons, beq_self_eq_true]), IsCell.one hcell (hk _)⟩⟩
    | i + 2, h1, h2 => simp at h2
  · obtain ⟨_, rfl⟩ := look1 h
    exact ⟨_, IsCell.one hcell (hk _)⟩
  · obtain ⟨_, rfl⟩ := look1 h
    exact del_same
end L2
/-! closures: the call, and the making -/
namespace L2
open PySem PySem.Spec PyProof.Rows PySem.Calls
open PySem.W (tabObj CodeHd kla_obj kla_fn)

/-- the lambda is called; its body changes nothing -/
theorem lam_run {CX : CXT} {P : Program} {w : World} {K : PySem.W.Frag} {mg : Str → Option Value} {base : Heap} {D : LamD} {k : Nat} {tb : TE} (O : D.Ok)
    (hbody : ∀ (p cc : Addr) (cd : Value) (A : Around) (outer : List Env) (s : Shared) (H : Hp) (E : XK), Room k (A.deeper (PySem.W.envX D.qual D.scope s.heap.objs.size p cd [(D.y, cc)])) → PE (cxLam CX P w K mg base D p cc cd A outer s H E) D.body tb)
    {A : Around} {outer : List Env} {s : Shared} {H : Hp} {p cc c' : Addr} {u : Value} {x v : V} {Q : VK} {E : XK} (hr : Room (k + 1) A) (e0 : Env0 P w K mg base A outer s H)
    (hp : H p = some (lamO D p cc c')) (hc : H cc = some (cellO cc v)) (hcd : H c' = some (codeO c' D.qual)) (r : RelV x u)
    (h : tb [some x, some v] (del H cc) (fun y H1 => H1 = del H cc ∧ Q y H)) :
    codeAny (model P w) A (.call (.ref p) ⟨[u], []⟩) (CR CX outer P w H s Q E) s := by
  obtain ⟨⟨pm, ctv, ho⟩, _, _⟩ := e0.hok _ _ hp
  have hrec : s.heap.CodeRec (.ref c') D.qual := (e0.hok _ _ hcd).1
  have lim : s.heap.NoLimit := e0.mod.nolimit.keeps fun b o e => (e0.bs b o e).1
  refine PySem.W.kla_callFunE hr.depth ho rfl O.co O.gen rfl hrec ?_
  rw [O.bind]
  refine wpAny_pure (wpAny_newFunctionEnv (fun y hy => ?_) (fun y hy => ?_) (fun h₁ hns hsb => ⟨lim.fresh _ hsb, ?_⟩) O.kind)
  · have hy : y ∈ D.scope.names := hy
    rw [O.names] at hy
    rcases List.mem_cons.mp hy with rfl | hy
    · intro z; cases z
    · rw [List.mem_singleton.mp hy]; intro z; cases z
  · rw [List.mem_singleton.mp hy]; exact O.lx
  show codeAny _ _ (.expr D.body (PySem.W.envX D.qual D.scope s.heap.objs.size p (.ref c') [(D.y, cc)])) _ _
  have hk₁ : ∀ b o, s.heap.get? b = some o → h₁.get? b = some o := fun b o e => hsb.extBut b o (Nat.ne_of_lt (Heap.lt_size e)) (Heap.get?_push_of_some _ e)
  have I : Inv (cxLam CX P w K mg base D p cc (.ref c') A outer s H E) [] [some x, some v] (del H cc) { s with heap := h₁, toks := s.toks + 1 } :=
    inv_lam O hr.hd e0 hc r hns (by show List.lookup D.x [(D.x, u)] = _; rw [List.lookup_cons, beq_self_eq_true]) hk₁
  refine PySem.W.kla_codeExpr (wpAny_mono (hbody p cc (.ref c') A outer s H E (hr.deeper _) [] _ _ _ _ I h) (fun y s' hs => ?_) fun e s' hs => hs)
  obtain ⟨v', H', J, rv, e, q⟩ := hs
  subst e
  have nf : cc ∉ frs outer := fun z => by have := e0.frf cc z; rw [hc] at this; cases this
  have un := J.base
  refine ⟨v', H, J.os, J.bare, ⟨fun b o e n hb hx => un.keep b o e (del_none n) hb hx, fun b o e n hb hx => un.slot b o e (del_none n) hb hx, fun _ _ _ n _ => n, un.there, fun _ _ e => e, fun _ _ _ e => e, fun _ _ e => ⟨#[], by rw [e]; simp⟩⟩, fun b o e => ?_, rv, q⟩
  by_cases hb : b = cc
  · subst hb
    rw [hc] at e; cases e
    obtain ⟨⟨uc, rc, hcell⟩, _, _⟩ := e0.hok _ _ hc
    exact ok_cellO rc (IsCell.one hcell fun o q => un.keep _ o q del_same nf (by intro z; exact absurd (show b ∈ ([] : List Addr) from z) (by simp)))
  · refine (J.hok b o (by rw [del_ne hb]; exact e)).stay (fun _ _ _ q => q) (fun d q => ?_) fun d xs q => ?_
    · by_cases hd : d = cc
      · rw [hd, del_same] at q; cases q
      · rw [del_ne hd] at q; exact q
    · by_cases hd : d = cc
      · rw [hd, del_same] at q; cases q
      · rw [del_ne hd] at q; exact q

/-- f(e), f a name of the text's block that leads to a lambda -/
def tCallL (D : LamD) (tb tf : TE) (t : TA) : TE := fun σ H Q => tf σ H fun f H1 => ∃ p, f = .ref p ∧ t σ H1 fun vs H2 => ∃ x v cc c', vs = [x] ∧ H2 p = some (lamO D p cc c') ∧ H2 cc = some (cellO cc v) ∧ H2 c' = some (codeO c' D.qual) ∧
  tb [some x, some v] (del H2 cc) fun y H3 => H3 = del H2 cc ∧ Q y H2
theorem pe_callL {X : Cx} {CX : CXT} {D : LamD} {k : Nat} {tb tf : TE} {t : TA} {x : Str} {p pos : Pos} {e : Expr} {E : XK} (O : D.Ok)
    (hbody : ∀ (p cc : Addr) (cd : Value) (A : Around) (outer : List Env) (s : Shared) (H : Hp) (E : XK), Room k (A.deeper (PySem.W.envX D.qual D.scope s.heap.objs.size p cd [(D.y, cc)])) → PE (cxLam CX X.prog X.w X.K X.mg X.base D p cc cd A outer s H E) D.body tb)
    (hr : Room (k + 1) X.A) (hx : Passes CX X E) (hf : PE X (.Name x p) tf) (ha : PA X [e] t) (he : starEach [e] X.env = (false, eval e X.env) :: starEach [] X.env := by rfl) :
    PE X (.Call (.Name x p) [e] [] pos) (tCallL D tb tf t) := by
  intro pins s σ H Q I h
  refine wpAny_Call_Name_kw (thn (hf pins s σ H _ I h) fun f s1 ⟨fv, H1, I1, rf, q, ef, h1⟩ => ?_)
  subst ef
  obtain rfl : f = Value.ref q := rf
  have h2 := ha pos pins s1 σ H1 _ I1 h1
  rw [he] at h2
  show wpAny _ _ (callWith pos (.ref q) [] (backTo pos (starEach [e] X.env)) []) _ _ _
  rw [he]
  refine PySem.W.callWith_of (P := PySem.W.FnAt q) rfl PySem.W.keeps_F (evalArgs_plain (thn h2 fun us s2 ⟨vs, H2, I2, rvs, y, v, cc, c', ev, hp, hc, hcd, hb⟩ => ?_))
  subst ev
  obtain ⟨⟨pm, ctv, ho⟩, _, _⟩ := I2.hok _ _ hp
  refine ⟨⟨_, _, _, _, ho⟩, ?_⟩
  cases rvs with
  | cons r rest =>
    cases rest
    refine wpAny_call (codeAny_mono (lam_run (E := E) O hbody hr I2.env0 hp hc hcd r hb) fun r s' hq => ?_)
    cases r with
    | error e => exact hx pins σ H2 s2 e s' I2 hq
    | ok fl =>
      cases fl with
      | ret u => exact I2.after hq
      | next => exact False.elim hq
      | brk => exact False.elim hq
      | cont => exact False.elim hq

theorem mk_ce {P : Program} {w : World} {outer : List Env} {s : Shared} {h2 : Heap} {H : Hp} {Q : VK} {D : LamD} {Pt cc c' p : Addr} {u : Value} {v : V} {pm ctv : Value} {tk : Tok} {ps ps' : Array Value}
    (hok : HOk P w H s.heap) (hT : H Pt = some (.tbl ps)) (hps : ∃ more, ps' = ps ++ more) (hx : ∀ b o, b ≠ Pt → s.heap.get? b = some o → h2.get? b = some o) (hP2 : h2.get? Pt = some (tabObj ps'))
    (hcell : h2.IsCell cc (some u)) (r : RelV v u) (hrec : h2.CodeRec (.ref c') D.qual) (hp : h2.get? p = some (kla_obj "<lambda>" D.qual D.params D.body D.scope [(D.y, cc)] pm c' ctv))
    (fc : s.heap.objs.size ≤ cc) (fp : s.heap.objs.size ≤ p) (f' : (H c' = none ∧ s.heap.objs.size ≤ c') ∨ H c' = some (codeO c' D.qual)) (bare : AllBare s.gens)
    (q : ∀ H', SameB Pt H H' → H' Pt = some (.tbl ps') → H' p = some (lamO D p cc c') → H' cc = some (cellO cc v) → H' c' = some (codeO c' D.qual) → Q (.ref p) H') :
    CE outer P w H s Q (.ref p) { s with heap := h2, toks := tk } := by
  obtain ⟨oc, hoc, hdc⟩ := hcell
  obtain ⟨c2, o', vs', t', e', ho', hd', hv'⟩ := id hrec
  cases e'
  have hPs := hok _ _ hT
  have hPlt : Pt < s.heap.objs.size := (hok _ _ hT).lt
  have ncc : H cc = none := hok.fresh fc
  have np : H p = none := hok.fresh fp
  have n1 : p ≠ cc := by rintro rfl; rw [hp] at hoc; cases hoc; cases hdc
  have n2 : p ≠ c' := by rintro rfl; rw [hp] at ho'; cases ho'; cases hd'
  have n3 : cc ≠ c' := by rintro rfl; rw [hoc] at ho'; cases ho'; rw [hdc] at hd'; cases hd'
  have n4 : Pt ≠ p := Nat.ne_of_lt (Nat.lt_of_lt_of_le hPlt fp)
  have n5 : Pt ≠ cc := Nat.ne_of_lt (Nat.lt_of_lt_of_le hPlt fc)
  have n6 : Pt ≠ c' := by
    rintro rfl
    rcases f' with ⟨e, _⟩ | e
    · rw [hT] at e; cases e
    · rw [hT] at e; cases e
  generalize eH : upd (upd (upd (upd H Pt (.tbl ps')) c' (codeO c' D.qual)) cc (cellO cc v)) p (lamO D p cc c') = H'
  have g1 : H' p = some (lamO D p cc c') := by rw [← eH]; exact upd_same
  have g2 : H' cc = some (cellO cc v) := by rw [← eH, upd_ne n1.symm]; exact upd_same
  have g3 : H' c' = some (codeO c' D.qual) := by rw [← eH, upd_ne n2.symm, upd_ne n3.symm]; exact upd_same
  have g4 : H' Pt = some (.tbl ps') := by rw [← eH, upd_ne n4, upd_ne n5, upd_ne n6]; exact upd_same
  have g5 : ∀ b, b ≠ p → b ≠ cc → b ≠ c' → b ≠ Pt → H' b = H b := fun b a1 a2 a3 a4 => by rw [← eH, upd_ne a1, upd_ne a2, upd_ne a3, upd_ne a4]
  have sb : SameB Pt H H' := fun b o hb e => by
    have a1 : b ≠ p := ne_of_none e np
    have a2 : b ≠ cc := ne_of_none e ncc
    by_cases a3 : b = c'
    · subst a3
      rcases f' with ⟨z, _⟩ | z
      · rw [z] at e; cases e
      · rw [z] at e; cases e; exact g3
    · rw [g5 b a1 a2 a3 hb]; exact e
  have old : ∀ b o, s.heap.get? b = some o → H b = none → b ≠ Pt ∧ H' b = none := fun b o e n => by
    have lt := Heap.lt_size e
    have a4 : b ≠ Pt := by rintro rfl; rw [hT] at n; cases n
    refine ⟨a4, ?_⟩
    rw [g5 b (Nat.ne_of_lt (Nat.lt_of_lt_of_le lt fp)) (Nat.ne_of_lt (Nat.lt_of_lt_of_le lt fc)) ?_ a4]
    · exact n
    · rintro rfl
      rcases f' with ⟨_, z⟩ | z
      · exact absurd (Nat.lt_of_lt_of_le lt z) (Nat.lt_irrefl _)
      · rw [n] at z; cases z
  refine ⟨.ref p, H', rfl, bare, ⟨fun b o e n _ _ => hx b o (old b o e n).1 e, fun b o e n _ _ => ⟨o.slots, hx b o (old b o e n).1 e⟩, fun b o e n _ => (old b o e n).2, fun b o e _ => ?_, fun b xs e => ?_, fun b o z e => ?_, fun b qs e => ?_⟩, fun b o e => ?_, rfl, q H' sb g4 g1 g2 g3⟩
  · by_cases hb : b = Pt
    · exact ⟨_, by rw [hb]; exact hP2⟩
    · exact ⟨o, hx b o hb e⟩
  · exact sb b _ (by rintro rfl; rw [hT] at e; cases e) e
  · exact sb b _ (by rintro rfl; rw [hT] at e; cases e) e
  · by_cases hb : b = Pt
    · subst hb
      rw [hT] at e; cases e
      obtain ⟨more, rfl⟩ := hps
      exact ⟨more, g4⟩
    · exact ⟨#[], by rw [sb b _ hb e]; simp⟩
  · by_cases a1 : b = p
    · subst a1; rw [g1] at e; cases e; exact ok_lamO hp
    by_cases a2 : b = cc
    · subst a2; rw [g2] at e; cases e; exact ok_cellO r ⟨oc, hoc, hdc⟩
    by_cases a3 : b = c'
    · subst a3; rw [g3] at e; cases e; exact ok_codeO hrec
    by_cases a4 : b = Pt
    · subst a4; rw [g4] at e; cases e; exact hP2
    rw [g5 b a1 a2 a3 a4] at e
    refine (hok b o e).stay (fun d z hd ez => hx d z ?_ ez) (fun d z => sb d _ ?_ z) fun d xs z => sb d _ ?_ z
    · rcases hd with rfl | hd
      · exact a4
      · rintro rfl; rw [hT] at hd; cases hd
    · rintro rfl; rw [hT] at z; cases z
    · rintro rfl; rw [hT] at z; cases z

/-- the module of the builtins -/
def BMain (mg : Str → Option Value) (h : Heap) : Prop := ∃ bm ob, mg "__builtins__" = some (.ref bm) ∧ bm ≠ builtinsNs ∧ h.get? bm = some ob ∧ ob.cls = .type "module" ∧ ob.dict = some builtinsNs ∧ ob.data = .plain

theorem closure1 {D : LamD} (O : D.Ok) {env : Env} {cc : Addr} (h : env.cells.lookup D.y = some cc) : closureFor D.scope env = pure [(D.y, cc)] := by
  have e : cellOf env D.y = pure cc := by unfold cellOf; rw [h]
  unfold closureFor
  rw [O.names]
  simp only [List.forIn_cons, List.forIn_nil]
  rw [if_neg (by decide)]
  simp only [pure_bind, e, beq_self_eq_true, if_true]

/-- a def that hands back a lambda -/
def spLam (D : LamD) (pos : Pos) (Pt : Addr) : Sp := fun vs H Q _ => ∃ v, vs = [v] ∧ Tab D pos H Pt ∧ ∀ p H', H p = none → SameB Pt H H' → TabG D pos H' Pt → LamAt D H' p v → Q (.ref p) H'

theorem fn_lam {CX : CXT} {P : Program} {w : World} {K : PySem.W.Frag} {mg : Str → Option Value} {base : Heap} {k : Nat} {f : Addr} {name qual : Str} {params : Arguments} {scope : Scope} {dV kV doc pm cdv ct oc : Value} {an od : Option Addr}
    {osl : Array (Option Value)} {N : List Str} {D : LamD} {c Pt : Addr} {pos pos2 : Pos}
    (lk : K.lookup f = some ⟨oc, od, .func (PySem.W.fnOf name qual params [.Return (some (.Lambda D.params D.body D.scope pos)) pos2] scope dV kV doc pm an cdv ct), osl⟩) (hcd : PySem.W.codeIn K cdv qual = true) (S : FnScope N [D.y] scope)
    (hcl : scope.names.lookup D.y = some .cell) (O : D.Ok) (hq : qual ++ ".<locals>." ++ "<lambda>" = D.qual) (hdef : ∀ env, defaultsOf D.params env = ([], [])) (hcv : cdv = .ref c) (hch : PySem.W.codeHdIn K c Pt = true) (hB : BMain mg base) :
    FnOk P w K mg base CX (k + 1) f (PySem.W.fnOf name qual params [.Return (some (.Lambda D.params D.body D.scope pos)) pos2] scope dV kV doc pm an cdv ct) [D.y] (spLam D pos Pt) := by
  refine ⟨fun vs H Q E ⟨v, e, _⟩ => by rw [e]; rfl, fun A outer s H args us vs Q E hr e0 hb r hsp => ?_⟩
  obtain ⟨v, rfl, hTab, hQ⟩ := hsp
  have KX : K.In s.heap := e0.mod.kin.keeps fun b o e => (e0.bs b o e).1
  have lim : s.heap.NoLimit := e0.mod.nolimit.keeps fun b o e => (e0.bs b o e).1
  have hkind : ∀ y ∈ [D.y].zip us, scope.names.lookup y.1 = some .local ∨ (scope.names.lookup y.1 = some .cell ∧ ((cellsFrom (s.heap.objs.size + 1) scope.names []).lookup y.1).isSome = true) := fun ⟨n, v⟩ hy => by
    rcases S.par n (List.of_mem_zip hy).1 with q | q
    · exact .inl q
    · exact .inr ⟨q, PySem.W.cellsFrom_some _ _ _ (.inl q)⟩
  refine codeAny_call_function hr.depth (KX _ _ lk) rfl S.co S.gen rfl (PySem.W.codeRec_of KX hcd) (hb _ _ _ _ ?_)
  refine wpAny_newFunctionEnv_cells S.kind hkind fun env he s1 x => ?_
  subst he
  refine ⟨lim.keeps x.toInCall.keep, codeAny_func ?_⟩
  have I : Inv (cxOf CX P w K mg base N qual scope f cdv A outer s H E) [] (start N [v]) H s1 := inv_start S hr.hd e0 rfl r x
  obtain ⟨h1, tk1, es1, hk1⟩ := x.done
  obtain ⟨m, hns, hloc⟩ := I.loc
  have hN : N[0]? = some D.y := by
    have := S.pre
    cases N with
    | nil => cases this
    | cons a t => cases this; rfl
  obtain ⟨u, ru, lk0⟩ := hloc 0 D.y v hN rfl (.inr (.inl hcl))
  have hcell : ∃ cc, (envOfC qual scope s.heap.objs.size f cdv).cells.lookup D.y = some cc ∧ s1.heap.IsCell cc (some u) := by
    rcases lk0 with ⟨z, _⟩ | ⟨_, cc, e1, e2⟩
    · have z : scope.names.lookup D.y = some .local := z
      rw [hcl] at z; cases z
    · exact ⟨cc, e1, e2⟩
  obtain ⟨cc, ecc, hcc⟩ := hcell
  have fcc : s.heap.objs.size ≤ cc := I.ok.cab D.y cc rfl ecc
  have hT : ∃ ps, H Pt = some (.tbl ps) := by
    rcases hTab with e | ⟨c', e, _⟩
    · exact ⟨_, e⟩
    · exact ⟨_, e⟩
  have hsome : H Pt ≠ none := by obtain ⟨ps, e⟩ := hT; rw [e]; simp
  have hgs : s1.heap.Ns mainGlobals mg := I.mod.glob.keeps I.bk
  have C : CodeHd s1.heap c Pt := PySem.W.codeHd_of_K I.kIn hch
  have hgP : mainGlobals ≠ Pt := fun e => by
    obtain ⟨o, _, _, z, _⟩ := I.mod.glob
    exact hsome (e ▸ (I.bs _ _ z).2)
  have hBA : s1.heap.BuiltinsAt mg Pt := by
    obtain ⟨bm, ob, a1, a2, a3, a4, a5, a6⟩ := hB
    refine ⟨bm, ob, a1, a2, fun e => ?_, fun e => hsome (e ▸ (I.bs _ _ a3).2), (I.bs _ _ a3).1, a4, a5, a6⟩
    obtain ⟨o, _, _, z, d, _⟩ := e0.mod.glob
    rw [e, z] at a3; cases a3; rw [d] at a6; cases a6
  have hclos := closure1 O ecc
  refine wpAny_execs_cons (wpAny_Return_some (PySem.W.kla_eval (hdef _) ?_))
  show wpAny _ _ (makeFunction "<lambda>" (qual ++ ".<locals>." ++ "<lambda>") D.params (.expr D.body) D.scope (envOfC qual scope s.heap.objs.size f cdv) [] [] [] pos pos.line) _ _ _
  rw [hq]
  rcases hTab with hE | ⟨c', hG, hGc⟩
  · have hP : s1.heap.get? Pt = some (tabObj #[]) := I.hok _ _ hE
    refine PySem.W.kla_makeFunction (mg := mg) hclos rfl hgs hcv C hP trivial rfl hgP hBA fun c' ctv h' tk hx hge hlt hrec htb => ?_
    subst es1
    have hk2 : ∀ b o, b ≠ Pt → s.heap.get? b = some o → (h'.push (kla_obj "<lambda>" D.qual D.params D.body D.scope [(D.y, cc)] ((mg "__name__").getD .none) c' ctv)).get? b = some o := fun b o hb e => Heap.get?_push_of_some _ (hx b o hb (hk1 b o e))
    have sz : s.heap.objs.size ≤ h1.objs.size := I.sz
    have nP : cc ≠ Pt := by
      rintro rfl
      exact absurd (Nat.lt_of_lt_of_le (e0.hok _ _ hE).lt fcc) (Nat.lt_irrefl _)
    refine mk_ce (ps := #[]) (ps' := #[] ++ #[rawInt pos.line, rawInt pos.col, .ref c']) e0.hok hE ⟨_, rfl⟩ hk2 (Heap.get?_push_of_some _ htb) (IsCell.one hcc fun o e => Heap.get?_push_of_some _ (hx cc o nP e)) ru (hrec.push _) (Heap.get?_push_size _ rfl) fcc
      (Nat.le_trans sz (Nat.le_trans hge (Nat.le_of_lt hlt))) (.inl ⟨e0.hok.fresh (Nat.le_trans sz hge), Nat.le_trans sz hge⟩) e0.bare fun H' sb q1 q2 q3 q4 => ?_
    exact hQ _ H' (e0.hok.fresh (Nat.le_trans sz (Nat.le_trans hge (Nat.le_of_lt hlt)))) sb ⟨c', by simpa using q1, q4⟩ ⟨cc, c', q2, q3, q4⟩
  · have hP : s1.heap.get? Pt = some (tabObj #[rawInt pos.line, rawInt pos.col, .ref c']) := I.hok _ _ hG
    refine PySem.W.kla_makeFunctionHit (mg := mg) (cv := .ref c') hclos rfl hgs hcv C hP trivial (by simp [codeAmong, rawInt]) hBA fun ctv h' tk hx hsz => ?_
    subst es1
    have sz : s.heap.objs.size ≤ h1.objs.size := I.sz
    have hk2 : ∀ b o, b ≠ Pt → s.heap.get? b = some o → (h'.push { cls := .type "function", data := .func (kla_fn "<lambda>" D.qual D.params D.body D.scope [(D.y, cc)] ((mg "__name__").getD .none) (.ref c') ctv) }).get? b = some o := fun b o hb e => Heap.get?_push_of_some _ (hx b o (hk1 b o e))
    have hrec : s.heap.CodeRec (.ref c') D.qual := (e0.hok _ _ hGc).1
    have nc' : c' ≠ Pt := by rintro rfl; rw [hG] at hGc; cases hGc
    refine mk_ce (ps := _) (ps' := #[rawInt pos.line, rawInt pos.col, .ref c']) e0.hok hG ⟨#[], by simp⟩ hk2 (Heap.get?_push_of_some _ (hx _ _ hP)) (IsCell.one hcc fun o e => Heap.get?_push_of_some _ (hx cc o e)) ru ?_ (Heap.get?_push_size _ rfl) fcc
      (Nat.le_trans sz hsz) (.inr hGc) e0.bare fun H' sb q1 q2 q3 q4 => ?_
    · obtain ⟨c2, o2, vs2, t2, e2, g2, r2⟩ := hrec
      cases e2
      exact ⟨c', o2, vs2, t2, rfl, hk2 _ _ nc' g2, r2⟩
    · exact hQ _ H' (e0.hok.fresh (Nat.le_trans sz hsz)) sb ⟨c', q1, q4⟩ ⟨cc, c', q2, q3, q4⟩
end L2
/-! sum of a list of whole numbers; the head of a law with a def that makes functions -/
namespace L2
open PySem PySem.Spec PyProof.Rows PySem.Calls
open PySem.W (tabObj CodeHd kla_obj kla_fn)

/-- nothing is tracked but the script and the table at Pt -/
def OnlyT (Pt : Addr) (H : Hp) : Prop := H Pt = some (.tbl #[]) ∧ ∀ b, b ≠ Pt → H b = none ∨ ∃ o xs, H b = some (.frz o (.lst xs))

theorem law_callT {P : Program} {w : World} {K : PySem.W.Frag} {mg mb : Str → Option Value} {CX : CXT} {k : Nat} {fa a : Addr} {fd : FuncData} {x : Str} {sp : Sp} {s₁ : Shared} {vs : List Value} {ns : List Int} {c Pt : Addr}
    (KX : K.In s₁.heap) (hns : s₁.heap.Ns mainGlobals mg) (hb : s₁.heap.Ns builtinsNs mb) (hbb : ∀ x : Str, x ≠ "__name__" → mb x = bootBuiltins x) (hlim : s₁.heap.NoLimit) (hg : s₁.gens = #[]) (hB : BMain mg s₁.heap)
    (hC : CodeHd s₁.heap c Pt) (hP : s₁.heap.get? Pt = some (tabObj #[])) (hKP : K.lookup Pt = none)
    (ha : s₁.heap.get? a = some { cls := .type "list", data := .seq vs.toArray }) (hi : IntsAre vs ns) (hl : ns.length ≤ sizeLine) (hr : Room k callerA)
    (F : ∀ base : Heap, K.In base → base.Ns mainGlobals mg → BMain mg base → FnOk P w K mg base CX k fa fd [x] sp) (hbind : ∀ (s : Shared) (u : Value), BindsTo s fd ⟨[u], []⟩ [(x, u)])
    (hsp : ∀ H : Hp, OnlyT Pt H → SqL K H a (ns.map V.int) → sp [.ref a] H (fun v _ => v = .bl true) fun _ _ _ => False)
    (hCX : ∀ H e s', CX [] H s₁ (fun _ _ _ => False) e s' → False) :
    codeAny (model P w) callerA (.call (.ref fa) ⟨[.ref a], []⟩) (fun r s' => r = .ok (.ret (.bool true)) ∧ OldK s₁.heap s'.heap ∧ s'.os = s₁.os ∧ AllBare s'.gens) s₁ := by
  have rv := vals_ints hi
  have lenV := hi.length
  have naP : a ≠ Pt := by rintro rfl; rw [ha] at hP; cases hP
  have core : ∀ H : Hp, OnlyT Pt H → SqL K H a (ns.map V.int) → HOk P w H s₁.heap → (∀ b, H b ≠ none → b = a ∨ b = Pt) → (H a ≠ none → K.lookup a = none) →
      codeAny (model P w) callerA (.call (.ref fa) ⟨[.ref a], []⟩) (fun r s' => r = .ok (.ret (.bool true)) ∧ OldK s₁.heap s'.heap ∧ s'.os = s₁.os ∧ AllBare s'.gens) s₁ := by
    intro H hO hS hok hA hK
    have base_of : ∀ {b : Addr} {o : Obj}, s₁.heap.get? b = some o → H b = none → (hidT s₁.heap H).get? b = some o := fun e n => hidT_get e n
    have noB : ∀ {b : Addr} {o : Obj}, s₁.heap.get? b = some o → (∀ its n, o.data ≠ .seq its n) → (∀ vs, o.data ≠ .fields vs) → H b = none := fun {b o} e d1 d2 => by
      cases q : H b with
      | none => rfl
      | some u =>
        rcases hA b (by rw [q]; simp) with e' | e'
        · subst e'; rw [ha] at e; cases e; exact absurd rfl (d1 _ _)
        · subst e'; rw [hP] at e; cases e; exact absurd rfl (d2 _)
    have noA : ∀ {b : Addr} {o : Obj} {es : Array DictEntry} {ep : Nat}, s₁.heap.get? b = some o → o.data = .dict es ep → H b = none := fun {b o es ep} e d =>
      noB e (fun _ _ z => by rw [d] at z; cases z) fun _ z => by rw [d] at z; cases z
    have nsK : ∀ {b : Addr} {m : Str → Option Value}, s₁.heap.Ns b m → (hidT s₁.heap H).Ns b m := fun {b m} ⟨o, es, ep, e, d, r⟩ => ⟨o, es, ep, base_of e (noA e d), d, r⟩
    have hKb : K.In (hidT s₁.heap H) := fun b o e => base_of (KX b o e) (by
      cases q : H b with
      | none => rfl
      | some u =>
        rcases hA b (by rw [q]; simp) with e' | e'
        · subst e'
          rw [hK (by rw [q]; simp)] at e; cases e
        · subst e'
          rw [hKP] at e; cases e)
    have hBb : BMain mg (hidT s₁.heap H) := by
      obtain ⟨bm, ob, a1, a2, a3, a4, a5, a6⟩ := hB
      exact ⟨bm, ob, a1, a2, base_of a3 (noB a3 (fun _ _ z => by rw [a6] at z; cases z) fun _ z => by rw [a6] at z; cases z), a4, a5, a6⟩
    have hM : Mod K mg (hidT s₁.heap H) := ⟨hKb, nsK hns, ⟨mb, nsK hb, hbb⟩, let ⟨mc, h1, h2⟩ := hlim; ⟨mc, nsK h1, h2⟩⟩
    have e0 : Env0 P w K mg (hidT s₁.heap H) callerA [] s₁ H := ⟨rfl, hM, fun b o e => of_hidT e, Nat.le_of_eq (hidT_size _ _), trivial, fun b hb => absurd (show b ∈ ([] : List Addr) from hb) (by simp), hok, .of_eq hg⟩
    refine codeAny_mono ((F _ hKb (nsK hns) hBb).run callerA [] s₁ H ⟨[.ref a], []⟩ [.ref a] [.ref a] _ _ hr e0 (hbind s₁ (.ref a)) (.cons rfl .nil) (hsp H hO hS)) fun r s' h => ?_
    cases r with
    | error e => exact (hCX H e s' h).elim
    | ok fl =>
      cases fl with
      | next => exact False.elim h
      | brk => exact False.elim h
      | cont => exact False.elim h
      | ret u =>
        obtain ⟨v, H', os, bare, un, hok', r', q⟩ := h
        have q' : v = .bl true := q
        subst q'
        obtain rfl : u = Value.bool true := r'
        obtain ⟨more, hmore⟩ := un.tbls Pt _ hO.1
        have hP' : s'.heap.get? Pt = some (tabObj (#[] ++ more)) := hok' Pt _ hmore
        have keep : ∀ b o, b ≠ Pt → s₁.heap.get? b = some o → s'.heap.get? b = some o := fun b o hb e => by
          cases q : H b with
          | none => exact un.keep b o e q (by intro z; exact absurd (show b ∈ ([] : List Addr) from z) (by simp)) (by simp)
          | some u =>
            rcases hO.2 b hb with z | ⟨ob, xs, z⟩
            · rw [q] at z; cases z
            · have z2 := un.frzs b ob _ z
              obtain ⟨e1, _⟩ := hok b _ z
              obtain ⟨e2, _⟩ := hok' b _ z2
              rw [e] at e1; cases e1
              exact e2
        refine ⟨rfl, ⟨fun b o e => ?_, fun b o e => ?_⟩, os, bare⟩
        · by_cases hb : b = Pt
          · subst hb
            rw [hP] at e; cases e
            exact .inr (.inl ⟨(hC.tab hP).isCodeTable, rfl, #[], #[] ++ more, rfl, by rw [Array.empty_append]; exact hP'⟩)
          · exact .inl (keep b o hb e)
        · by_cases hb : b = Pt
          · subst hb; exact ⟨_, hP'⟩
          · exact ⟨o, keep b o hb e⟩
  cases hk : K.lookup a with
  | some o =>
    have e := KX a o hk
    rw [ha] at e
    cases e
    refine core (fun b => if b = Pt then some (.tbl #[]) else none) ⟨if_pos rfl, fun b hb => .inl (if_neg hb)⟩ (.inr ⟨_, vs.toArray, _, hk, rfl, rfl, rfl, by rw [List.size_toArray, lenV]; exact hl, by simpa using rv⟩) (fun b u z => ?_) (fun b z => ?_) fun z => absurd (if_neg naP) z
    · by_cases hb : b = Pt
      · have z' := (if_pos hb).symm.trans z
        cases z'
        subst hb
        exact hP
      · have z' := (if_neg hb).symm.trans z
        cases z'
    · by_cases hb : b = Pt
      · exact .inr hb
      · exact absurd (if_neg hb) z
  | none =>
    refine core (fun b => if b = Pt then some (.tbl #[]) else if b = a then some (.frz { cls := .type "list", data := .seq vs.toArray } (.lst (ns.map V.int))) else none) ⟨if_pos rfl, fun b hn => ?_⟩ (.inl (.inr ⟨{ cls := .type "list", data := .seq vs.toArray }, (if_neg naP).trans (if_pos rfl)⟩)) (fun b u z => ?_) (fun b z => ?_) fun _ => hk
    · by_cases hb : b = a
      · exact .inr ⟨_, _, (if_neg hn).trans (if_pos hb)⟩
      · exact .inl ((if_neg hn).trans (if_neg hb))
    · by_cases hn : b = Pt
      · have z' := (if_pos hn).symm.trans z
        cases z'
        subst hn
        exact hP
      · by_cases hb : b = a
        · have z' := ((if_neg hn).trans (if_pos hb)).symm.trans z
          cases z'
          subst hb
          exact ⟨ha, by rw [List.length_map]; exact hl, vs, _, rv, ha⟩
        · have z' := ((if_neg hn).trans (if_neg hb)).symm.trans z
          cases z'
    · by_cases hn : b = Pt
      · exact .inr hn
      · by_cases hb : b = a
        · exact .inl hb
        · exact absurd ((if_neg hn).trans (if_neg hb)) z

/-- walk_ofB, with a table -/
theorem walk_ofT {l : PySem.W.OpenLaw} {n k : Nat} {q : Program} {loose : List Str} {XP : (Str → Option Value) → Heap → Prop} {YP : World → Heap → Prop} {d : DefRec} {K : Params → PySem.W.Frag} {CX : World → CXT} {sp : Addr → World → Sp} {x : Str}
    (hn : l.most = some n) (hn2 : n ≤ sizeLine) (hdf : d.params.defaults = []) (hr : Room k callerA)
    (hY : ∀ (w : World) (h : Heap), YP w h → (K w.params).In h)
    (F : ∀ (w : World) (mg : Str → Option Value) (fa : Addr) (h : Heap), YP w h → (K w.params).In h → h.Ns mainGlobals mg → mg d.name = some (.ref fa) →
      ∃ (c Pt : Addr) (fd : FuncData), PySem.W.codeHdIn (K w.params) c Pt = true ∧ h.get? Pt = some (tabObj #[]) ∧ (K w.params).lookup Pt = none ∧ (∀ (s : Shared) (u : Value), BindsTo s fd ⟨[u], []⟩ [(x, u)]) ∧
        (∀ base : Heap, (K w.params).In base → base.Ns mainGlobals mg → BMain mg base → FnOk l.prog w (K w.params) mg base (CX w) k fa fd [x] (sp Pt w)))
    (hsp : ∀ (Pt : Addr) (w : World) (H : Hp) (a : Addr) (ns : List Int), ns.length ≤ n → (∀ n ∈ ns, Builtin.Int.intBits n ≤ 1048576) → OnlyT Pt H → SqL (K w.params) H a (ns.map V.int) → sp Pt w [.ref a] H (fun v _ => v = .bl true) fun _ _ _ => False)
    (hCX : ∀ (w : World) (H : Hp) (s : Shared) (e : Value) (s' : Shared), CX w [] H s (fun _ _ _ => False) e s' → False) :
    PySem.W.WalkO q loose XP YP l.row.toRowW d [] (fun f vs => PySem.call f vs) := by
  refine Att.attach_callB hn hdf fun w s₀ s₁ mg mb fa o pm cd doc a vs ns G Y ho hd hcd hmg hobj hints hlen hbits hg => ?_
  have KX := hY w _ Y
  obtain ⟨c, Pt, fd, h1, h2, h3, hb, hF⟩ := F w mg fa _ Y KX G.T.g hmg
  exact law_callT KX G.T.g G.T.b G.T.builtins G.T.nolimit hg G.T.bmain (PySem.W.codeHd_of_K KX h1) h2 h3 hobj hints (Nat.le_trans hlen hn2) hr hF hb (fun H hO hS => hsp Pt w H a ns hlen hbits hO hS) fun H e s' => hCX w H s₁ e s'
end L2
/-! any; not of what may be None -/
namespace L2
open PySem PySem.Spec PyProof.Rows PySem.Calls
section
variable {X : Cx}
theorem call_any (hc : X.calm = true) : CallR X (.builtin "any") (fun xs H Q => ∃ (p : Addr) (bs : List Bool), xs = [.ref p] ∧ SqL X.K H p (bs.map V.bl) ∧ Q (.bl (bs.any id)) H) := by
  intro pins s σ H xs us Q I r h
  obtain ⟨p, bs, rfl, hq, q⟩ := h
  obtain ⟨u, rfl, ru⟩ := vals1 r
  cases ru
  obtain ⟨its, rv, pl, hz⟩ := I.list hq
  have hlt : p < s.heap.objs.size := by obtain ⟨o, n, e, _⟩ := pl; exact Heap.lt_size e
  refine call_any_walk (wpAny_pyIter_list pl.isList ?_)
  refine ⟨_, _, _, _, _, _, fun i => bs.getD i false, rfl, Walks.list (show X.A.in1.handled = none from I.ok.hd hc) s.heap.objs.size p (Nat.ne_of_lt hlt) its.toArray, ⟨⟨_, Heap.get?_push_size _ rfl, rfl, rfl⟩, pl.isList.push _⟩, fun i v s1 Q1 E1 hP hQ => ?_, fun h' tk k => ?_⟩
  · have hP' : its[i]? = some v := by simpa using hP
    obtain ⟨hi, _⟩ := List.getElem?_eq_some_iff.mp hP'
    have hl := rv.length
    rw [List.length_map] at hl
    have hb : (bs.map V.bl)[i]? = some (V.bl (bs.getD i false)) := by
      rw [List.getElem?_map, List.getElem?_eq_getElem (by omega)]
      simp [List.getD, List.getElem?_eq_getElem (show i < bs.length by omega)]
    obtain ⟨u, hu, ru⟩ := rv.get hb
    rw [hP'] at hu
    cases hu
    cases (show v = Value.bool _ from ru)
    exact wpAny_truthy_bool hQ
  · have e : (List.range its.toArray.size).any (fun i => bs.getD i false) = bs.any id := by
      have hl := rv.length
      rw [List.length_map] at hl
      rw [List.size_toArray, ← hl]
      have z : bs = (List.range bs.length).map fun i => bs.getD i false := by
        apply List.ext_getElem?
        intro i
        rw [List.getElem?_map]
        by_cases hi : i < bs.length
        · simp [List.getElem?_eq_getElem, hi, List.getD]
        · rw [List.getElem?_eq_none (Nat.not_lt.mp hi), List.getElem?_eq_none (by rw [List.length_range]; exact Nat.not_lt.mp hi)]; rfl
      conv => rhs; rw [z]
      rw [List.any_map]; rfl
    rw [e]
    refine ⟨.bl (bs.any id), H, ?_, rfl, q⟩
    have I0 : Inv X pins σ H { s with heap := s.heap.push { cls := .type "list_iterator", data := .fields #[.ref p, .int 0 0] } } := I.kept (t' := s.toks) fun b o e => Heap.get?_push_of_some _ e
    have fo := I.fpOk (H' := H) (b := s.heap.objs.size) (Nat.le_refl _) I.fresh
    obtain ⟨f0, f1, f2, f3, f4, f5⟩ := fo
    exact I0.turned (t' := tk) (it := s.heap.objs.size) (fun b o hb e => k b o (by simpa using hb) e) f0 f1 f3 f4 f5

def tNotN2 (ta : TE) : TE := fun σ H Q => ta σ H fun x H1 => (∃ c, x = .bl c ∧ Q (.bl (!c)) H1) ∨ (x = .non ∧ Q (.bl true) H1)
theorem pe_notN {a : Expr} {ta : TE} {pos : Pos} (ha : PE X a ta) : PE X (.UnaryOp .Not a pos) (tNotN2 ta) := by
  intro pins s σ H Q I h
  refine UnaryOp_ (thn (ha pins s σ H _ I h) fun v s1 ⟨x, H1, I1, r1, q1⟩ => ?_)
  rcases q1 with ⟨c, rfl, q1⟩ | ⟨rfl, q1⟩
  · cases r1
    exact not_of (wpAny_truthy_bool ⟨.bl (!c), H1, I1, rfl, q1⟩)
  · cases r1
    exact not_of (truthy_none ⟨.bl true, H1, I1, rfl, q1⟩)
end
end L2
namespace K18
open PySem L2
def top (i : Nat) : Stmt := PySem.Challenge.pw_askpaper_k18_sure.main.body.getD i (.Pass ⟨0, 0, 0, 0⟩)
abbrev s_compares : Stmt := top 26
abbrev s_surely_compares : Stmt := top 27
abbrev s_c_Saying_first_open : Stmt := inClass (top 28) 5
abbrev s_c_Is___init : Stmt := inClass (top 29) 0
abbrev s_c_Is_atoms : Stmt := inClass (top 29) 2
abbrev s_c_Is_holds : Stmt := inClass (top 29) 4
abbrev s_c_Is_sure : Stmt := inClass (top 29) 5
abbrev s_c_Compare___init : Stmt := inClass (top 30) 0
abbrev s_c_Compare_atoms : Stmt := inClass (top 30) 2
abbrev s_c_Compare_holds : Stmt := inClass (top 30) 4
abbrev s_c_Compare_sure : Stmt := inClass (top 30) 5
abbrev s_c_Not___init : Stmt := inClass (top 31) 0
abbrev s_c_Not_atoms : Stmt := inClass (top 31) 2
abbrev s_c_Not_holds : Stmt := inClass (top 31) 4
abbrev s_c_Not_sure : Stmt := inClass (top 31) 5
abbrev s_c_Pair___init : Stmt := inClass (top 32) 0
abbrev s_c_Pair_atoms : Stmt := inClass (top 32) 2
abbrev s_c_Pair_both_sure : Stmt := inClass (top 32) 3
abbrev s_c_Both_holds : Stmt := inClass (top 33) 2
abbrev s_c_Both_sure : Stmt := inClass (top 33) 3
abbrev s_c_Either_holds : Stmt := inClass (top 34) 2
abbrev s_c_Either_sure : Stmt := inClass (top 34) 3
abbrev s_law_cell_at : Stmt := top 36
abbrev s_law_whole : Stmt := top 37
abbrev s_law_names : Stmt := top 38
abbrev s_law_number : Stmt := top 39
abbrev s_law_table : Stmt := top 40
abbrev s_law_atom : Stmt := top 41
abbrev s_law_joined : Stmt := top 42
abbrev s_law_tree : Stmt := top 43
abbrev s_law_made : Stmt := top 44
abbrev s_law_atoms : Stmt := top 45
abbrev s_law_look : Stmt := top 46
abbrev s_law_atom_sure : Stmt := top 47
abbrev s_law_sure : Stmt := top 48
abbrev s_law_three : Stmt := top 49
abbrev s_law_word : Stmt := top 50
abbrev s_law_same : Stmt := top 51
abbrev s_law_right : Stmt := top 52
abbrev s_law : Stmt := top 53
structure Adr where
  f_compares : Addr
  d_compares : FuncData
  f_surely_compares : Addr
  d_surely_compares : FuncData
  f_c_Saying_first_open : Addr
  d_c_Saying_first_open : FuncData
  f_c_Is___init : Addr
  d_c_Is___init : FuncData
  ds_c_Is___init : List Value
  f_c_Is_atoms : Addr
  d_c_Is_atoms : FuncData
  f_c_Is_holds : Addr
  d_c_Is_holds : FuncData
  f_c_Is_sure : Addr
  d_c_Is_sure : FuncData
  f_c_Compare___init : Addr
  d_c_Compare___init : FuncData
  f_c_Compare_atoms : Addr
  d_c_Compare_atoms : FuncData
  f_c_Compare_holds : Addr
  d_c_Compare_holds : FuncData
  f_c_Compare_sure : Addr
  d_c_Compare_sure : FuncData
  f_c_Not___init : Addr
  d_c_Not___init : FuncData
  f_c_Not_atoms : Addr
  d_c_Not_atoms : FuncData
  f_c_Not_holds : Addr
  d_c_Not_holds : FuncData
  f_c_Not_sure : Addr
  d_c_Not_sure : FuncData
  f_c_Pair___init : Addr
  d_c_Pair___init : FuncData
  f_c_Pair_atoms : Addr
  d_c_Pair_atoms : FuncData
  f_c_Pair_both_sure : Addr
  d_c_Pair_both_sure : FuncData
  f_c_Both_holds : Addr
  d_c_Both_holds : FuncData
  f_c_Both_sure : Addr
  d_c_Both_sure : FuncData
  f_c_Either_holds : Addr
  d_c_Either_holds : FuncData
  f_c_Either_sure : Addr
  d_c_Either_sure : FuncData
  f_law_cell_at : Addr
  d_law_cell_at : FuncData
  f_law_whole : Addr
  d_law_whole : FuncData
  f_law_names : Addr
  d_law_names : FuncData
  f_law_number : Addr
  d_law_number : FuncData
  f_law_table : Addr
  d_law_table : FuncData
  f_law_atom : Addr
  d_law_atom : FuncData
  f_law_joined : Addr
  d_law_joined : FuncData
  f_law_tree : Addr
  d_law_tree : FuncData
  f_law_made : Addr
  d_law_made : FuncData
  f_law_atoms : Addr
  d_law_atoms : FuncData
  f_law_look : Addr
  d_law_look : FuncData
  f_law_atom_sure : Addr
  d_law_atom_sure : FuncData
  f_law_sure : Addr
  d_law_sure : FuncData
  f_law_three : Addr
  d_law_three : FuncData
  f_law_word : Addr
  d_law_word : FuncData
  f_law_same : Addr
  d_law_same : FuncData
  f_law_right : Addr
  d_law_right : FuncData
  f_law : Addr
  d_law : FuncData
  c_Both : Addr
  c_Compare : Addr
  c_Either : Addr
  c_Is : Addr
  c_Not : Addr
  c_Pair : Addr
  c_Saying : Addr
structure Txt (K : PySem.W.Frag) (mg : Str → Option Value) (A : Adr) : Prop where
  F_compares : Fun K "compares" "compares" s_compares A.f_compares A.d_compares
  b_compares : Binds K A.d_compares ["rank", "how", "number"] []
  k_compares : PySem.W.keepIn K (.ref A.f_compares) = true
  m_compares : mg "compares" = some (.ref A.f_compares)
  F_surely_compares : Fun K "surely_compares" "surely_compares" s_surely_compares A.f_surely_compares A.d_surely_compares
  b_surely_compares : Binds K A.d_surely_compares ["span", "how", "number"] []
  k_surely_compares : PySem.W.keepIn K (.ref A.f_surely_compares) = true
  m_surely_compares : mg "surely_compares" = some (.ref A.f_surely_compares)
  F_c_Saying_first_open : Fun K "first_open" "Saying.first_open" s_c_Saying_first_open A.f_c_Saying_first_open A.d_c_Saying_first_open
  b_c_Saying_first_open : Binds K A.d_c_Saying_first_open ["self", "look"] []
  k_c_Saying_first_open : PySem.W.keepIn K (.ref A.f_c_Saying_first_open) = true
  F_c_Is___init : FunD K "__init__" "Is.__init__" s_c_Is___init A.ds_c_Is___init A.f_c_Is___init A.d_c_Is___init
  b_c_Is___init : Binds K A.d_c_Is___init ["self", "name", "word", "place"] []
  bd_c_Is___init : Binds K A.d_c_Is___init ["self", "name", "word", "place"] A.ds_c_Is___init
  dv_c_Is___init : Vals [.non] A.ds_c_Is___init
  k_c_Is___init : PySem.W.keepIn K (.ref A.f_c_Is___init) = true
  F_c_Is_atoms : Fun K "atoms" "Is.atoms" s_c_Is_atoms A.f_c_Is_atoms A.d_c_Is_atoms
  b_c_Is_atoms : Binds K A.d_c_Is_atoms ["self"] []
  k_c_Is_atoms : PySem.W.keepIn K (.ref A.f_c_Is_atoms) = true
  F_c_Is_holds : Fun K "holds" "Is.holds" s_c_Is_holds A.f_c_Is_holds A.d_c_Is_holds
  b_c_Is_holds : Binds K A.d_c_Is_holds ["self", "look"] []
  k_c_Is_holds : PySem.W.keepIn K (.ref A.f_c_Is_holds) = true
  F_c_Is_sure : Fun K "sure" "Is.sure" s_c_Is_sure A.f_c_Is_sure A.d_c_Is_sure
  b_c_Is_sure : Binds K A.d_c_Is_sure ["self", "look"] []
  k_c_Is_sure : PySem.W.keepIn K (.ref A.f_c_Is_sure) = true
  F_c_Compare___init : Fun K "__init__" "Compare.__init__" s_c_Compare___init A.f_c_Compare___init A.d_c_Compare___init
  b_c_Compare___init : Binds K A.d_c_Compare___init ["self", "name", "how", "number"] []
  k_c_Compare___init : PySem.W.keepIn K (.ref A.f_c_Compare___init) = true
  F_c_Compare_atoms : Fun K "atoms" "Compare.atoms" s_c_Compare_atoms A.f_c_Compare_atoms A.d_c_Compare_atoms
  b_c_Compare_atoms : Binds K A.d_c_Compare_atoms ["self"] []
  k_c_Compare_atoms : PySem.W.keepIn K (.ref A.f_c_Compare_atoms) = true
  F_c_Compare_holds : Fun K "holds" "Compare.holds" s_c_Compare_holds A.f_c_Compare_holds A.d_c_Compare_holds
  b_c_Compare_holds : Binds K A.d_c_Compare_holds ["self", "look"] []
  k_c_Compare_holds : PySem.W.keepIn K (.ref A.f_c_Compare_holds) = true
  F_c_Compare_sure : Fun K "sure" "Compare.sure" s_c_Compare_sure A.f_c_Compare_sure A.d_c_Compare_sure
  b_c_Compare_sure : Binds K A.d_c_Compare_sure ["self", "look"] []
  k_c_Compare_sure : PySem.W.keepIn K (.ref A.f_c_Compare_sure) = true
  F_c_Not___init : Fun K "__init__" "Not.__init__" s_c_Not___init A.f_c_Not___init A.d_c_Not___init
  b_c_Not___init : Binds K A.d_c_Not___init ["self", "test"] []
  k_c_Not___init : PySem.W.keepIn K (.ref A.f_c_Not___init) = true
  F_c_Not_atoms : Fun K "atoms" "Not.atoms" s_c_Not_atoms A.f_c_Not_atoms A.d_c_Not_atoms
  b_c_Not_atoms : Binds K A.d_c_Not_atoms ["self"] []
  k_c_Not_atoms : PySem.W.keepIn K (.ref A.f_c_Not_atoms) = true
  F_c_Not_holds : Fun K "holds" "Not.holds" s_c_Not_holds A.f_c_Not_holds A.d_c_Not_holds
  b_c_Not_holds : Binds K A.d_c_Not_holds ["self", "look"] []
  k_c_Not_holds : PySem.W.keepIn K (.ref A.f_c_Not_holds) = true
  F_c_Not_sure : Fun K "sure" "Not.sure" s_c_Not_sure A.f_c_Not_sure A.d_c_Not_sure
  b_c_Not_sure : Binds K A.d_c_Not_sure ["self", "look"] []
  k_c_Not_sure : PySem.W.keepIn K (.ref A.f_c_Not_sure) = true
  F_c_Pair___init : Fun K "__init__" "Pair.__init__" s_c_Pair___init A.f_c_Pair___init A.d_c_Pair___init
  b_c_Pair___init : Binds K A.d_c_Pair___init ["self", "one", "other"] []
  k_c_Pair___init : PySem.W.keepIn K (.ref A.f_c_Pair___init) = true
  F_c_Pair_atoms : Fun K "atoms" "Pair.atoms" s_c_Pair_atoms A.f_c_Pair_atoms A.d_c_Pair_atoms
  b_c_Pair_atoms : Binds K A.d_c_Pair_atoms ["self"] []
  k_c_Pair_atoms : PySem.W.keepIn K (.ref A.f_c_Pair_atoms) = true
  F_c_Pair_both_sure : Fun K "both_sure" "Pair.both_sure" s_c_Pair_both_sure A.f_c_Pair_both_sure A.d_c_Pair_both_sure
  b_c_Pair_both_sure : Binds K A.d_c_Pair_both_sure ["self", "look"] []
  k_c_Pair_both_sure : PySem.W.keepIn K (.ref A.f_c_Pair_both_sure) = true
  F_c_Both_holds : Fun K "holds" "Both.holds" s_c_Both_holds A.f_c_Both_holds A.d_c_Both_holds
  b_c_Both_holds : Binds K A.d_c_Both_holds ["self", "look"] []
  k_c_Both_holds : PySem.W.keepIn K (.ref A.f_c_Both_holds) = true
  F_c_Both_sure : Fun K "sure" "Both.sure" s_c_Both_sure A.f_c_Both_sure A.d_c_Both_sure
  b_c_Both_sure : Binds K A.d_c_Both_sure ["self", "look"] []
  k_c_Both_sure : PySem.W.keepIn K (.ref A.f_c_Both_sure) = true
  F_c_Either_holds : Fun K "holds" "Either.holds" s_c_Either_holds A.f_c_Either_holds A.d_c_Either_holds
  b_c_Either_holds : Binds K A.d_c_Either_holds ["self", "look"] []
  k_c_Either_holds : PySem.W.keepIn K (.ref A.f_c_Either_holds) = true
  F_c_Either_sure : Fun K "sure" "Either.sure" s_c_Either_sure A.f_c_Either_sure A.d_c_Either_sure
  b_c_Either_sure : Binds K A.d_c_Either_sure ["self", "look"] []
  k_c_Either_sure : PySem.W.keepIn K (.ref A.f_c_Either_sure) = true
  F_law_cell_at : Fun K "_law_cell_at" "_law_cell_at" s_law_cell_at A.f_law_cell_at A.d_law_cell_at
  b_law_cell_at : Binds K A.d_law_cell_at ["_law_script", "_law_k"] []
  k_law_cell_at : PySem.W.keepIn K (.ref A.f_law_cell_at) = true
  m_law_cell_at : mg "_law_cell_at" = some (.ref A.f_law_cell_at)
  F_law_whole : Fun K "_law_whole" "_law_whole" s_law_whole A.f_law_whole A.d_law_whole
  b_law_whole : Binds K A.d_law_whole ["_law_found"] []
  k_law_whole : PySem.W.keepIn K (.ref A.f_law_whole) = true
  m_law_whole : mg "_law_whole" = some (.ref A.f_law_whole)
  F_law_names : Fun K "_law_names" "_law_names" s_law_names A.f_law_names A.d_law_names
  b_law_names : Binds K A.d_law_names ["_law_script"] []
  k_law_names : PySem.W.keepIn K (.ref A.f_law_names) = true
  m_law_names : mg "_law_names" = some (.ref A.f_law_names)
  F_law_number : Fun K "_law_number" "_law_number" s_law_number A.f_law_number A.d_law_number
  b_law_number : Binds K A.d_law_number ["_law_cell"] []
  k_law_number : PySem.W.keepIn K (.ref A.f_law_number) = true
  m_law_number : mg "_law_number" = some (.ref A.f_law_number)
  F_law_table : Fun K "_law_table" "_law_table" s_law_table A.f_law_table A.d_law_table
  b_law_table : Binds K A.d_law_table ["_law_script"] []
  k_law_table : PySem.W.keepIn K (.ref A.f_law_table) = true
  m_law_table : mg "_law_table" = some (.ref A.f_law_table)
  F_law_atom : Fun K "_law_atom" "_law_atom" s_law_atom A.f_law_atom A.d_law_atom
  b_law_atom : Binds K A.d_law_atom ["_law_cell", "_law_rows"] []
  k_law_atom : PySem.W.keepIn K (.ref A.f_law_atom) = true
  m_law_atom : mg "_law_atom" = some (.ref A.f_law_atom)
  F_law_joined : Fun K "_law_joined" "_law_joined" s_law_joined A.f_law_joined A.d_law_joined
  b_law_joined : Binds K A.d_law_joined ["_law_stack", "_law_how"] []
  k_law_joined : PySem.W.keepIn K (.ref A.f_law_joined) = true
  m_law_joined : mg "_law_joined" = some (.ref A.f_law_joined)
  F_law_tree : Fun K "_law_tree" "_law_tree" s_law_tree A.f_law_tree A.d_law_tree
  b_law_tree : Binds K A.d_law_tree ["_law_cells", "_law_names_here"] []
  k_law_tree : PySem.W.keepIn K (.ref A.f_law_tree) = true
  m_law_tree : mg "_law_tree" = some (.ref A.f_law_tree)
  F_law_made : Fun K "_law_made" "_law_made" s_law_made A.f_law_made A.d_law_made
  b_law_made : Binds K A.d_law_made ["_law_tree_here"] []
  k_law_made : PySem.W.keepIn K (.ref A.f_law_made) = true
  m_law_made : mg "_law_made" = some (.ref A.f_law_made)
  F_law_atoms : Fun K "_law_atoms" "_law_atoms" s_law_atoms A.f_law_atoms A.d_law_atoms
  b_law_atoms : Binds K A.d_law_atoms ["_law_tree_here"] []
  k_law_atoms : PySem.W.keepIn K (.ref A.f_law_atoms) = true
  m_law_atoms : mg "_law_atoms" = some (.ref A.f_law_atoms)
  F_law_look : Fun K "_law_look" "_law_look" s_law_look A.f_law_look A.d_law_look
  b_law_look : Binds K A.d_law_look ["_law_told"] []
  k_law_look : PySem.W.keepIn K (.ref A.f_law_look) = true
  m_law_look : mg "_law_look" = some (.ref A.f_law_look)
  F_law_atom_sure : Fun K "_law_atom_sure" "_law_atom_sure" s_law_atom_sure A.f_law_atom_sure A.d_law_atom_sure
  b_law_atom_sure : Binds K A.d_law_atom_sure ["_law_atom_here", "_law_span"] []
  k_law_atom_sure : PySem.W.keepIn K (.ref A.f_law_atom_sure) = true
  m_law_atom_sure : mg "_law_atom_sure" = some (.ref A.f_law_atom_sure)
  F_law_sure : Fun K "_law_sure" "_law_sure" s_law_sure A.f_law_sure A.d_law_sure
  b_law_sure : Binds K A.d_law_sure ["_law_tree_here", "_law_spans"] []
  k_law_sure : PySem.W.keepIn K (.ref A.f_law_sure) = true
  m_law_sure : mg "_law_sure" = some (.ref A.f_law_sure)
  F_law_three : Fun K "_law_three" "_law_three" s_law_three A.f_law_three A.d_law_three
  b_law_three : Binds K A.d_law_three ["_law_found", "_law_due"] []
  k_law_three : PySem.W.keepIn K (.ref A.f_law_three) = true
  m_law_three : mg "_law_three" = some (.ref A.f_law_three)
  F_law_word : Fun K "_law_word" "_law_word" s_law_word A.f_law_word A.d_law_word
  b_law_word : Binds K A.d_law_word ["_law_found", "_law_due"] []
  k_law_word : PySem.W.keepIn K (.ref A.f_law_word) = true
  m_law_word : mg "_law_word" = some (.ref A.f_law_word)
  F_law_same : Fun K "_law_same" "_law_same" s_law_same A.f_law_same A.d_law_same
  b_law_same : Binds K A.d_law_same ["_law_found", "_law_atom_here"] []
  k_law_same : PySem.W.keepIn K (.ref A.f_law_same) = true
  m_law_same : mg "_law_same" = some (.ref A.f_law_same)
  F_law_right : Fun K "_law_right" "_law_right" s_law_right A.f_law_right A.d_law_right
  b_law_right : Binds K A.d_law_right ["_law_saying", "_law_tree_here", "_law_spans"] []
  k_law_right : PySem.W.keepIn K (.ref A.f_law_right) = true
  m_law_right : mg "_law_right" = some (.ref A.f_law_right)
  F_law : Fun K "law" "law" s_law A.f_law A.d_law
  b_law : Binds K A.d_law ["_law_script"] []
  k_law : PySem.W.keepIn K (.ref A.f_law) = true
  m_law : mg "law" = some (.ref A.f_law)
  n_all : mg "all" = none
  n_any : mg "any" = none
  n_bool : mg "bool" = none
  n_int : mg "int" = none
  n_isinstance : mg "isinstance" = none
  n_len : mg "len" = none
  n_max : mg "max" = none
  n_range : mg "range" = none
  n_str : mg "str" = none
  i_NoneType_int : PySem.W.kitOne K (.type "NoneType") (.type "int") = some false
  i_bool_int : PySem.W.kitOne K (.type "bool") (.type "int") = some true
  i_int_int : PySem.W.kitOne K (.type "int") (.type "int") = some true
  i_str_int : PySem.W.kitOne K (.type "str") (.type "int") = some false
  i_list_int : PySem.W.kitOne K (.type "list") (.type "int") = some false
  i_tuple_int : PySem.W.kitOne K (.type "tuple") (.type "int") = some false
  i_dict_int : PySem.W.kitOne K (.type "dict") (.type "int") = some false
  i_NoneType_bool : PySem.W.kitOne K (.type "NoneType") (.type "bool") = some false
  i_bool_bool : PySem.W.kitOne K (.type "bool") (.type "bool") = some true
  i_int_bool : PySem.W.kitOne K (.type "int") (.type "bool") = some false
  i_str_bool : PySem.W.kitOne K (.type "str") (.type "bool") = some false
  i_list_bool : PySem.W.kitOne K (.type "list") (.type "bool") = some false
  i_tuple_bool : PySem.W.kitOne K (.type "tuple") (.type "bool") = some false
  i_dict_bool : PySem.W.kitOne K (.type "dict") (.type "bool") = some false
  i_NoneType_str : PySem.W.kitOne K (.type "NoneType") (.type "str") = some false
  i_bool_str : PySem.W.kitOne K (.type "bool") (.type "str") = some false
  i_int_str : PySem.W.kitOne K (.type "int") (.type "str") = some false
  i_str_str : PySem.W.kitOne K (.type "str") (.type "str") = some true
  i_list_str : PySem.W.kitOne K (.type "list") (.type "str") = some false
  i_tuple_str : PySem.W.kitOne K (.type "tuple") (.type "str") = some false
  i_dict_str : PySem.W.kitOne K (.type "dict") (.type "str") = some false
  m_Both : mg "Both" = some (.ref A.c_Both)
  v_Both : GlobV mg "Both" (.ref A.c_Both)
  m_Compare : mg "Compare" = some (.ref A.c_Compare)
  v_Compare : GlobV mg "Compare" (.ref A.c_Compare)
  m_Either : mg "Either" = some (.ref A.c_Either)
  v_Either : GlobV mg "Either" (.ref A.c_Either)
  m_Is : mg "Is" = some (.ref A.c_Is)
  v_Is : GlobV mg "Is" (.ref A.c_Is)
  m_Not : mg "Not" = some (.ref A.c_Not)
  v_Not : GlobV mg "Not" (.ref A.c_Not)
  m_Pair : mg "Pair" = some (.ref A.c_Pair)
  v_Pair : GlobV mg "Pair" (.ref A.c_Pair)
  m_Saying : mg "Saying" = some (.ref A.c_Saying)
  v_Saying : GlobV mg "Saying" (.ref A.c_Saying)
  kr_Is_Is : PySem.W.kitOne K (.ref A.c_Is) (.ref A.c_Is) = some true
  kr_Compare_Compare : PySem.W.kitOne K (.ref A.c_Compare) (.ref A.c_Compare) = some true
  cl_Is : Cls K A.c_Is
  ty_Is : ∀ (H : Hp) (a dx : Addr) (fs : List (Str × V)), H a = some (.ins A.c_Is dx fs) → TyOf K H (.ref a) (.ref A.c_Is)
  mk_Is : Mk K A.c_Is A.f_c_Is___init
  me_Is_holds : Meth K A.c_Is "holds" A.f_c_Is_holds
  me_Is_sure : Meth K A.c_Is "sure" A.f_c_Is_sure
  me_Is_atoms : Meth K A.c_Is "atoms" A.f_c_Is_atoms
  me_Is_first_open : Meth K A.c_Is "first_open" A.f_c_Saying_first_open
  no_Is_name : NoAttr K A.c_Is "name"
  no_Is_word : NoAttr K A.c_Is "word"
  no_Is_place : NoAttr K A.c_Is "place"
  cl_Compare : Cls K A.c_Compare
  ty_Compare : ∀ (H : Hp) (a dx : Addr) (fs : List (Str × V)), H a = some (.ins A.c_Compare dx fs) → TyOf K H (.ref a) (.ref A.c_Compare)
  mk_Compare : Mk K A.c_Compare A.f_c_Compare___init
  me_Compare_holds : Meth K A.c_Compare "holds" A.f_c_Compare_holds
  me_Compare_sure : Meth K A.c_Compare "sure" A.f_c_Compare_sure
  me_Compare_atoms : Meth K A.c_Compare "atoms" A.f_c_Compare_atoms
  me_Compare_first_open : Meth K A.c_Compare "first_open" A.f_c_Saying_first_open
  no_Compare_name : NoAttr K A.c_Compare "name"
  no_Compare_how : NoAttr K A.c_Compare "how"
  no_Compare_number : NoAttr K A.c_Compare "number"
  cl_Not : Cls K A.c_Not
  ty_Not : ∀ (H : Hp) (a dx : Addr) (fs : List (Str × V)), H a = some (.ins A.c_Not dx fs) → TyOf K H (.ref a) (.ref A.c_Not)
  mk_Not : Mk K A.c_Not A.f_c_Not___init
  me_Not_holds : Meth K A.c_Not "holds" A.f_c_Not_holds
  me_Not_sure : Meth K A.c_Not "sure" A.f_c_Not_sure
  me_Not_atoms : Meth K A.c_Not "atoms" A.f_c_Not_atoms
  me_Not_first_open : Meth K A.c_Not "first_open" A.f_c_Saying_first_open
  no_Not_test : NoAttr K A.c_Not "test"
  cl_Both : Cls K A.c_Both
  ty_Both : ∀ (H : Hp) (a dx : Addr) (fs : List (Str × V)), H a = some (.ins A.c_Both dx fs) → TyOf K H (.ref a) (.ref A.c_Both)
  mk_Both : Mk K A.c_Both A.f_c_Pair___init
  me_Both_holds : Meth K A.c_Both "holds" A.f_c_Both_holds
  me_Both_sure : Meth K A.c_Both "sure" A.f_c_Both_sure
  me_Both_both_sure : Meth K A.c_Both "both_sure" A.f_c_Pair_both_sure
  me_Both_atoms : Meth K A.c_Both "atoms" A.f_c_Pair_atoms
  me_Both_first_open : Meth K A.c_Both "first_open" A.f_c_Saying_first_open
  no_Both_one : NoAttr K A.c_Both "one"
  no_Both_other : NoAttr K A.c_Both "other"
  cl_Either : Cls K A.c_Either
  ty_Either : ∀ (H : Hp) (a dx : Addr) (fs : List (Str × V)), H a = some (.ins A.c_Either dx fs) → TyOf K H (.ref a) (.ref A.c_Either)
  mk_Either : Mk K A.c_Either A.f_c_Pair___init
  me_Either_holds : Meth K A.c_Either "holds" A.f_c_Either_holds
  me_Either_sure : Meth K A.c_Either "sure" A.f_c_Either_sure
  me_Either_both_sure : Meth K A.c_Either "both_sure" A.f_c_Pair_both_sure
  me_Either_atoms : Meth K A.c_Either "atoms" A.f_c_Pair_atoms
  me_Either_first_open : Meth K A.c_Either "first_open" A.f_c_Saying_first_open
  no_Either_one : NoAttr K A.c_Either "one"
  no_Either_other : NoAttr K A.c_Either "other"
theorem sc_compares : FnScope ["rank", "how", "number"] ["rank", "how", "number"] (defScope s_compares) := ⟨rfl, rfl, rfl, by decide +kernel, rfl, by decide +kernel, by decide +kernel⟩
theorem sc_surely_compares : FnScope ["span", "how", "number", "at_ends", "between"] ["span", "how", "number"] (defScope s_surely_compares) := ⟨rfl, rfl, rfl, by decide +kernel, rfl, by decide +kernel, by decide +kernel⟩
theorem sc_c_Saying_first_open : FnScope ["self", "look", "atom"] ["self", "look"] (defScope s_c_Saying_first_open) := ⟨rfl, rfl, rfl, by decide +kernel, rfl, by decide +kernel, by decide +kernel⟩
theorem sc_c_Is___init : FnScope ["self", "name", "word", "place"] ["self", "name", "word", "place"] (defScope s_c_Is___init) := ⟨rfl, rfl, rfl, by decide +kernel, rfl, by decide +kernel, by decide +kernel⟩
theorem sc_c_Is_atoms : FnScope ["self"] ["self"] (defScope s_c_Is_atoms) := ⟨rfl, rfl, rfl, by decide +kernel, rfl, by decide +kernel, by decide +kernel⟩
theorem sc_c_Is_holds : FnScope ["self", "look"] ["self", "look"] (defScope s_c_Is_holds) := ⟨rfl, rfl, rfl, by decide +kernel, rfl, by decide +kernel, by decide +kernel⟩
theorem sc_c_Is_sure : FnScope ["self", "look"] ["self", "look"] (defScope s_c_Is_sure) := ⟨rfl, rfl, rfl, by decide +kernel, rfl, by decide +kernel, by decide +kernel⟩
theorem sc_c_Compare___init : FnScope ["self", "name", "how", "number"] ["self", "name", "how", "number"] (defScope s_c_Compare___init) := ⟨rfl, rfl, rfl, by decide +kernel, rfl, by decide +kernel, by decide +kernel⟩
theorem sc_c_Compare_atoms : FnScope ["self"] ["self"] (defScope s_c_Compare_atoms) := ⟨rfl, rfl, rfl, by decide +kernel, rfl, by decide +kernel, by decide +kernel⟩
theorem sc_c_Compare_holds : FnScope ["self", "look"] ["self", "look"] (defScope s_c_Compare_holds) := ⟨rfl, rfl, rfl, by decide +kernel, rfl, by decide +kernel, by decide +kernel⟩
theorem sc_c_Compare_sure : FnScope ["self", "look"] ["self", "look"] (defScope s_c_Compare_sure) := ⟨rfl, rfl, rfl, by decide +kernel, rfl, by decide +kernel, by decide +kernel⟩
theorem sc_c_Not___init : FnScope ["self", "test"] ["self", "test"] (defScope s_c_Not___init) := ⟨rfl, rfl, rfl, by decide +kernel, rfl, by decide +kernel, by decide +kernel⟩
theorem sc_c_Not_atoms : FnScope ["self"] ["self"] (defScope s_c_Not_atoms) := ⟨rfl, rfl, rfl, by decide +kernel, rfl, by decide +kernel, by decide +kernel⟩
theorem sc_c_Not_holds : FnScope ["self", "look"] ["self", "look"] (defScope s_c_Not_holds) := ⟨rfl, rfl, rfl, by decide +kernel, rfl, by decide +kernel, by decide +kernel⟩
theorem sc_c_Not_sure : FnScope ["self", "look", "told"] ["self", "look"] (defScope s_c_Not_sure) := ⟨rfl, rfl, rfl, by decide +kernel, rfl, by decide +kernel, by decide +kernel⟩
theorem sc_c_Pair___init : FnScope ["self", "one", "other"] ["self", "one", "other"] (defScope s_c_Pair___init) := ⟨rfl, rfl, rfl, by decide +kernel, rfl, by decide +kernel, by decide +kernel⟩
theorem sc_c_Pair_atoms : FnScope ["self"] ["self"] (defScope s_c_Pair_atoms) := ⟨rfl, rfl, rfl, by decide +kernel, rfl, by decide +kernel, by decide +kernel⟩
theorem sc_c_Pair_both_sure : FnScope ["self", "look"] ["self", "look"] (defScope s_c_Pair_both_sure) := ⟨rfl, rfl, rfl, by decide +kernel, rfl, by decide +kernel, by decide +kernel⟩
theorem sc_c_Both_holds : FnScope ["self", "look"] ["self", "look"] (defScope s_c_Both_holds) := ⟨rfl, rfl, rfl, by decide +kernel, rfl, by decide +kernel, by decide +kernel⟩
theorem sc_c_Both_sure : FnScope ["self", "look", "told"] ["self", "look"] (defScope s_c_Both_sure) := ⟨rfl, rfl, rfl, by decide +kernel, rfl, by decide +kernel, by decide +kernel⟩
theorem sc_c_Either_holds : FnScope ["self", "look"] ["self", "look"] (defScope s_c_Either_holds) := ⟨rfl, rfl, rfl, by decide +kernel, rfl, by decide +kernel, by decide +kernel⟩
theorem sc_c_Either_sure : FnScope ["self", "look", "told"] ["self", "look"] (defScope s_c_Either_sure) := ⟨rfl, rfl, rfl, by decide +kernel, rfl, by decide +kernel, by decide +kernel⟩
theorem sc_law_cell_at : FnScope ["_law_script", "_law_k"] ["_law_script", "_law_k"] (defScope s_law_cell_at) := ⟨rfl, rfl, rfl, by decide +kernel, rfl, by decide +kernel, by decide +kernel⟩
theorem sc_law_whole : FnScope ["_law_found"] ["_law_found"] (defScope s_law_whole) := ⟨rfl, rfl, rfl, by decide +kernel, rfl, by decide +kernel, by decide +kernel⟩
theorem sc_law_names : FnScope ["_law_script", "_law_letters", "_law_cell", "_law_size", "_law_way", "_law_base", "_law_at", "_law_names_here", "_law_k", "_law_name"] ["_law_script"] (defScope s_law_names) := ⟨rfl, rfl, rfl, by decide +kernel, rfl, by decide +kernel, by decide +kernel⟩
theorem sc_law_number : FnScope ["_law_cell"] ["_law_cell"] (defScope s_law_number) := ⟨rfl, rfl, rfl, by decide +kernel, rfl, by decide +kernel, by decide +kernel⟩
theorem sc_law_table : FnScope ["_law_script", "_law_names_here", "_law_rows", "_law_k", "_law_cell", "_law_base"] ["_law_script"] (defScope s_law_table) := ⟨rfl, rfl, rfl, by decide +kernel, rfl, by decide +kernel, by decide +kernel⟩
theorem sc_law_atom : FnScope ["_law_cell", "_law_rows", "_law_name", "_law_base", "_law_wide", "_law_gone", "_law_number_here"] ["_law_cell", "_law_rows"] (defScope s_law_atom) := ⟨rfl, rfl, rfl, by decide +kernel, rfl, by decide +kernel, by decide +kernel⟩
theorem sc_law_joined : FnScope ["_law_stack", "_law_how", "_law_other", "_law_one"] ["_law_stack", "_law_how"] (defScope s_law_joined) := ⟨rfl, rfl, rfl, by decide +kernel, rfl, by decide +kernel, by decide +kernel⟩
theorem sc_law_tree : FnScope ["_law_cells", "_law_names_here", "_law_stack", "_law_many", "_law_cell", "_law_last"] ["_law_cells", "_law_names_here"] (defScope s_law_tree) := ⟨rfl, rfl, rfl, by decide +kernel, rfl, by decide +kernel, by decide +kernel⟩
theorem sc_law_made : FnScope ["_law_tree_here"] ["_law_tree_here"] (defScope s_law_made) := ⟨rfl, rfl, rfl, by decide +kernel, rfl, by decide +kernel, by decide +kernel⟩
theorem sc_law_atoms : FnScope ["_law_tree_here"] ["_law_tree_here"] (defScope s_law_atoms) := ⟨rfl, rfl, rfl, by decide +kernel, rfl, by decide +kernel, by decide +kernel⟩
theorem sc_law_look : FnScope ["_law_told"] ["_law_told"] (defScope s_law_look) := ⟨rfl, rfl, rfl, by decide +kernel, rfl, by decide +kernel, by decide +kernel⟩
theorem sc_law_atom_sure : FnScope ["_law_atom_here", "_law_span", "_law_how"] ["_law_atom_here", "_law_span"] (defScope s_law_atom_sure) := ⟨rfl, rfl, rfl, by decide +kernel, rfl, by decide +kernel, by decide +kernel⟩
theorem sc_law_sure : FnScope ["_law_tree_here", "_law_spans", "_law_one", "_law_other", "_law_deciding"] ["_law_tree_here", "_law_spans"] (defScope s_law_sure) := ⟨rfl, rfl, rfl, by decide +kernel, rfl, by decide +kernel, by decide +kernel⟩
theorem sc_law_three : FnScope ["_law_found", "_law_due"] ["_law_found", "_law_due"] (defScope s_law_three) := ⟨rfl, rfl, rfl, by decide +kernel, rfl, by decide +kernel, by decide +kernel⟩
theorem sc_law_word : FnScope ["_law_found", "_law_due"] ["_law_found", "_law_due"] (defScope s_law_word) := ⟨rfl, rfl, rfl, by decide +kernel, rfl, by decide +kernel, by decide +kernel⟩
theorem sc_law_same : FnScope ["_law_found", "_law_atom_here"] ["_law_found", "_law_atom_here"] (defScope s_law_same) := ⟨rfl, rfl, rfl, by decide +kernel, rfl, by decide +kernel, by decide +kernel⟩
theorem sc_law_right : FnScope ["_law_saying", "_law_tree_here", "_law_spans", "_law_found", "_law_atom_here"] ["_law_saying", "_law_tree_here", "_law_spans"] (defScope s_law_right) := ⟨rfl, rfl, rfl, by decide +kernel, rfl, by decide +kernel, by decide +kernel⟩
theorem sc_law : FnScope ["_law_script", "_law_rows", "_law_tree_here", "_law_saying", "_law_spans", "_law_points", "_law_ranks", "_law_name", "_law_base", "_law_wide", "_law_gone"] ["_law_script"] (defScope s_law) := ⟨rfl, rfl, rfl, by decide +kernel, rfl, by decide +kernel, by decide +kernel⟩
end K18
set_option maxHeartbeats 4000000
namespace K18
open PySem L2
seal PE PT PW PA PS PSs PG PGs PI PO PSet OpR UnR CallR TruR IxR SlR PC PPs
local macro_rules | `(tactic| walk_at "rd1") => `(tactic| first
  | (refine And.intro rfl ?_)
  | (refine And.intro (by assumption) ?_)
  | (refine And.intro (fun _ e => e) ?_)
  | (refine And.intro (TyOf.str _) ?_) | (refine And.intro (TyOf.int _) ?_) | (refine And.intro (TyOf.bl _) ?_) | (refine And.intro TyOf.non ?_)
  | (refine iteT ?_) | (refine iteF ?_)
  | (apply Exists.intro))
local macro_rules | `(tactic| walk_at "rd") => `(tactic| repeat (walk_at "rd1"))

def kws : List V := [.str "and", .str "each", .str "end", .str "is", .str "not", .str "or", .str "unless", .str "when"]
def inL (c : Nat) : Bool := !(Builtin.Str.occurrences "abcdefghijklmnopqrstuvwxyz" (S [c]) 0 ("abcdefghijklmnopqrstuvwxyz" : Str).length 1).isEmpty
def nameB (z : Str) : Bool := !(inV (.str z) kws) && decide ((1 : Int) ≤ z.length) && decide ((z.length : Int) ≤ 12) && (cd z).all inL
abbrev Part := Int × Option Str
def nv : Option Str → V
  | none => .non
  | some z => .str z
def PR (K : PySem.W.Frag) (H : Hp) (x : V) (p : Part) : Prop := ∃ a, x = .ref a ∧ SqT K H a [.int p.1, nv p.2]
abbrev PsR (K : PySem.W.Frag) (H : Hp) : List V → List Part → Prop := Paired (PR K H)
theorem PR.same {K : PySem.W.Frag} {H H' : Hp} {x : V} {p : Part} (e : Same H H') (h : PR K H x p) : PR K H' x p := let ⟨a, h1, h2⟩ := h; ⟨a, h1, e.seqT h2⟩
theorem PsR.same {K : PySem.W.Frag} {H H' : Hp} {xs : List V} {ps : List Part} (e : Same H H') (h : PsR K H xs ps) : PsR K H' xs ps := by
  induction h with
  | nil => exact .nil
  | cons a _ ih => exact .cons (a.same e) ih
theorem PsR.at {K : PySem.W.Frag} {H : Hp} {xs : List V} {ps : List Part} (h : PsR K H xs ps) : ∀ {i : Nat} {x : V}, xs[i]? = some x → ∃ p, ps[i]? = some p ∧ PR K H x p := by
  induction h with
  | nil => intro i x e; simp at e
  | cons a _ ih =>
    intro i x e
    cases i with
    | zero => cases e; exact ⟨_, rfl, a⟩
    | succ j => exact ih e
theorem PsR.len {K : PySem.W.Frag} {H : Hp} {xs : List V} {ps : List Part} (h : PsR K H xs ps) : xs.length = ps.length := by
  induction h with
  | nil => rfl
  | cons _ _ ih => rw [List.length_cons, List.length_cons, ih]
theorem inL_of {c : Nat} (h : 97 ≤ c ∧ c ≤ 122) : inL c = true := by
  have e0 : inL c = decide (c ∈ ("abcdefghijklmnopqrstuvwxyz" : Str).cps.toList) := StrLaws.found_one "abcdefghijklmnopqrstuvwxyz" c
  have e : ("abcdefghijklmnopqrstuvwxyz" : Str).cps.toList = (List.range 26).map (97 + ·) := by decide +kernel
  rw [e0, e]
  refine decide_eq_true (List.mem_map.mpr ⟨c - 97, List.mem_range.mpr (by omega), by omega⟩)
theorem paired_app {α β : Type} {R : α → β → Prop} {as as' : List α} {bs bs' : List β} (h : Paired R as bs) (k : Paired R as' bs') : Paired R (as ++ as') (bs ++ bs') := by
  induction h with
  | nil => exact k
  | cons r _ ih => exact .cons r ih
theorem seq_mid {t u : TS} {D : Ends} {σ : St} {H : Hp} (R : St → Hp → Prop) (hk : ∀ σ' H', R σ' H' → u D σ' H') (hm : (∀ σ' H', R σ' H' → u D σ' H') → t { D with nx := u D } σ H) : tSeq t u D σ H := hm hk
end K18
set_option maxHeartbeats 4000000
namespace K18
open PySem L2
seal PE PT PW PA PS PSs PG PGs PI PO PSet OpR UnR CallR TruR IxR SlR PC PPs
local macro_rules | `(tactic| walk_at "rd1") => `(tactic| first
  | (refine And.intro rfl ?_)
  | (refine And.intro (by assumption) ?_)
  | (refine And.intro (fun _ e => e) ?_)
  | (refine And.intro (TyOf.str _) ?_) | (refine And.intro (TyOf.int _) ?_) | (refine And.intro (TyOf.bl _) ?_) | (refine And.intro TyOf.non ?_)
  | (refine iteT ?_) | (refine iteF ?_)
  | (apply Exists.intro))
local macro_rules | `(tactic| walk_at "rd") => `(tactic| repeat (walk_at "rd1"))

def spCell (K : PySem.W.Frag) : Sp := fun vs H Q _ => ∃ (a : Addr) (ns : List Int) (k : Int), vs = [.ref a, .int k] ∧ SqL K H a (ns.map V.int) ∧ 0 ≤ k ∧ (∀ n ∈ ns, ib n ≤ 1048576) ∧ ∀ n : Int, ib n ≤ 1048576 → Q (.int n) H
def spIsWhole (K : PySem.W.Frag) : Sp := fun vs H Q _ => ∃ x t bi bb, vs = [x] ∧ TyE K H x t ∧ PySem.W.kitOne K t (.type "int") = some bi ∧ PySem.W.kitOne K t (.type "bool") = some bb ∧ Q (.bl (bi && !bb)) H
def spNames (K : PySem.W.Frag) : Sp := fun vs H Q _ => ∃ (a : Addr) (ns : List Int), vs = [.ref a] ∧ SqL K H a (ns.map V.int) ∧ (∀ n ∈ ns, ib n ≤ 1048576) ∧ ∀ (pn : Addr) (zs : List Str) (H' : Hp), zs.length = 5 → (∀ z ∈ zs, nameB z = true) → Same H H' → H' pn = some (.lst (zs.map V.str)) → Q (.ref pn) H'
def spNumber : Sp := fun vs H Q _ => ∃ n : Int, vs = [.int n] ∧ ib n ≤ 1048600 ∧ ∀ m : Int, m.natAbs < 10 ^ 60 → Q (.int m) H
def one (b : List Nat) : List Str := b.map fun c => S [c]
theorem one_sum (b : List Nat) : ((one b).map (·.length)).sum = b.length := by
  induction b with
  | nil => rfl
  | cons c r ih =>
    show (S [c]).length + ((one r).map (·.length)).sum = _
    rw [ih, len_S, List.length_cons, List.length_cons, List.length_nil]; omega
theorem one_join (b : List Nat) : joinS "" (one b) = S b := by
  rw [joinS_is, show cd ("" : Str) = [] by decide +kernel]
  congr 1
  induction b with
  | nil => rfl
  | cons c r ih =>
    cases r with
    | nil => rfl
    | cons d r =>
      show [c] ++ [] ++ joinL [] ((one (d :: r)).map cd) = _
      rw [ih]; rfl
theorem one_map (b : List Nat) : (one b).map V.str = b.map fun c => V.str (S [c]) := by unfold one; rw [List.map_map]; rfl
abbrev KW : List Str := ["and", "each", "end", "is", "not", "or", "unless", "when"]
theorem inV_strs (z : Str) (ws : List Str) : inV (.str z) (ws.map V.str) = decide (z ∈ ws) := by
  unfold inV
  rw [List.any_map, Bool.eq_iff_iff, List.any_eq_true, decide_eq_true_iff]
  constructor
  · rintro ⟨y, hy, e⟩
    have : y = z := eq_of_beq e
    rw [← this]; exact hy
  · intro h; exact ⟨z, h, by show (z == z) = true; exact beq_self_eq_true z⟩
theorem name_of {l : List Nat} (h : l.length ≤ 12 ∧ 1 ≤ l.length ∧ ∀ c ∈ l, 97 ≤ c ∧ c ≤ 122) (k : S l ∉ KW) : nameB (S l) = true := by
  unfold nameB
  have e1 : inV (.str (S l)) kws = false := by
    show inV (.str (S l)) (KW.map V.str) = false
    rw [inV_strs]; exact decide_eq_false k
  have e2 : l.all inL = true := List.all_eq_true.mpr fun c hc => inL_of (h.2.2 c hc)
  rw [e1, len_S, cd_S, e2, decide_eq_true (by omega), decide_eq_true (by omega)]
  rfl
theorem kw_x : ∀ z ∈ KW, nameB (z ++ Str.ofString "x") = true := by decide +kernel
theorem kw_len : ∀ z ∈ KW, z.length ≤ 6 := by decide +kernel
theorem let_at (i : Int) (h0 : 0 ≤ i) (h1 : i < 26) : ∃ c, atI ("abcdefghijklmnopqrstuvwxyz" : Str).cps.toList i = some c ∧ 97 ≤ c ∧ c ≤ 122 := by
  have key : ∀ k : Nat, k < 26 → ("abcdefghijklmnopqrstuvwxyz" : Str).cps.toList[k]? = some (97 + k) := by decide +kernel
  refine ⟨97 + i.toNat, ?_, by omega, by omega⟩
  have := atI_nat (key i.toNat (by omega))
  rw [show ((i.toNat : Nat) : Int) = i by omega] at this
  exact this
theorem repN_mem : ∀ (k : Nat) {c : Nat}, c ∈ repN [101] k → c = 101
  | 0, c, h => by cases h
  | k + 1, c, h => by
    have h' : c ∈ [101] ++ repN [101] k ∨ c ∈ repN [101] k ++ [101] := by first | exact .inl h | exact .inr h
    rcases h' with h' | h' <;> rcases List.mem_append.mp h' with e | e
    · exact List.mem_singleton.mp e
    · exact repN_mem k e
    · exact repN_mem k e
    · exact List.mem_singleton.mp e
theorem ib_k {k : Int} (h0 : 0 ≤ k) (h : k < 100) : ib k ≤ 60000000 := Nat.le_trans (ib_small (by omega) (by omega)) (by decide)
section
variable {P : Program} {w : World} {K : PySem.W.Frag} {mg : Str → Option Value} {base : Heap} {A : Adr}
theorem ok_law_cell_at (T : Txt K mg A) : FnOk P w K mg base CX0 1 A.f_law_cell_at A.d_law_cell_at ["_law_script", "_law_k"] (spCell K) := by
  refine T.F_law_cell_at.ok sc_law_cell_at (fun vs H Q E h => ?_) (fun cdv A0 outer s H vs Q E hr h => ?_)
  · obtain ⟨a, ns, k, rfl, _⟩ := h
    rfl
  obtain ⟨a, ns, k, rfl, hS, hk, hb, q⟩ := h
  refine ⟨_, (pss_cons (ps_if (pt_cmpR op_lt (pv 1) (pe_callB call_len_seq (by rfl) T.n_len PySem.boot_len (pa_cons (pv 0) pa_nil)) (nomark _)) (pss_one (ps_ret (pe_ix ix_list (pv 0) (pv 1) (fun _ _ => rfl)))) pss_nil)
      (pss_one (ps_ret pe_int))), ?_⟩
  refine ⟨_, rfl, _, rfl, a, _, rfl, .inl hS, _, _, rfl, rfl, _, rfl, ?_⟩
  refine ite2 (fun c => ?_) (fun c => ?_)
  · have c' : k < ((ns.map V.int).length : Nat) := of_decide_eq_true c
    obtain ⟨v, hv, hv2⟩ := at_some (l := ns.map V.int) hk c'
    obtain ⟨n, hn, rfl⟩ := map_get hv2
    exact ⟨_, rfl, _, rfl, a, _, _, _, rfl, rfl, hS, hv, q _ (hb n (List.mem_of_getElem? hn))⟩
  · exact q _ (by decide)
theorem ok_law_names (T : Txt K mg A) : FnOk P w K mg base CX0 2 A.f_law_names A.d_law_names ["_law_script"] (spNames K) := by
  have G_law_cell_at := ok_law_cell_at (P := P) (w := w) (base := base) T
  refine T.F_law_names.ok sc_law_names (fun vs H Q E h => ?_) (fun cdv A0 outer s H vs' Q E hr h => ?_)
  · obtain ⟨a, ns, rfl, _⟩ := h
    rfl
  obtain ⟨a, ns, rfl, hS, hb, q⟩ := h
  refine ⟨_, (pss_cons (ps_set (i := 1) sc_law_names.nd rfl (by first | exact Or.inl rfl | exact Or.inr rfl) pe_str)
      (pss_cons (ps_set (i := 2) sc_law_names.nd rfl (by first | exact Or.inl rfl | exact Or.inr rfl) (pe_call G_law_cell_at (hr.mono (by first | decide | omega)) rfl T.m_law_cell_at T.k_law_cell_at T.b_law_cell_at .nil pass0 (pa_cons (pv 0) (pa_cons pe_int pa_nil))))
      (pss_cons (ps_set (i := 3) sc_law_names.nd rfl (by first | exact Or.inl rfl | exact Or.inr rfl) (pe_op op_add pe_int (pe_op op_mod (pv 2) pe_int)))
      (pss_cons (ps_set (i := 4) sc_law_names.nd rfl (by first | exact Or.inl rfl | exact Or.inr rfl) (pe_op op_mod (pe_call G_law_cell_at (hr.mono (by first | decide | omega)) rfl T.m_law_cell_at T.k_law_cell_at T.b_law_cell_at .nil pass0 (pa_cons (pv 0) (pa_cons pe_int pa_nil))) pe_int))
      (pss_cons (ps_if (pt_cmpR op_eq (pv 4) pe_int (nomark _)) (pss_one (ps_set (i := 3) sc_law_names.nd rfl (by first | exact Or.inl rfl | exact Or.inr rfl) (pe_op op_add pe_int (pe_op op_mod (pv 2) pe_int)))) pss_nil)
      (pss_cons (ps_set (i := 5) sc_law_names.nd rfl (by first | exact Or.inl rfl | exact Or.inr rfl) (pe_compR (compOk_of (x := "_law_j") (M := ["_law_script", "_law_letters", "_law_cell", "_law_size", "_law_way", "_law_base", "_law_at", "_law_names_here", "_law_k", "_law_name"]) rfl (by rfl)) rfl (pi_range1 rfl T.n_range (pa_cons (pv 3) pa_nil)) (fun _ _ _ _ => (pe_op op_mod (pe_op op_add (pe_op op_fdiv (pv 3) (pe_op op_add (pv 0) pe_int)) (pe_op op_mulB (pv 0) (pv 0))) pe_int))))
      (pss_cons (ps_set (i := 6) sc_law_names.nd rfl (by first | exact Or.inl rfl | exact Or.inr rfl) (pe_op op_mod (pe_op op_fdiv (pe_call G_law_cell_at (hr.mono (by first | decide | omega)) rfl T.m_law_cell_at T.k_law_cell_at T.b_law_cell_at .nil pass0 (pa_cons (pv 0) (pa_cons pe_int pa_nil))) pe_int) (pv 3)))
      (pss_cons (ps_set (i := 7) sc_law_names.nd rfl (by first | exact Or.inl rfl | exact Or.inr rfl) (pe_lst pa_nil))
      (pss_cons (ps_forR PassesOwn.never rfl (pi_range1 rfl T.n_range (pa_cons pe_int pa_nil)) (pg_name (i := 8) sc_law_names.nd rfl (by first | exact Or.inl rfl | exact Or.inr rfl)) (pss_cons (ps_set (i := 9) sc_law_names.nd rfl (by first | exact Or.inl rfl | exact Or.inr rfl) (pe_bm PySem.F.plainAttrs_str PySem.F.slot_str_join PySem.F.type_str_join mt_join pe_str (pa_cons (pe_compR (compOk_of (x := "_law_j") (M := ["_law_script", "_law_letters", "_law_cell", "_law_size", "_law_way", "_law_base", "_law_at", "_law_names_here", "_law_k", "_law_name"]) rfl (by rfl)) rfl (pi_range1 rfl T.n_range (pa_cons (pv 3) pa_nil)) (fun _ _ _ _ => pe_eqv (by exact (pe_ix ix_str (pv 2) (pe_op op_mod (pe_op op_add (pe_ix ix_list (pv 6) (pv 0) (fun _ _ => rfl)) (pe_op op_mulB (pv 9) (pe_callTy call_int1 (by rfl) T.n_int Bt.int (pa_cons (pe_and (pe_cmpR op_eq (pv 5) pe_int (nomark _)) (pe_one (pe_cmpR op_eq (pv 0) (pv 7) (nomark _)))) pa_nil)))) pe_int) (fun _ _ => rfl))) (by dsimp only [compCx] <;> rfl))) pa_nil)))
      (pss_cons (ps_set (i := 9) sc_law_names.nd rfl (by first | exact Or.inl rfl | exact Or.inr rfl) (pe_op op_add_str (pv 9) (pe_op op_mul_str pe_str (pe_op op_mulB (pv 8) (pv 4)))))
      (pss_cons (ps_if (pt_cmpR op_in_seq (pv 9) (pe_lst (pa_cons pe_str (pa_cons pe_str (pa_cons pe_str (pa_cons pe_str (pa_cons pe_str (pa_cons pe_str (pa_cons pe_str (pa_cons pe_str pa_nil))))))))) (by rfl)) (pss_one (ps_set (i := 9) sc_law_names.nd rfl (by first | exact Or.inl rfl | exact Or.inr rfl) (pe_op op_add_str (pv 9) pe_str))) pss_nil)
      (pss_one (ps_expr (pe_bm PySem.F.plainAttrs_list PySem.F.slot_list_append PySem.F.type_list_append mt_append (pv 7) (pa_cons (pv 9) pa_nil))))))))
      (pss_one (ps_ret (pv 7)))))))))))), ?_⟩
  have m0 : ∀ c0 : Int, 0 ≤ c0 % 12 ∧ c0 % 12 < 12 := fun c0 => ⟨Int.emod_nonneg _ (by decide), Int.emod_lt_of_pos _ (by decide)⟩
  refine ⟨_, rfl, a, ns, 0, rfl, hS, by decide, hb, fun c0 hc0 => ?_⟩
  refine ⟨_, rfl, _, _, rfl, rfl, (by show (0 : Int) < 12; decide), _, _, rfl, rfl, ?_⟩
  refine ⟨_, rfl, a, ns, 1, rfl, hS, by decide, hb, fun c1 hc1 => ⟨_, _, rfl, rfl, (by show (0 : Int) < 2; decide), ?_⟩⟩
  have w0 : 0 ≤ c1 % 2 := Int.emod_nonneg _ (by decide)
  have w1 : c1 % 2 < 2 := Int.emod_lt_of_pos _ (by decide)
  dsimp only [gName]
  refine seq_mid (fun σ' H' => H = H' ∧ ∃ n : Nat, σ' = [some (.ref a), some (.str (Str.ofString "abcdefghijklmnopqrstuvwxyz")), some (.int c0), some (.int (n : Nat)), some (.int (c1 % 2)), none, none, none, none, none] ∧ 1 ≤ n ∧ (c1 % 2 = 0 → n ≤ 12) ∧ (c1 % 2 = 1 → n ≤ 8)) ?kk ?mm
  case mm =>
    intro key
    have := m0 c0
    have e8 : 0 ≤ c0 % 8 ∧ c0 % 8 < 8 := ⟨Int.emod_nonneg _ (by decide), Int.emod_lt_of_pos _ (by decide)⟩
    refine ⟨_, rfl, rfl, _, rfl, ite2 (fun d => ?_) (fun d => ?_)⟩
    · have d' : c1 % 2 = 1 := V.int.inj (of_decide_eq_true d)
      refine ⟨_, rfl, _, _, rfl, rfl, (by show (0 : Int) < 8; decide), _, _, rfl, rfl, ?_⟩
      refine key _ _ ⟨rfl, (1 + c0 % 8).toNat, ?_, by omega, fun z => (by omega), fun _ => (by omega)⟩
      rw [show (((1 + c0 % 8).toNat : Nat) : Int) = 1 + c0 % 8 by omega]; rfl
    · have d' : ¬ c1 % 2 = 1 := fun e => d (decide_eq_true (by rw [e]))
      refine key _ _ ⟨rfl, (1 + c0 % 12).toNat, ?_, by omega, fun z => (by omega), fun z => (by omega)⟩
      rw [show (((1 + c0 % 12).toNat : Nat) : Int) = 1 + c0 % 12 by omega]; rfl
  case kk =>
  rintro σ' H' ⟨rfl, n, rfl, hn1, hn2⟩
  have hn12 : n ≤ 12 := by rcases (by omega : c1 % 2 = 0 ∨ c1 % 2 = 1) with e | e; (exact hn2.1 e); (have := hn2.2 e; omega)
  refine ⟨_, rfl, _, rfl, (by omega), (by omega), ?_⟩
  rw [show ((n : Int)).toNat = n by omega]
  refine comp_rangeR (small_of (m := 12) hn12) (fun i ys H' => H = H' ∧ ∃ b : List Int, ys = b.map V.int ∧ ∀ c ∈ b, 0 ≤ c ∧ c < 26) ⟨rfl, [], rfl, fun c h => by cases h⟩ (fun i ys H' hi hl hw => ?_) (fun ys H' hl hw pb hpb => ?_)
  · obtain ⟨rfl, b, rfl, hc⟩ := hw
    refine ⟨_, rfl, _, rfl, _, _, rfl, rfl, _, _, rfl, rfl, ⟨by show (0 : Int) < 0 + (i : Nat) + 1; omega, by show (0 : Int) + (i : Nat) + 1 < 1073741824; omega⟩, ?_⟩
    refine ⟨_, rfl, _, rfl, _, _, rfl, rfl, ⟨ib_k (by omega) (by omega), ib_k (by omega) (by omega)⟩, _, _, rfl, rfl, _, _, rfl, rfl, (by show (0 : Int) < 26; decide), rfl, b ++ [_], (by rw [List.map_append]; rfl), fun k hk => ?_⟩
    rcases List.mem_append.mp hk with z | z
    · exact hc k z
    · rw [List.mem_singleton.mp z]; exact ⟨Int.emod_nonneg _ (by decide), Int.emod_lt_of_pos _ (by decide)⟩
  obtain ⟨rfl, b, rfl, hc⟩ := hw
  rw [List.length_map] at hl
  have sb := same_new hpb (.lst (b.map V.int))
  refine ⟨_, rfl, a, ns, 1, rfl, sb.seq hS, by decide, hb, fun c2 hc2 => ?_⟩
  refine ⟨_, _, rfl, rfl, ⟨by decide, by decide⟩, _, rfl, _, _, rfl, rfl, (by show (0 : Int) < (n : Nat); omega), ?_⟩
  refine ⟨(by show 0 ≤ sizeLine; decide), fun pn hpn => ?_⟩
  have sn := same_new hpn (.lst [])
  have hpn0 : H pn = none := by
    cases e : H pn with
    | none => rfl
    | some o => rw [sb pn o e] at hpn; cases hpn
  refine ⟨_, rfl, (by decide), (by decide), ?_⟩
  dsimp only
  generalize ht : c2 / 2 % ((n : Nat) : Int) = t
  have hw01 : c1 % 2 = 0 ∨ c1 % 2 = 1 := by omega
  generalize hwy : c1 % 2 = wy at hw01 hn2
  refine for_rangeR (n := 5) (fun i σ H' => (∃ u v, σ = [some (.ref a), some (.str (Str.ofString "abcdefghijklmnopqrstuvwxyz")), some (.int c0), some (.int (n : Nat)), some (.int wy), some (.ref pb), some (.int t), some (.ref pn), u, v]) ∧ Same H H' ∧ H' pb = some (.lst (b.map V.int)) ∧ ∃ zs : List Str, zs.length = i ∧ (∀ z ∈ zs, nameB z = true) ∧ H' pn = some (.lst (zs.map V.str))) ⟨⟨_, _, rfl⟩, sb.trans sn, sn _ _ upd_same, [], rfl, fun z h => (by cases h), upd_same⟩ (fun i σ H' hi hp => ?_) (fun σ H' hp => ?_)
  · obtain ⟨⟨u, v, rfl⟩, sH, hpb', zs, hzl, hzn, hpn'⟩ := hp
    refine ⟨rfl, _, rfl, _, rfl, (by omega), (by omega), ?_⟩
    rw [show ((n : Int)).toNat = n by omega]
    refine comp_rangeR (n := n) (small_of (m := 12) hn12) (fun j ys G => H' = G ∧ ∃ l : List Nat, ys = (l.map fun c => V.str (S [c])) ∧ ∀ c ∈ l, 97 ≤ c ∧ c ≤ 122) ⟨rfl, [], rfl, fun c h => by cases h⟩ (fun j ys G hj hl2 hw => ?_) (fun ys G hl2 hw p hpp => ?_)
    · obtain ⟨sG, l, rfl, hlc⟩ := hw
      subst sG
      have sG : H' = H' := rfl
      obtain ⟨x, hx1, hx2⟩ := at_some (l := b.map V.int) (i := (0 + (j : Int))) (by omega) (by rw [List.length_map]; omega)
      obtain ⟨bv, hbv, rfl⟩ := map_get hx2
      refine ⟨_, rfl, _, rfl, _, rfl, pb, _, _, _, rfl, rfl, SqL.of hpb', hx1, _, rfl, _, rfl, rfl, _, rfl, ite2 (fun _ => ?_) (fun _ => ?_)⟩
      · refine ⟨_, rfl, _, rfl, rfl, .inr ⟨_, rfl, _, _, rfl, rfl, ⟨ib_k (by omega) (by omega), by split <;> decide⟩, _, _, rfl, rfl, _, _, rfl, rfl, (by show (0 : Int) < 26; decide), ?_⟩⟩
        obtain ⟨c, hc1, hc2⟩ := let_at ((bv + (0 + (i : Int)) * (if (decide (V.int (0 + (j : Int)) = V.int t)) = true then 1 else 0)) % 26) (Int.emod_nonneg _ (by decide)) (Int.emod_lt_of_pos _ (by decide))
        refine ⟨_, _, c, rfl, rfl, (by decide +kernel), hc1, sG, l ++ [c], (by rw [List.map_append]; rfl), fun d hd => ?_⟩
        rcases List.mem_append.mp hd with z | z
        · exact hlc d z
        · rw [List.mem_singleton.mp z]; exact hc2
      · refine .inr ⟨_, rfl, _, _, rfl, rfl, ⟨ib_k (by omega) (by omega), by split <;> decide⟩, _, _, rfl, rfl, _, _, rfl, rfl, (by show (0 : Int) < 26; decide), ?_⟩
        obtain ⟨c, hc1, hc2⟩ := let_at ((bv + (0 + (i : Int)) * (if false = true then 1 else 0)) % 26) (Int.emod_nonneg _ (by decide)) (Int.emod_lt_of_pos _ (by decide))
        refine ⟨_, _, c, rfl, rfl, (by decide +kernel), hc1, sG, l ++ [c], (by rw [List.map_append]; rfl), fun d hd => ?_⟩
        rcases List.mem_append.mp hd with z | z
        · exact hlc d z
        · rw [List.mem_singleton.mp z]; exact hc2
    · obtain ⟨rfl, l, rfl, hlc⟩ := hw
      rw [List.length_map] at hl2
      have sp := same_new hpp (.lst (l.map fun c => V.str (S [c])))
      refine ⟨_, p, one l, rfl, rfl, .inl (SqL.of (by rw [upd_same, one_map])), (by rw [one_sum]; show _ + _ * 0 ≤ _; omega), ?_⟩
      rw [show joinS (Str.ofString "") (one l) = S l from one_join _]
      obtain ⟨m, hm, hm1, hm2⟩ : ∃ m : Nat, (0 + (i : Int)) * wy = (m : Int) ∧ n + m ≤ 12 ∧ m ≤ 12 := by
        rcases hw01 with e | e
        · exact ⟨0, by rw [e]; omega, by omega, by omega⟩
        · have := hn2.2 e
          exact ⟨i, by rw [e]; omega, by omega, by omega⟩
      have hwb : ib wy ≤ 60000000 := ib_k (by omega) (by omega)
      refine ⟨_, rfl, _, rfl, _, rfl, _, _, rfl, rfl, ⟨ib_k (by omega) (by omega), hwb⟩, ?_⟩
      dsimp only
      rw [hm]
      have ee : cd (Str.ofString "e") = [101] := by decide +kernel
      have el : (Str.ofString "e").length = 1 := by decide +kernel
      refine ⟨_, _, rfl, rfl, by omega, by omega, by rw [el]; omega, by rw [el]; decide, ?_⟩
      rw [ee, show ((m : Int)).toNat = m by omega]
      have hrl := repN_len [101] m
      rw [show ([101] : List Nat).length = 1 from rfl, Nat.mul_one] at hrl
      refine ⟨_, _, rfl, rfl, small_of (m := 100) (by rw [len_S, len_S]; omega), ?_⟩
      rw [S_app]
      generalize hL : l ++ repN [101] m = L
      have hLl : L.length = n + m := by rw [← hL, List.length_append]; omega
      have hLc : ∀ c ∈ L, 97 ≤ c ∧ c ≤ 122 := fun c hc => by
        rw [← hL] at hc
        rcases List.mem_append.mp hc with e | e
        · exact hlc c e
        · have := repN_mem m e; omega
      have s1 : Same H (upd H' p (.lst (l.map fun c => V.str (S [c])))) := sH.trans sp
      refine ⟨_, rfl, (by show 8 ≤ sizeLine; decide), fun p2 hp2 => ⟨p2, _, rfl, .inl (SqL.of upd_same), rfl, rfl, _, rfl, ?_⟩⟩
      have sp2 := same_new hp2 (.lst (KW.map V.str))
      have s2 := s1.trans sp2
      have hpb2 := sp2 _ _ (sp _ _ hpb')
      have hpn2 := sp2 _ _ (sp _ _ hpn')
      generalize hG : upd (upd H' p (.lst (l.map fun c => V.str (S [c])))) p2 (.lst (KW.map V.str)) = G at s2 hpb2 hpn2
      have hG' : upd (upd H' p (.lst (l.map fun c => V.str (S [c])))) p2 (.lst [V.str (Str.ofString "and"), V.str (Str.ofString "each"), V.str (Str.ofString "end"), V.str (Str.ofString "is"), V.str (Str.ofString "not"), V.str (Str.ofString "or"), V.str (Str.ofString "unless"), V.str (Str.ofString "when")]) = G := hG
      rw [hG']
      have fin : ∀ y : Str, nameB y = true → Same H (upd G pn (.lst (zs.map V.str ++ [.str y]))) ∧ upd G pn (.lst (zs.map V.str ++ [.str y])) pb = some (.lst (b.map V.int)) ∧ ∃ zs' : List Str, zs'.length = i + 1 ∧ (∀ z ∈ zs', nameB z = true) ∧ upd G pn (.lst (zs.map V.str ++ [.str y])) pn = some (.lst (zs'.map V.str)) := fun y hy => by
        refine ⟨fun x o ho => by rw [upd_ne (ne_of_none ho hpn0)]; exact s2 x o ho, ?_, zs ++ [y], by rw [List.length_append, hzl]; rfl, fun z hz => ?_, by rw [upd_same, List.map_append]; rfl⟩
        · have : pb ≠ pn := fun e => by rw [← e, upd_same] at hpn; cases hpn
          rw [upd_ne this]; exact hpb2
        · rcases List.mem_append.mp hz with e | e
          · exact hzn z e
          · rw [List.mem_singleton.mp e]; exact hy
      have hsz : (zs.map V.str).length < sizeLine := by
        have := small_of (n := 100) (m := 100) (Nat.le_refl _)
        rw [List.length_map]; omega
      show if (inV (.str (S L)) (KW.map V.str)) = true then _ else _
      rw [inV_strs]
      refine ite2 (fun c => ?_) (fun c => ?_)
      · have c' : S L ∈ KW := of_decide_eq_true c
        have hx := kw_x _ c'
        refine ⟨_, rfl, _, _, rfl, rfl, small_of (m := 100) (by have := kw_len _ c'; rw [show (Str.ofString "x").length = 1 by decide +kernel]; omega), ?_⟩
        obtain ⟨f1, f2, f3⟩ := fin _ hx
        exact ⟨_, rfl, Or.inl ⟨rfl, _, SqL.of hpn2⟩, _, rfl, pn, _, _, rfl, rfl, hpn2, hsz, ⟨_, _, rfl⟩, f1, f2, f3⟩
      · have hx : nameB (S L) = true := name_of ⟨by omega, by omega, hLc⟩ fun z => c (decide_eq_true z)
        obtain ⟨f1, f2, f3⟩ := fin _ hx
        exact ⟨_, rfl, Or.inl ⟨rfl, _, SqL.of hpn2⟩, _, rfl, pn, _, _, rfl, rfl, hpn2, hsz, ⟨_, _, rfl⟩, f1, f2, f3⟩
  · obtain ⟨⟨u, v, rfl⟩, sH, _, zs, hzl, hzn, hpn'⟩ := hp
    exact ⟨_, rfl, q pn zs _ hzl hzn sH hpn'⟩
end
end K18
set_option maxHeartbeats 4000000
namespace K18
open PySem L2
seal PE PT PW PA PS PSs PG PGs PI PO PSet OpR UnR CallR TruR IxR SlR PC PPs
local macro_rules | `(tactic| walk_at "rd1") => `(tactic| first
  | (refine And.intro rfl ?_)
  | (refine And.intro (by assumption) ?_)
  | (refine And.intro (fun _ e => e) ?_)
  | (refine And.intro (TyOf.str _) ?_) | (refine And.intro (TyOf.int _) ?_) | (refine And.intro (TyOf.bl _) ?_) | (refine And.intro TyOf.non ?_)
  | (refine iteT ?_) | (refine iteF ?_)
  | (apply Exists.intro))
local macro_rules | `(tactic| walk_at "rd") => `(tactic| repeat (walk_at "rd1"))

theorem ib_add7 {x : Int} {m : Nat} (h : ib x ≤ m) : ib (x + 7) ≤ m + 3 := by
  refine intBits_le_iff.mpr ?_
  have h1 : x.natAbs < 2 ^ m := intBits_le_iff.mp h
  have h2 : 0 < 2 ^ m := Nat.two_pow_pos m
  rw [Nat.pow_add]
  generalize 2 ^ m = y at h1 h2
  have : (2 : Nat) ^ 3 = 8 := by decide
  rw [this]
  omega
theorem ib_mul {a b : Int} {m k : Nat} (h : ib a ≤ m) (h' : ib b ≤ k) : ib (a * b) ≤ m + k := by
  refine intBits_le_iff.mpr ?_
  have h1 : a.natAbs < 2 ^ m := intBits_le_iff.mp h
  have h2 : b.natAbs < 2 ^ k := intBits_le_iff.mp h'
  rw [Int.natAbs_mul, Nat.pow_add]
  exact Nat.mul_lt_mul_of_lt_of_lt h1 h2
theorem ibc {x : Int} (h : x.natAbs < 2 ^ 256) : ib x ≤ 60000000 := Nat.le_trans (ib_big (m := 256) h) (by decide)
section
variable {P : Program} {w : World} {K : PySem.W.Frag} {mg : Str → Option Value} {base : Heap} {A : Adr}
theorem ok_law_number (T : Txt K mg A) : FnOk P w K mg base CX0 1 A.f_law_number A.d_law_number ["_law_cell"] spNumber := by
  refine T.F_law_number.ok sc_law_number (fun vs H Q E h => ?_) (fun cdv A0 outer s H vs Q E hr h => ?_)
  · obtain ⟨n, rfl, _⟩ := h
    rfl
  obtain ⟨n, rfl, hb, q⟩ := h
  refine ⟨_, (pss_cons (ps_if (pt_cmpR op_eq (pe_op op_mod (pv 0) pe_int) pe_int (nomark _)) (pss_one (ps_ret (pe_op op_sub (pe_op op_mod (pe_op op_fdiv (pv 0) pe_int) pe_int) pe_int))) pss_nil)
      (pss_cons (ps_if (pt_cmpR op_eq (pe_op op_mod (pv 0) pe_int) pe_int (nomark _)) (pss_one (ps_ret (pe_op op_sub (pe_op op_mod (pe_op op_mulB (pe_op op_fdiv (pv 0) pe_int) pe_int) (pe_op op_add (pe_op op_mulB pe_int (pe_op op_pow pe_int pe_int)) pe_int)) (pe_op op_pow pe_int pe_int)))) pss_nil)
      (pss_one (ps_ret (pe_op op_sub (pe_op op_mod (pe_op op_mulB (pe_op op_mulB (pe_op op_add (pe_op op_fdiv (pv 0) pe_int) pe_int) pe_int) (pe_op op_pow pe_int pe_int)) (pe_op op_add (pe_op op_mulB pe_int (pe_op op_pow pe_int pe_int)) pe_int)) (pe_op op_pow pe_int pe_int)))))), ?_⟩
  have hb3 : ib (n / 3) ≤ 1048600 := ib_div (by decide) hb
  have p60 : (1000 : Nat) < 10 ^ 60 := by decide +kernel
  refine ⟨_, rfl, _, _, rfl, rfl, (by show (0 : Int) < 3; decide), rfl, _, rfl, ite2 (fun _ => ?_) (fun _ => ?_)⟩
  · have r0 : 0 ≤ n / 3 % 25 := Int.emod_nonneg _ (by decide)
    have r1 : n / 3 % 25 < 25 := Int.emod_lt_of_pos _ (by decide)
    refine ⟨_, rfl, _, _, rfl, rfl, ⟨by decide, by decide⟩, _, _, rfl, rfl, (by show (0 : Int) < 25; decide), _, _, rfl, rfl, q _ ?_⟩
    show (n / 3 % 25 - 12).natAbs < 10 ^ 60
    omega
  refine ⟨_, rfl, _, _, rfl, rfl, (by show (0 : Int) < 3; decide), rfl, _, rfl, ite2 (fun _ => ?_) (fun _ => ?_)⟩
  · refine ⟨_, rfl, _, _, rfl, rfl, ⟨by decide, by decide⟩, _, _, rfl, rfl, ⟨Nat.le_trans hb3 (by decide), by decide⟩, ?_⟩
    refine ⟨_, _, rfl, rfl, ⟨by decide, by decide, by decide⟩, _, _, rfl, rfl, ⟨by decide, ibc (by decide +kernel)⟩, _, _, rfl, rfl, _, _, rfl, rfl, (by show (0 : Int) < 2 * 10 ^ (18 : Int).toNat + 1; decide +kernel), ?_⟩
    refine ⟨_, _, rfl, rfl, ⟨by decide, by decide, by decide⟩, _, _, rfl, rfl, q _ ?_⟩
    have r0 := Int.emod_nonneg (n / 3 * 69621) (b := 2 * 10 ^ (18 : Int).toNat + 1) (by decide +kernel)
    have r1 := Int.emod_lt_of_pos (n / 3 * 69621) (b := 2 * 10 ^ (18 : Int).toNat + 1) (by decide +kernel)
    show (n / 3 * 69621 % (2 * 10 ^ (18 : Int).toNat + 1) - 10 ^ (18 : Int).toNat).natAbs < 10 ^ 60
    have e18 : (10 : Int) ^ (18 : Int).toNat = 1000000000000000000 := by decide +kernel
    have b60 : (1000000000000000001 : Nat) < 10 ^ 60 := by decide +kernel
    rw [e18] at r0 r1 ⊢
    generalize n / 3 * 69621 % (2 * 1000000000000000000 + 1) = r at r0 r1
    omega
  · have h7 : ib (n / 3 + 7) ≤ 1048603 := ib_add7 hb3
    have h8 : ib ((n / 3 + 7) * 982451653) ≤ 60000000 := Nat.le_trans (ib_mul h7 (show ib (982451653 : Int) ≤ 64 from ib_small (by decide) (by decide))) (by decide)
    refine ⟨_, rfl, _, _, rfl, rfl, ⟨by decide, by decide⟩, _, _, rfl, rfl, _, _, rfl, rfl, ⟨Nat.le_trans h7 (by decide), by decide⟩, ?_⟩
    refine ⟨_, _, rfl, rfl, ⟨by decide, by decide, by decide⟩, _, _, rfl, rfl, ⟨h8, ibc (by decide +kernel)⟩, ?_⟩
    refine ⟨_, _, rfl, rfl, ⟨by decide, by decide, by decide⟩, _, _, rfl, rfl, ⟨by decide, ibc (by decide +kernel)⟩, _, _, rfl, rfl, _, _, rfl, rfl, (by show (0 : Int) < 2 * 10 ^ (59 : Int).toNat + 9; decide +kernel), ?_⟩
    refine ⟨_, _, rfl, rfl, ⟨by decide, by decide, by decide⟩, _, _, rfl, rfl, q _ ?_⟩
    have r0 := Int.emod_nonneg ((n / 3 + 7) * 982451653 * 10 ^ (42 : Int).toNat) (b := 2 * 10 ^ (59 : Int).toNat + 9) (by decide +kernel)
    have r1 := Int.emod_lt_of_pos ((n / 3 + 7) * 982451653 * 10 ^ (42 : Int).toNat) (b := 2 * 10 ^ (59 : Int).toNat + 9) (by decide +kernel)
    show ((n / 3 + 7) * 982451653 * 10 ^ (42 : Int).toNat % (2 * 10 ^ (59 : Int).toNat + 9) - 10 ^ (59 : Int).toNat).natAbs < 10 ^ 60
    generalize (n / 3 + 7) * 982451653 * 10 ^ (42 : Int).toNat % (2 * 10 ^ (59 : Int).toNat + 9) = r at r0 r1
    have hb1 : (10 : Int) ^ (59 : Int).toNat + 9 < ((10 ^ 60 : Nat) : Int) := by decide +kernel
    have hb2 : (0 : Int) < (10 : Int) ^ (59 : Int).toNat := by decide +kernel
    generalize (10 : Int) ^ (59 : Int).toNat = y at r1 hb1 hb2
    generalize (10 : Nat) ^ 60 = z at hb1
    omega
end
end K18

namespace K18
open PySem L2
seal PE PT PW PA PS PSs PG PGs PI PO PSet OpR UnR CallR TruR IxR SlR PC PPs
local macro_rules | `(tactic| walk_at "rd1") => `(tactic| first
  | (refine And.intro rfl ?_)
  | (refine And.intro (by assumption) ?_)
  | (refine And.intro (fun _ e => e) ?_)
  | (refine And.intro (TyOf.str _) ?_) | (refine And.intro (TyOf.int _) ?_) | (refine And.intro (TyOf.bl _) ?_) | (refine And.intro TyOf.non ?_)
  | (refine iteT ?_) | (refine iteF ?_)
  | (apply Exists.intro))
local macro_rules | `(tactic| walk_at "rd") => `(tactic| repeat (walk_at "rd1"))

/-! rows: a name, a number, a width, whether it is gone -/
abbrev Row := Str × Int × Int × Bool
def RR (K : PySem.W.Frag) (H : Hp) (x : V) (r : Row) : Prop := ∃ a, x = .ref a ∧ SqT K H a [.str r.1, .int r.2.1, .int r.2.2.1, .bl r.2.2.2]
abbrev RsR (K : PySem.W.Frag) (H : Hp) : List V → List Row → Prop := Paired (RR K H)
theorem RsR.same {K : PySem.W.Frag} {H H' : Hp} {xs : List V} {rs : List Row} (e : Same H H') (h : RsR K H xs rs) : RsR K H' xs rs := by
  induction h with
  | nil => exact .nil
  | cons a _ ih => obtain ⟨b, e1, e2⟩ := a; exact .cons ⟨b, e1, e.seqT e2⟩ ih
theorem RsR.len {K : PySem.W.Frag} {H : Hp} {xs : List V} {rs : List Row} (h : RsR K H xs rs) : xs.length = rs.length := by
  induction h with
  | nil => rfl
  | cons _ _ ih => rw [List.length_cons, List.length_cons, ih]
theorem RsR.at {K : PySem.W.Frag} {H : Hp} {xs : List V} {rs : List Row} (h : RsR K H xs rs) : ∀ {i : Nat} {x : V}, xs[i]? = some x → ∃ r, rs[i]? = some r ∧ RR K H x r := by
  induction h with
  | nil => intro i x e; simp at e
  | cons a _ ih =>
    intro i x e
    cases i with
    | zero => cases e; exact ⟨_, rfl, a⟩
    | succ j => exact ih e
theorem SqT.updL {K : PySem.W.Frag} {H : Hp} {a pl : Addr} {xs ys : List V} {o : HO} (h : SqT K H a xs) (hp : H pl = some (.lst ys)) : SqT K (upd H pl o) a xs := by
  rcases h with h | h
  · left
    rcases h with h | ⟨o', h⟩
    · exact .inl (by rw [upd_ne (ne_of h hp (by intro z; cases z))]; exact h)
    · exact .inr ⟨o', by rw [upd_ne (ne_of h hp (by intro z; cases z))]; exact h⟩
  · exact .inr h
theorem RsR.updL {K : PySem.W.Frag} {H : Hp} {pl : Addr} {xs ys : List V} {ps : List Row} {o : HO} (h : RsR K H xs ps) (hp : H pl = some (.lst ys)) : RsR K (upd H pl o) xs ps := by
  induction h with
  | nil => exact .nil
  | cons a _ ih => obtain ⟨b, e, hb⟩ := a; exact .cons ⟨b, e, SqT.updL hb hp⟩ ih
def RGood (r : Row) : Prop := nameB r.1 = true ∧ r.2.1.natAbs < 10 ^ 60 ∧ 0 ≤ r.2.2.1 ∧ r.2.2.1 ≤ 10 ^ 18
def spTable (K : PySem.W.Frag) : Sp := fun vs H Q _ => ∃ (a : Addr) (ns : List Int), vs = [.ref a] ∧ SqL K H a (ns.map V.int) ∧ (∀ n ∈ ns, ib n ≤ 1048576) ∧ ∀ (pr : Addr) (xs : List V) (rs : List Row) (H' : Hp), Same H H' → H' pr = some (.lst xs) → RsR K H' xs rs → rs.length = 5 → (∀ r ∈ rs, RGood r) → Q (.ref pr) H'
abbrev WL : List V := [.int 0, .int 1, .int 2, .int 5, .int (10 ^ (18 : Int).toNat)]
theorem wide_at {i : Int} (h0 : 0 ≤ i) (h1 : i < 5) : ∃ m : Int, atI WL i = some (.int m) ∧ 0 ≤ m ∧ m ≤ 10 ^ 18 := by
  obtain ⟨x, hx, hx2⟩ := at_some (l := WL) h0 h1
  have hm := List.mem_of_getElem? hx2
  have key : ∀ y ∈ WL, ∃ m : Int, y = .int m ∧ 0 ≤ m ∧ m ≤ 10 ^ 18 := by
    intro y hy
    simp only [WL, List.mem_cons, List.not_mem_nil, or_false] at hy
    rcases hy with rfl | rfl | rfl | rfl | rfl
    · exact ⟨_, rfl, by decide, by decide⟩
    · exact ⟨_, rfl, by decide, by decide⟩
    · exact ⟨_, rfl, by decide, by decide⟩
    · exact ⟨_, rfl, by decide, by decide⟩
    · exact ⟨_, rfl, by decide +kernel, by decide +kernel⟩
  obtain ⟨m, rfl, h2, h3⟩ := key x hm
  exact ⟨m, hx, h2, h3⟩
section
variable {P : Program} {w : World} {K : PySem.W.Frag} {mg : Str → Option Value} {base : Heap} {A : Adr}
theorem ok_law_table (T : Txt K mg A) : FnOk P w K mg base CX0 3 A.f_law_table A.d_law_table ["_law_script"] (spTable K) := by
  have G_law_cell_at := ok_law_cell_at (P := P) (w := w) (base := base) T
  have G_law_names := ok_law_names (P := P) (w := w) (base := base) T
  have G_law_number := ok_law_number (P := P) (w := w) (base := base) T
  refine T.F_law_table.ok sc_law_table (fun vs H Q E h => ?_) (fun cdv A0 outer s H vs Q E hr h => ?_)
  · obtain ⟨a, ns, rfl, _⟩ := h
    rfl
  obtain ⟨a, ns, rfl, hS, hb, q⟩ := h
  refine ⟨_, (pss_cons (ps_set (i := 1) sc_law_table.nd rfl (by first | exact Or.inl rfl | exact Or.inr rfl) (pe_call G_law_names (hr.mono (by first | decide | omega)) rfl T.m_law_names T.k_law_names T.b_law_names .nil pass0 (pa_cons (pv 0) pa_nil)))
      (pss_cons (ps_set (i := 2) sc_law_table.nd rfl (by first | exact Or.inl rfl | exact Or.inr rfl) (pe_lst pa_nil))
      (pss_cons (ps_forR PassesOwn.never rfl (pi_range1 rfl T.n_range (pa_cons pe_int pa_nil)) (pg_name (i := 3) sc_law_table.nd rfl (by first | exact Or.inl rfl | exact Or.inr rfl)) (pss_cons (ps_set (i := 4) sc_law_table.nd rfl (by first | exact Or.inl rfl | exact Or.inr rfl) (pe_call G_law_cell_at (hr.mono (by first | decide | omega)) rfl T.m_law_cell_at T.k_law_cell_at T.b_law_cell_at .nil pass0 (pa_cons (pv 0) (pa_cons (pe_op op_add pe_int (pv 3)) pa_nil))))
      (pss_cons (ps_set (i := 5) sc_law_table.nd rfl (by first | exact Or.inl rfl | exact Or.inr rfl) (pe_call G_law_number (hr.mono (by first | decide | omega)) rfl T.m_law_number T.k_law_number T.b_law_number .nil pass0 (pa_cons (pe_op op_fdiv (pv 4) pe_int) pa_nil)))
      (pss_cons (ps_if (pt_cmpR op_eq (pe_op op_mod (pv 4) pe_int) pe_int (nomark _)) (pss_one (ps_set (i := 5) sc_law_table.nd rfl (by first | exact Or.inl rfl | exact Or.inr rfl) (pe_op op_mod (pe_op op_fdiv (pv 4) pe_int) pe_int))) pss_nil)
      (pss_one (ps_expr (pe_bm PySem.F.plainAttrs_list PySem.F.slot_list_append PySem.F.type_list_append mt_append (pv 2) (pa_cons (pe_tup (pa_cons (pe_ix ix_list (pv 1) (pv 3) (fun _ _ => rfl)) (pa_cons (pv 5) (pa_cons (pe_ix ix_list (pe_lst (pa_cons pe_int (pa_cons pe_int (pa_cons pe_int (pa_cons pe_int (pa_cons (pe_op op_pow pe_int pe_int) pa_nil)))))) (pe_op op_mod (pe_op op_fdiv (pv 4) pe_int) pe_int) (fun _ _ => rfl)) (pa_cons (pe_cmpR op_eq (pe_op op_mod (pv 4) pe_int) pe_int (nomark _)) pa_nil))))) pa_nil))))))))
      (pss_one (ps_ret (pv 2)))))), ?_⟩
  refine ⟨_, rfl, a, ns, rfl, hS, hb, fun pn zs H1 hzl hzn s1 hpn => ?_⟩
  refine ⟨(by show 0 ≤ sizeLine; decide), fun pr hpr => ?_⟩
  have sr := same_new hpr (.lst [])
  refine ⟨5, rfl, by decide, by decide, ?_⟩
  refine for_rangeR (fun i σ H' => Same H1 H' ∧ (∃ u v w', σ = [some (.ref a), some (.ref pn), some (.ref pr), u, v, w']) ∧ ∃ (xs : List V) (rs : List Row), H' pr = some (.lst xs) ∧ RsR K H' xs rs ∧ rs.length = i ∧ ∀ r ∈ rs, RGood r) ⟨sr, ⟨_, _, _, rfl⟩, [], [], upd_same, .nil, rfl, fun r hr => by cases hr⟩ (fun i σ H' hi hw => ?_) (fun σ H' hw => ?_)
  · obtain ⟨sH, ⟨u, v, w', rfl⟩, xs, rs, e1, hrs, hl, hg⟩ := hw
    have hi5 : i < 5 := hi
    obtain ⟨z, hz⟩ : ∃ z, zs[i]? = some z := ⟨_, List.getElem?_eq_getElem (by omega)⟩
    have hzn' := hzn z (List.mem_of_getElem? hz)
    have hat : atI (zs.map V.str) (0 + (i : Int)) = some (.str z) := by rw [Int.zero_add]; exact atI_nat (by rw [List.getElem?_map, hz]; rfl)
    refine ⟨_, rfl, _, rfl, _, _, rfl, rfl, a, ns, _, rfl, (s1.trans sH).seq hS, (by show 0 ≤ 2 + (0 + (i : Int)); omega), hb, fun c hc => ?_⟩
    refine ⟨_, rfl, _, _, rfl, rfl, ⟨by decide, by decide⟩, _, rfl, Nat.le_trans (ib_div (by decide) hc) (by decide), fun m hm => ?_⟩
    dsimp only [gName]
    refine seq_mid (fun σ' G => H' = G ∧ ∃ b : Int, σ' = [some (.ref a), some (.ref pn), some (.ref pr), some (.int (0 + (i : Int))), some (.int c), some (.int b)] ∧ b.natAbs < 10 ^ 60) ?kk ?mm
    case mm =>
      intro key
      refine ⟨_, rfl, _, _, rfl, rfl, (by show (0 : Int) < 4; decide), rfl, _, rfl, ite2 (fun d => ?_) (fun d => ?_)⟩
      · refine ⟨_, rfl, _, _, rfl, rfl, ⟨by decide, by decide⟩, _, _, rfl, rfl, (by show (0 : Int) < 6; decide), key _ _ ⟨rfl, _, rfl, ?_⟩⟩
        have r0 : 0 ≤ c / 4 % 6 := Int.emod_nonneg _ (by decide)
        have r1 : c / 4 % 6 < 6 := Int.emod_lt_of_pos _ (by decide)
        have p60 : (1000 : Nat) < 10 ^ 60 := by decide +kernel
        show (c / 4 % 6).natAbs < 10 ^ 60
        omega
      · exact key _ _ ⟨rfl, m, rfl, hm⟩
    case kk =>
    rintro σ' G ⟨rfl, b, rfl, hb60⟩
    obtain ⟨wd, hw1, hw2, hw3⟩ := wide_at (i := c / 3 % 5) (Int.emod_nonneg _ (by decide)) (Int.emod_lt_of_pos _ (by decide))
    refine ⟨_, rfl, Or.inl ⟨rfl, _, SqL.of e1⟩, _, rfl, _, rfl, pn, _, _, _, rfl, rfl, SqL.of (sH _ _ hpn), hat, _, rfl, _, _, rfl, rfl, ⟨by decide, by decide, by decide⟩, (by show 5 ≤ sizeLine; decide), fun pq hpq => ?_⟩
    have sq := same_new hpq (.lst WL)
    refine ⟨_, rfl, _, _, rfl, rfl, ⟨by decide, by decide⟩, _, _, rfl, rfl, (by show (0 : Int) < 5; decide), pq, _, _, _, rfl, rfl, SqL.of upd_same, hw1, ?_⟩
    refine ⟨_, rfl, _, _, rfl, rfl, (by show (0 : Int) < 7; decide), rfl, (by show 4 ≤ sizeLine; decide), fun t ht => ?_⟩
    generalize hgn : decide (V.int (c % 7) = V.int 5) = gn
    dsimp only at ht ⊢
    have hgn' : decide ((fun i j => V.int (i % j)) c 7 = V.int 5) = gn := hgn
    have st := same_new ht (.tup [.str z, .int b, .int wd, .bl gn])
    have e3 := st _ _ (sq _ _ e1)
    refine ⟨pr, _, _, rfl, rfl, e3, ?_, ?_, ⟨_, _, _, rfl⟩, xs ++ [.ref t], rs ++ [(z, b, wd, gn)], upd_same, ?_, ?_, ?_⟩
    · have := small_of (n := 100) (m := 100) (Nat.le_refl _)
      rw [hrs.len]; omega
    · intro b' o hb'
      rw [upd_ne (ne_of_none hb' hpr)]; exact st _ _ (sq _ _ (sH _ _ hb'))
    · exact paired_app (RsR.updL (hrs.same (sq.trans st)) e3) (.cons ⟨t, rfl, SqT.updL (SqT.of upd_same) e3⟩ .nil)
    · rw [List.length_append, hl]; rfl
    · intro r hr
      rcases List.mem_append.mp hr with e | e
      · exact hg r e
      · rw [List.mem_singleton.mp e]; exact ⟨hzn', hb60, hw2, hw3⟩
  · obtain ⟨sH, ⟨u, v, w', rfl⟩, xs, rs, e1, hrs, hl, hg⟩ := hw
    exact ⟨_, rfl, q pr xs rs _ (s1.trans sH) e1 hrs hl hg⟩
end
end K18
set_option maxHeartbeats 4000000
namespace K18
open PySem L2
seal PE PT PW PA PS PSs PG PGs PI PO PSet OpR UnR CallR TruR IxR SlR PC PPs
local macro_rules | `(tactic| walk_at "rd1") => `(tactic| first
  | (refine And.intro rfl ?_)
  | (refine And.intro (by assumption) ?_)
  | (refine And.intro (fun _ e => e) ?_)
  | (refine And.intro (TyOf.str _) ?_) | (refine And.intro (TyOf.int _) ?_) | (refine And.intro (TyOf.bl _) ?_) | (refine And.intro TyOf.non ?_)
  | (refine iteT ?_) | (refine iteF ?_)
  | (apply Exists.intro))
local macro_rules | `(tactic| walk_at "rd") => `(tactic| repeat (walk_at "rd1"))

def pIs (zs : List Str) (n : Str) (v : V) : Prop := n ∈ zs ∧ ∃ k : Int, v = .int k ∧ 0 ≤ k ∧ k < 6
def pCmp (zs : List Str) (n h : Str) (m : Int) : Prop := n ∈ zs ∧ (h = "<" ∨ h = "=" ∨ h = ">") ∧ m.natAbs < 10 ^ 61
def ArgR (K : PySem.W.Frag) (H : Hp) (x : V) (zs : List Str) : Prop := ∃ (pr : Addr) (xs : List V) (rs : List Row), x = .ref pr ∧ H pr = some (.lst xs) ∧ RsR K H xs rs ∧ rs.length = 5 ∧ (∀ r ∈ rs, RGood r) ∧ zs = rs.map (·.1)
theorem ArgR.same {K : PySem.W.Frag} {H H' : Hp} {x : V} {zs : List Str} (h : ArgR K H x zs) (s : Same H H') : ArgR K H' x zs := let ⟨pr, xs, rs, a, b, c, d⟩ := h; ⟨pr, xs, rs, a, s _ _ b, c.same s, d⟩
end K18
namespace K18
open PySem L2
seal PE PT PW PA PS PSs PG PGs PI PO PSet OpR UnR CallR TruR IxR SlR PC PPs
local macro_rules | `(tactic| walk_at "rd1") => `(tactic| first
  | (refine And.intro rfl ?_)
  | (refine And.intro (by assumption) ?_)
  | (refine And.intro (fun _ e => e) ?_)
  | (refine And.intro (TyOf.str _) ?_) | (refine And.intro (TyOf.int _) ?_) | (refine And.intro (TyOf.bl _) ?_) | (refine And.intro TyOf.non ?_)
  | (refine iteT ?_) | (refine iteF ?_)
  | (apply Exists.intro))
local macro_rules | `(tactic| walk_at "rd") => `(tactic| repeat (walk_at "rd1"))

/-! trees of sayings, as tuples -/
inductive Tr where
  | is (n : Str) (v : V)
  | cmp (n h : Str) (m : Int)
  | neg (t : Tr)
  | two (o : Bool) (s t : Tr)
def hw (o : Bool) : Str := if o = true then "or" else "and"
def Tr.depth : Tr → Nat
  | .is _ _ => 1
  | .cmp _ _ _ => 1
  | .neg t => t.depth + 1
  | .two _ s t => 1 + max s.depth t.depth
def Tr.size : Tr → Nat
  | .is _ _ => 1
  | .cmp _ _ _ => 1
  | .neg t => t.size
  | .two _ s t => s.size + t.size
def Tr.Ok (zs : List Str) : Tr → Prop
  | .is n v => pIs zs n v
  | .cmp n h m => pCmp zs n h m
  | .neg t => t.Ok zs
  | .two _ s t => s.Ok zs ∧ t.Ok zs
theorem Tr.size_pos : ∀ t : Tr, 1 ≤ t.size
  | .is _ _ => Nat.le_refl _
  | .cmp _ _ _ => Nat.le_refl _
  | .neg t => Tr.size_pos t
  | .two _ s t => Nat.le_trans (Tr.size_pos s) (Nat.le_add_right _ _)
theorem Tr.depth_pos : ∀ t : Tr, 1 ≤ t.depth
  | .is _ _ => Nat.le_refl _
  | .cmp _ _ _ => Nat.le_refl _
  | .neg t => Nat.le_add_left _ _
  | .two _ s t => Nat.le_add_right _ _
def TrR (K : PySem.W.Frag) (H : Hp) : Tr → V → Prop
  | .is n v, x => ∃ a, x = .ref a ∧ SqT K H a [.str "is", .str n, v]
  | .cmp n h m, x => ∃ a, x = .ref a ∧ SqT K H a [.str "compare", .str n, .str h, .int m]
  | .neg t, x => ∃ a y, x = .ref a ∧ SqT K H a [.str "not", y] ∧ TrR K H t y
  | .two o s t, x => ∃ a y z, x = .ref a ∧ SqT K H a [.str (hw o), y, z] ∧ TrR K H s y ∧ TrR K H t z
/-- all but lists is kept -/
def KT (H H' : Hp) : Prop := ∀ b o, H b = some o → (∀ xs, o ≠ .lst xs) → H' b = some o
theorem KT.of {H H' : Hp} (s : Same H H') : KT H H' := fun b o e _ => s b o e
theorem KT.trans {H H1 H2 : Hp} (a : KT H H1) (b : KT H1 H2) : KT H H2 := fun c o e n => b c o (a c o e n) n
theorem KT.upd {H : Hp} {pl : Addr} {xs : List V} {o : HO} (h : H pl = some (.lst xs)) : KT H (upd H pl o) := fun b u e n => by
  rw [upd_ne (fun z => by rw [z, h] at e; cases e; exact n _ rfl)]; exact e
theorem KT.sqT {K : PySem.W.Frag} {H H' : Hp} {a : Addr} {xs : List V} (s : KT H H') (h : SqT K H a xs) : SqT K H' a xs := by
  rcases h with (h | ⟨o, h⟩) | h
  · exact .inl (.inl (s _ _ h (by intro _ z; cases z)))
  · exact .inl (.inr ⟨o, s _ _ h (by intro _ z; cases z)⟩)
  · exact .inr h
theorem KT.tr {K : PySem.W.Frag} {H H' : Hp} (s : KT H H') : ∀ {t : Tr} {x : V}, TrR K H t x → TrR K H' t x
  | .is _ _, _, ⟨a, e, h⟩ => ⟨a, e, s.sqT h⟩
  | .cmp _ _ _, _, ⟨a, e, h⟩ => ⟨a, e, s.sqT h⟩
  | .neg _, _, ⟨a, y, e, h, k⟩ => ⟨a, y, e, s.sqT h, s.tr k⟩
  | .two _ _ _, _, ⟨a, y, z, e, h, k, l⟩ => ⟨a, y, z, e, s.sqT h, s.tr k, s.tr l⟩
def SR (K : PySem.W.Frag) (H : Hp) (x : V) (t : Tr) : Prop := ∃ a y, x = .ref a ∧ SqT K H a [y, .int (t.depth : Nat)] ∧ TrR K H t y
abbrev StR (K : PySem.W.Frag) (H : Hp) : List V → List Tr → Prop := Paired (SR K H)
theorem KT.st {K : PySem.W.Frag} {H H' : Hp} {xs : List V} {ts : List Tr} (s : KT H H') (h : StR K H xs ts) : StR K H' xs ts := by
  induction h with
  | nil => exact .nil
  | cons a _ ih => obtain ⟨b, y, e, h1, h2⟩ := a; exact .cons ⟨b, y, e, s.sqT h1, s.tr h2⟩ ih
theorem StR.len {K : PySem.W.Frag} {H : Hp} {xs : List V} {ts : List Tr} (h : StR K H xs ts) : xs.length = ts.length := by
  induction h with
  | nil => rfl
  | cons _ _ ih => rw [List.length_cons, List.length_cons, ih]
theorem paired_split {α β : Type} {R : α → β → Prop} : ∀ {us vs : List β} {xs : List α}, Paired R xs (us ++ vs) → ∃ x1 x2, xs = x1 ++ x2 ∧ Paired R x1 us ∧ Paired R x2 vs
  | [], vs, xs, h => ⟨[], xs, rfl, .nil, h⟩
  | u :: us, vs, _, .cons r h => let ⟨x1, x2, e, h1, h2⟩ := paired_split h; ⟨_ :: x1, x2, by rw [e]; rfl, .cons r h1, h2⟩
theorem StR.one {K : PySem.W.Frag} {H : Hp} {xs : List V} {ts : List Tr} {t : Tr} (h : StR K H xs (ts ++ [t])) : ∃ x0 x, xs = x0 ++ [x] ∧ StR K H x0 ts ∧ SR K H x t := by
  obtain ⟨x1, x2, e, h1, h2⟩ := paired_split h
  cases h2 with
  | cons r h3 => cases h3; exact ⟨x1, _, e, h1, r⟩
theorem StR.two {K : PySem.W.Frag} {H : Hp} {xs : List V} {ts : List Tr} {t1 t2 : Tr} (h : StR K H xs (ts ++ [t1, t2])) : ∃ x0 x1 x2, xs = x0 ++ [x1, x2] ∧ StR K H x0 ts ∧ SR K H x1 t1 ∧ SR K H x2 t2 := by
  obtain ⟨y1, y2, e, h1, h2⟩ := paired_split h
  cases h2 with
  | cons r h3 => cases h3 with | cons r' h4 => cases h4; exact ⟨y1, _, _, e, h1, r, r'⟩
theorem at_m1 {x0 : List V} {x : V} : atI (x0 ++ [x]) (-(1 : Int)) = some x := by
  unfold atI ixN
  rw [if_neg (by decide), if_pos (by rw [List.length_append]; show -(((x0.length + 1 : Nat)) : Int) ≤ -1; omega)]
  show (x0 ++ [x])[(-1 + ((x0 ++ [x]).length : Int)).toNat]? = _
  rw [show (-1 + ((x0 ++ [x]).length : Int)).toNat = x0.length by rw [List.length_append]; show (-1 + (((x0.length + 1 : Nat)) : Int)).toNat = _; omega]
  simp
theorem at_m2 {x0 : List V} {x y : V} : atI (x0 ++ [x, y]) (-(2 : Int)) = some x := by
  unfold atI ixN
  rw [if_neg (by decide), if_pos (by rw [List.length_append]; show -(((x0.length + 2 : Nat)) : Int) ≤ -2; omega)]
  show (x0 ++ [x, y])[(-2 + ((x0 ++ [x, y]).length : Int)).toNat]? = _
  rw [show (-2 + ((x0 ++ [x, y]).length : Int)).toNat = x0.length by rw [List.length_append]; show (-2 + (((x0.length + 2 : Nat)) : Int)).toNat = _; omega]
  simp
theorem at_m1' {x0 : List V} {x y : V} : atI (x0 ++ [x, y]) (-(1 : Int)) = some y := by
  rw [show x0 ++ [x, y] = (x0 ++ [x]) ++ [y] by simp]; exact at_m1
theorem split1 {α : Type} {l : List α} (h : l ≠ []) : ∃ l0 a, l = l0 ++ [a] := ⟨l.dropLast, l.getLast h, (List.dropLast_concat_getLast h).symm⟩
theorem split2 {α : Type} {l : List α} (h : 1 < l.length) : ∃ l0 a b, l = l0 ++ [a, b] := by
  obtain ⟨l1, b, rfl⟩ := split1 (l := l) (fun e => by rw [e] at h; simp at h)
  obtain ⟨l0, a, rfl⟩ := split1 (l := l1) (fun e => by rw [e] at h; simp at h)
  exact ⟨l0, a, b, by simp⟩
def spAtom (K : PySem.W.Frag) : Sp := fun vs H Q _ => ∃ (c : Int) (x : V) (zs : List Str), vs = [.int c, x] ∧ ib c ≤ 1048576 ∧ ArgR K H x zs ∧ ∀ y t H', Same H H' → TrR K H' t y → t.Ok zs → t.depth = 1 → t.size = 1 → Q y H'
def spJoined (K : PySem.W.Frag) : Sp := fun vs H Q _ => ∃ (pl : Addr) (o : Bool) (xs : List V) (ts : List Tr) (t1 t2 : Tr), vs = [.ref pl, .str (hw o)] ∧ H pl = some (.lst xs) ∧ StR K H xs (ts ++ [t1, t2]) ∧ ts.length ≤ 100 ∧
  ∀ H' xs', (∀ b o, b ≠ pl → H b = some o → H' b = some o) → H' pl = some (.lst xs') → StR K H' xs' (ts ++ [.two o t1 t2]) → Q .non H'
def spTree (K : PySem.W.Frag) : Sp := fun vs H Q _ => ∃ (pc : Addr) (ms : List Int) (x : V) (zs : List Str), vs = [.ref pc, x] ∧ SqL K H pc (ms.map V.int) ∧ (∀ n ∈ ms, ib n ≤ 1048576) ∧ ms.length ≤ 1000 ∧ ArgR K H x zs ∧ ∀ y t H', Same H H' → TrR K H' t y → t.Ok zs → t.depth ≤ 8 → t.size ≤ 16 → Q y H'
section
variable {P : Program} {w : World} {K : PySem.W.Frag} {mg : Str → Option Value} {base : Heap} {A : Adr}
theorem ok_law_joined (T : Txt K mg A) : FnOk P w K mg base CX0 1 A.f_law_joined A.d_law_joined ["_law_stack", "_law_how"] (spJoined K) := by
  refine T.F_law_joined.ok sc_law_joined (fun vs H Q E h => ?_) (fun cdv A0 outer s H vs Q E hr h => ?_)
  · obtain ⟨pl, o, xs, ts, t1, t2, rfl, _⟩ := h
    rfl
  obtain ⟨pl, o, xs, ts, t1, t2, rfl, hpl, hst, hl, q⟩ := h
  refine ⟨_, (pss_cons (ps_set (i := 2) sc_law_joined.nd rfl (by first | exact Or.inl rfl | exact Or.inr rfl) (pe_bm0 PySem.F.plainAttrs_list PySem.F.slot_list_pop PySem.F.type_list_pop mt_pop (pv 0)))
      (pss_cons (ps_set (i := 3) sc_law_joined.nd rfl (by first | exact Or.inl rfl | exact Or.inr rfl) (pe_bm0 PySem.F.plainAttrs_list PySem.F.slot_list_pop PySem.F.type_list_pop mt_pop (pv 0)))
      (pss_one (ps_expr (pe_bm PySem.F.plainAttrs_list PySem.F.slot_list_append PySem.F.type_list_append mt_append (pv 0) (pa_cons (pe_tup (pa_cons (pe_tup (pa_cons (pv 1) (pa_cons (pe_ix ix_tup (pv 3) pe_int (fun _ _ => rfl)) (pa_cons (pe_ix ix_tup (pv 2) pe_int (fun _ _ => rfl)) pa_nil)))) (pa_cons (pe_op op_add pe_int (pe_callB (call_max2 rfl) (by rfl) T.n_max PyProof.Rows.boot_max (pa_cons (pe_ix ix_tup (pv 3) pe_int (fun _ _ => rfl)) (pa_cons (pe_ix ix_tup (pv 2) pe_int (fun _ _ => rfl)) pa_nil)))) pa_nil))) pa_nil)))))), ?_⟩
  obtain ⟨x0, x1, x2, rfl, h0, ⟨a1, y1, rfl, k1, r1⟩, ⟨a2, y2, rfl, k2, r2⟩⟩ := hst.two
  have g2 : ((x0 ++ [V.ref a1, V.ref a2]))[(x0 ++ [V.ref a1, V.ref a2]).length - 1]? = some (V.ref a2) := by simp
  have d2 : (x0 ++ [V.ref a1, V.ref a2]).dropLast = x0 ++ [V.ref a1] := by
    rw [show x0 ++ [V.ref a1, V.ref a2] = (x0 ++ [V.ref a1]) ++ [V.ref a2] by simp]; exact List.dropLast_concat
  refine ⟨_, rfl, Or.inl ⟨rfl, _, SqL.of hpl⟩, pl, _, _, rfl, rfl, hpl, g2, ?_⟩
  rw [d2]
  have kA : KT H (upd H pl (.lst (x0 ++ [V.ref a1]))) := KT.upd hpl
  have g1 : (x0 ++ [V.ref a1])[(x0 ++ [V.ref a1]).length - 1]? = some (V.ref a1) := by simp
  refine ⟨_, rfl, Or.inl ⟨rfl, _, SqL.of upd_same⟩, pl, _, _, rfl, rfl, upd_same, g1, ?_⟩
  rw [List.dropLast_concat, upd_upd]
  have kB : KT H (upd H pl (.lst x0)) := KT.upd hpl
  have b10 : atI [y1, V.int (t1.depth : Nat)] ((0 : Nat) : Int) = some y1 := atI_nat rfl
  have b11 : atI [y1, V.int (t1.depth : Nat)] ((1 : Nat) : Int) = some (.int (t1.depth : Nat)) := atI_nat rfl
  have b20 : atI [y2, V.int (t2.depth : Nat)] ((0 : Nat) : Int) = some y2 := atI_nat rfl
  have b21 : atI [y2, V.int (t2.depth : Nat)] ((1 : Nat) : Int) = some (.int (t2.depth : Nat)) := atI_nat rfl
  refine ⟨_, rfl, Or.inl ⟨rfl, _, SqL.of upd_same⟩, _, rfl, _, rfl, a1, _, _, _, rfl, rfl, kB.sqT k1, b10, _, rfl, a2, _, _, _, rfl, rfl, kB.sqT k2, b20, (by show 3 ≤ sizeLine; decide), fun pt hpt => ?_⟩
  have s1 := same_new hpt (.tup [.str (hw o), y1, y2])
  have kC := kB.trans (KT.of s1)
  refine ⟨_, rfl, a1, _, _, _, rfl, rfl, kC.sqT k1, b11, _, rfl, a2, _, _, _, rfl, rfl, kC.sqT k2, b21, _, _, rfl, _, _, rfl, rfl, (by show 2 ≤ sizeLine; decide), fun pu hpu => ?_⟩
  have em : (1 : Int) + (if ((t2.depth : Nat) : Int) > ((t1.depth : Nat) : Int) then ((t2.depth : Nat) : Int) else ((t1.depth : Nat) : Int)) = (((Tr.two o t1 t2).depth : Nat) : Int) := by
    show _ = ((1 + max t1.depth t2.depth : Nat) : Int)
    rw [Nat.max_def]
    split <;> split <;> omega
  dsimp only at hpu ⊢
  rw [em]
  have s2 := same_new hpu (.tup [.ref pt, .int (((Tr.two o t1 t2).depth : Nat) : Int)])
  have e3 := s2 _ _ (s1 _ _ (upd_same (H := H) (a := pl) (o := .lst x0)))
  have kD := kC.trans (KT.of s2)
  have kE := kD.trans (KT.upd (o := .lst (x0 ++ [V.ref pu])) e3)
  refine ⟨pl, _, _, rfl, rfl, e3, ?_, ?_⟩
  · have := small_of (n := 1000) (m := 1000) (Nat.le_refl _)
    rw [h0.len]; omega
  refine q _ _ (fun b u hb e => ?_) upd_same (paired_app (kE.st h0) (.cons ⟨pu, .ref pt, rfl, ?_, pt, y1, y2, rfl, ?_, kE.tr r1, kE.tr r2⟩ .nil))
  · rw [upd_ne hb]
    have e' : upd H pl (.lst x0) b = some u := by rw [upd_ne hb]; exact e
    exact s2 _ _ (s1 _ _ e')
  · exact (KT.upd e3).sqT (SqT.of upd_same)
  · exact ((KT.of s2).trans (KT.upd e3)).sqT (SqT.of upd_same)
end
end K18
set_option maxHeartbeats 4000000
namespace K18
open PySem L2
seal PE PT PW PA PS PSs PG PGs PI PO PSet OpR UnR CallR TruR IxR SlR PC PPs
local macro_rules | `(tactic| walk_at "rd1") => `(tactic| first
  | (refine And.intro rfl ?_)
  | (refine And.intro (by assumption) ?_)
  | (refine And.intro (fun _ e => e) ?_)
  | (refine And.intro (TyOf.str _) ?_) | (refine And.intro (TyOf.int _) ?_) | (refine And.intro (TyOf.bl _) ?_) | (refine And.intro TyOf.non ?_)
  | (refine iteT ?_) | (refine iteF ?_)
  | (apply Exists.intro))
local macro_rules | `(tactic| walk_at "rd") => `(tactic| repeat (walk_at "rd1"))

section
variable {P : Program} {w : World} {K : PySem.W.Frag} {mg : Str → Option Value} {base : Heap} {A : Adr}
theorem add_at {b wd : Int} {i : Int} (hb : b.natAbs < 10 ^ 60) (h0 : 0 ≤ wd) (h18 : wd ≤ 10 ^ 18) (i0 : 0 ≤ i) (i1 : i < 8) : ∃ m : Int, atI [V.int (-1), .int 0, .int 1, .int wd, .int (wd + 1), .int (wd / 2), .int 3, .int (-4)] i = some (.int m) ∧ (b + m).natAbs < 10 ^ 61 := by
  obtain ⟨x, hx, hx2⟩ := at_some (l := [V.int (-1), .int 0, .int 1, .int wd, .int (wd + 1), .int (wd / 2), .int 3, .int (-4)]) i0 i1
  have hm := List.mem_of_getElem? hx2
  have p : (10 : Nat) ^ 60 + (1000000000000000000 + 10) < 10 ^ 61 := by decide +kernel
  have e18 : (10 : Int) ^ 18 = 1000000000000000000 := by decide +kernel
  rw [e18] at h18
  generalize (10 : Nat) ^ 60 = y60 at hb p
  generalize (10 : Nat) ^ 61 = y61 at p
  simp only [List.mem_cons, List.not_mem_nil, or_false] at hm
  rcases hm with rfl | rfl | rfl | rfl | rfl | rfl | rfl | rfl
  all_goals (refine ⟨_, hx, ?_⟩; omega)
theorem ok_law_atom (T : Txt K mg A) : FnOk P w K mg base CX0 1 A.f_law_atom A.d_law_atom ["_law_cell", "_law_rows"] (spAtom K) := by
  refine T.F_law_atom.ok sc_law_atom (fun vs H Q E h => ?_) (fun cdv A0 outer s H vs Q E hr h => ?_)
  · obtain ⟨c, x, zs, rfl, _⟩ := h
    rfl
  obtain ⟨c, x, zs, rfl, hb, ⟨pr, xs, rs, rfl, hpr, hrs, hl5, hg, rfl⟩, q⟩ := h
  refine ⟨_, (pss_cons (ps_asg (pe_ix ix_list (pv 1) (pe_op op_mod (pv 0) pe_int) (fun _ _ => rfl)) (pg_tup rfl (pgs_cons (pg_name (i := 2) sc_law_atom.nd rfl (by first | exact Or.inl rfl | exact Or.inr rfl)) (pgs_cons (pg_name (i := 3) sc_law_atom.nd rfl (by first | exact Or.inl rfl | exact Or.inr rfl)) (pgs_cons (pg_name (i := 4) sc_law_atom.nd rfl (by first | exact Or.inl rfl | exact Or.inr rfl)) (pgs_cons (pg_name (i := 5) sc_law_atom.nd rfl (by first | exact Or.inl rfl | exact Or.inr rfl)) pgs_nil))))))
      (pss_cons (ps_if (pt_cmpR op_eq (pe_op op_mod (pe_op op_fdiv (pv 0) pe_int) pe_int) pe_int (nomark _)) (pss_one (ps_ret (pe_tup (pa_cons pe_str (pa_cons (pv 2) (pa_cons (pe_op op_mod (pe_op op_fdiv (pv 0) pe_int) pe_int) pa_nil)))))) pss_nil)
      (pss_cons (ps_set (i := 6) sc_law_atom.nd rfl (by first | exact Or.inl rfl | exact Or.inr rfl) (pe_op op_add (pv 3) (pe_ix ix_list (pe_lst (pa_cons (pe_un un_neg pe_int) (pa_cons pe_int (pa_cons pe_int (pa_cons (pv 4) (pa_cons (pe_op op_add (pv 4) pe_int) (pa_cons (pe_op op_fdiv (pv 4) pe_int) (pa_cons pe_int (pa_cons (pe_un un_neg pe_int) pa_nil))))))))) (pe_op op_mod (pe_op op_fdiv (pv 0) pe_int) pe_int) (fun _ _ => rfl))))
      (pss_one (ps_ret (pe_tup (pa_cons pe_str (pa_cons (pv 2) (pa_cons (pe_ix ix_list (pe_lst (pa_cons pe_str (pa_cons pe_str (pa_cons pe_str pa_nil)))) (pe_op op_sub (pe_op op_mod (pe_op op_fdiv (pv 0) pe_int) pe_int) pe_int) (fun _ _ => rfl)) (pa_cons (pv 6) pa_nil)))))))))), ?_⟩
  have i0 : 0 ≤ c % 5 := Int.emod_nonneg _ (by decide)
  have i1 : c % 5 < 5 := Int.emod_lt_of_pos _ (by decide)
  obtain ⟨y, hy1, hy2⟩ := at_some (l := xs) i0 (by rw [hrs.len, hl5]; exact i1)
  obtain ⟨⟨n, b, wd, g⟩, hri, a, rfl, ha⟩ := hrs.at hy2
  have hmem := List.mem_of_getElem? hri
  obtain ⟨g1, g2, g3, g4⟩ := hg _ hmem
  have hn : n ∈ rs.map (·.1) := List.mem_map.mpr ⟨_, hmem, rfl⟩
  refine ⟨_, rfl, _, rfl, _, _, rfl, rfl, (by show (0 : Int) < 5; decide), pr, _, _, _, rfl, rfl, SqL.of hpr, hy1, a, _, rfl, ha, rfl, _, _, rfl, _, _, rfl, _, _, rfl, _, _, rfl, rfl, ?_⟩
  have j0 : 0 ≤ c / 5 % 4 := Int.emod_nonneg _ (by decide)
  have j1 : c / 5 % 4 < 4 := Int.emod_lt_of_pos _ (by decide)
  refine ⟨_, rfl, _, _, rfl, rfl, ⟨by decide, by decide⟩, _, _, rfl, rfl, (by show (0 : Int) < 4; decide), rfl, _, rfl, ite2 (fun _ => ?_) (fun d => ?_)⟩
  · refine ⟨_, rfl, _, rfl, _, _, rfl, rfl, ⟨by decide, by decide⟩, _, _, rfl, rfl, (by show (0 : Int) < 6; decide), (by show 3 ≤ sizeLine; decide), fun t ht => ?_⟩
    exact q _ (.is n (.int (c / 20 % 6))) _ (same_new ht _) ⟨t, rfl, SqT.of upd_same⟩ ⟨hn, _, rfl, Int.emod_nonneg _ (by decide), Int.emod_lt_of_pos _ (by decide)⟩ rfl rfl
  have hne : c / 5 % 4 ≠ 0 := fun e => d (decide_eq_true (show V.int (c / 5 % 4) = V.int 0 by rw [e]))
  obtain ⟨m, hm1, hm2⟩ := add_at (i := c / 20 % 8) g2 g3 g4 (Int.emod_nonneg _ (by decide)) (Int.emod_lt_of_pos _ (by decide))
  refine ⟨_, rfl, _, rfl, _, rfl, _, rfl, _, _, rfl, rfl, _, rfl, _, _, rfl, rfl, ⟨by decide, by decide⟩, _, rfl, (by show 8 ≤ sizeLine; decide), fun pq hpq => ?_⟩
  have sq := same_new hpq (.lst [V.int (-1), .int 0, .int 1, .int wd, .int (wd + 1), .int (wd / 2), .int 3, .int (-4)])
  refine ⟨_, rfl, _, _, rfl, rfl, ⟨by decide, by decide⟩, _, _, rfl, rfl, (by show (0 : Int) < 8; decide), pq, _, _, _, rfl, rfl, SqL.of upd_same, hm1, _, _, rfl, rfl, ?_⟩
  refine ⟨_, rfl, (by show 3 ≤ sizeLine; decide), fun pw hpw => ?_⟩
  have sw := same_new hpw (.lst [V.str "<", .str "=", .str ">"])
  have hat : ∃ h : Str, atI [V.str "<", .str "=", .str ">"] (c / 5 % 4 - 1) = some (.str h) ∧ (h = "<" ∨ h = "=" ∨ h = ">") := by
    rcases (by omega : c / 5 % 4 = 1 ∨ c / 5 % 4 = 2 ∨ c / 5 % 4 = 3) with e | e | e
    · rw [e]; exact ⟨_, atI_nat (j := 0) rfl, .inl rfl⟩
    · rw [e]; exact ⟨_, atI_nat (j := 1) rfl, .inr (.inl rfl)⟩
    · rw [e]; exact ⟨_, atI_nat (j := 2) rfl, .inr (.inr rfl)⟩
  obtain ⟨h, hh1, hh2⟩ := hat
  refine ⟨_, rfl, _, _, rfl, rfl, ⟨by decide, by decide⟩, _, _, rfl, rfl, (by show (0 : Int) < 4; decide), _, _, rfl, rfl, pw, _, _, _, rfl, rfl, SqL.of upd_same, hh1, _, rfl, (by show 4 ≤ sizeLine; decide), fun t ht => ?_⟩
  exact q _ (.cmp n h (b + m)) _ (sq.trans (sw.trans (same_new ht _))) ⟨t, rfl, SqT.of upd_same⟩ ⟨hn, hh2, hm2⟩ rfl rfl
end
end K18

namespace K18
open PySem L2
seal PE PT PW PA PS PSs PG PGs PI PO PSet OpR UnR CallR TruR IxR SlR PC PPs
local macro_rules | `(tactic| walk_at "rd1") => `(tactic| first
  | (refine And.intro rfl ?_)
  | (refine And.intro (by assumption) ?_)
  | (refine And.intro (fun _ e => e) ?_)
  | (refine And.intro (TyOf.str _) ?_) | (refine And.intro (TyOf.int _) ?_) | (refine And.intro (TyOf.bl _) ?_) | (refine And.intro TyOf.non ?_)
  | (refine iteT ?_) | (refine iteF ?_)
  | (apply Exists.intro))
local macro_rules | `(tactic| walk_at "rd") => `(tactic| repeat (walk_at "rd1"))

/-- the stack: the trees on it -/
def Stk (K : PySem.W.Frag) (zs : List Str) (pl : Addr) (m : Nat) (H : Hp) (ts : List Tr) : Prop := ∃ xs, H pl = some (.lst xs) ∧ StR K H xs ts ∧ (∀ t ∈ ts, t.depth ≤ 8 ∧ t.Ok zs) ∧ (ts.map Tr.size).sum ≤ m
theorem Stk.same {K : PySem.W.Frag} {zs : List Str} {pl : Addr} {m : Nat} {H H' : Hp} {ts : List Tr} (h : Stk K zs pl m H ts) (s : Same H H') : Stk K zs pl m H' ts := let ⟨xs, a, b, c⟩ := h; ⟨xs, s _ _ a, (KT.of s).st b, c⟩
theorem sum_len (ts : List Tr) : ts.length ≤ (ts.map Tr.size).sum := by
  induction ts with
  | nil => exact Nat.le_refl _
  | cons t r ih => rw [List.map_cons, List.sum_cons, List.length_cons]; have := t.size_pos; omega
section
variable {P : Program} {w : World} {K : PySem.W.Frag} {mg : Str → Option Value} {base : Heap} {A : Adr}
theorem ok_law_tree (T : Txt K mg A) : FnOk P w K mg base CX0 2 A.f_law_tree A.d_law_tree ["_law_cells", "_law_names_here"] (spTree K) := by
  have G_law_atom := ok_law_atom (P := P) (w := w) (base := base) T
  have G_law_joined := ok_law_joined (P := P) (w := w) (base := base) T
  refine T.F_law_tree.ok sc_law_tree (fun vs H Q E h => ?_) (fun cdv A0 outer s H vs Q E hr h => ?_)
  · obtain ⟨pc, ms, x, zs, rfl, _⟩ := h
    rfl
  obtain ⟨pc, ms, x, zs, rfl, hS, hb, hml, hx, q⟩ := h
  refine ⟨_, (pss_cons (ps_set (i := 2) sc_law_tree.nd rfl (by first | exact Or.inl rfl | exact Or.inr rfl) (pe_lst pa_nil))
      (pss_cons (ps_set (i := 3) sc_law_tree.nd rfl (by first | exact Or.inl rfl | exact Or.inr rfl) pe_int)
      (pss_cons (ps_forR PassesOwn.never rfl (pi_list (pv 0)) (pg_name (i := 4) sc_law_tree.nd rfl (by first | exact Or.inl rfl | exact Or.inr rfl)) (pss_one (ps_if (PW.pt (pw_and (pt_cmpR op_lt (pe_op op_mod (pv 4) pe_int) pe_int (nomark _)) (pw_and1 (pt_cmpR op_lt (pv 3) pe_int (nomark _))))) (pss_cons (ps_expr (pe_bm PySem.F.plainAttrs_list PySem.F.slot_list_append PySem.F.type_list_append mt_append (pv 2) (pa_cons (pe_tup (pa_cons (pe_call G_law_atom (hr.mono (by first | decide | omega)) rfl T.m_law_atom T.k_law_atom T.b_law_atom .nil pass0 (pa_cons (pe_op op_fdiv (pv 4) pe_int) (pa_cons (pv 1) pa_nil))) (pa_cons pe_int pa_nil))) pa_nil)))
      (pss_one (ps_set (i := 3) sc_law_tree.nd rfl (by first | exact Or.inl rfl | exact Or.inr rfl) (pe_op op_add (pv 3) pe_int)))) (pss_one (ps_if (PW.pt (pw_and (pt_cmpR op_eq (pe_op op_mod (pv 4) pe_int) pe_int (nomark _)) (pw_and (pt_cmpR (op_neJ (hu20 hr)) (pv 2) (pe_lst pa_nil) (nomark _)) (pw_and1 (pt_cmpR op_lt (pe_ix ix_tup (pe_ix ix_list (pv 2) (pe_un un_neg pe_int) (fun _ _ => rfl)) pe_int (fun _ _ => rfl)) pe_int (nomark _)))))) (pss_cons (ps_set (i := 5) sc_law_tree.nd rfl (by first | exact Or.inl rfl | exact Or.inr rfl) (pe_bm0 PySem.F.plainAttrs_list PySem.F.slot_list_pop PySem.F.type_list_pop mt_pop (pv 2)))
      (pss_one (ps_expr (pe_bm PySem.F.plainAttrs_list PySem.F.slot_list_append PySem.F.type_list_append mt_append (pv 2) (pa_cons (pe_tup (pa_cons (pe_tup (pa_cons pe_str (pa_cons (pe_ix ix_tup (pv 5) pe_int (fun _ _ => rfl)) pa_nil))) (pa_cons (pe_op op_add (pe_ix ix_tup (pv 5) pe_int (fun _ _ => rfl)) pe_int) pa_nil))) pa_nil))))) (pss_one (ps_if (PW.pt (pw_and (pt_cmpR op_gt (pe_op op_mod (pv 4) pe_int) pe_int (nomark _)) (pw_and (pt_cmpR op_gt (pe_callB call_len_seq (by rfl) T.n_len PySem.boot_len (pa_cons (pv 2) pa_nil)) pe_int (nomark _)) (pw_and1 (pt_cmpR op_lt (pe_callB (call_max2 rfl) (by rfl) T.n_max PyProof.Rows.boot_max (pa_cons (pe_ix ix_tup (pe_ix ix_list (pv 2) (pe_un un_neg pe_int) (fun _ _ => rfl)) pe_int (fun _ _ => rfl)) (pa_cons (pe_ix ix_tup (pe_ix ix_list (pv 2) (pe_un un_neg pe_int) (fun _ _ => rfl)) pe_int (fun _ _ => rfl)) pa_nil))) pe_int (nomark _)))))) (pss_one (ps_expr (pe_call G_law_joined (hr.mono (by first | decide | omega)) rfl T.m_law_joined T.k_law_joined T.b_law_joined .nil pass0 (pa_cons (pv 2) (pa_cons (pe_ix ix_list (pe_lst (pa_cons pe_str (pa_cons pe_str pa_nil))) (pe_op op_sub (pe_op op_mod (pv 4) pe_int) pe_int) (fun _ _ => rfl)) pa_nil))))) pss_nil)))))))
      (pss_cons (ps_whileR PassesOwn.never (PW.pt (pw_and (pt_cmpR op_gt (pe_callB call_len_seq (by rfl) T.n_len PySem.boot_len (pa_cons (pv 2) pa_nil)) pe_int (nomark _)) (pw_and1 (pt_cmpR op_lt (pe_callB (call_max2 rfl) (by rfl) T.n_max PyProof.Rows.boot_max (pa_cons (pe_ix ix_tup (pe_ix ix_list (pv 2) (pe_un un_neg pe_int) (fun _ _ => rfl)) pe_int (fun _ _ => rfl)) (pa_cons (pe_ix ix_tup (pe_ix ix_list (pv 2) (pe_un un_neg pe_int) (fun _ _ => rfl)) pe_int (fun _ _ => rfl)) pa_nil))) pe_int (nomark _))))) (pss_one (ps_expr (pe_call G_law_joined (hr.mono (by first | decide | omega)) rfl T.m_law_joined T.k_law_joined T.b_law_joined .nil pass0 (pa_cons (pv 2) (pa_cons (pe_ix ix_list (pe_lst (pa_cons pe_str (pa_cons pe_str pa_nil))) (pe_op op_mod (pe_callB call_len_seq (by rfl) T.n_len PySem.boot_len (pa_cons (pv 2) pa_nil)) pe_int) (fun _ _ => rfl)) pa_nil))))))
      (pss_cons (ps_if (pt_cmpR (op_eqJ (hu20 hr)) (pv 2) (pe_lst pa_nil) (nomark _)) (pss_one (ps_ret (pe_call G_law_atom (hr.mono (by first | decide | omega)) rfl T.m_law_atom T.k_law_atom T.b_law_atom .nil pass0 (pa_cons pe_int (pa_cons (pv 1) pa_nil))))) pss_nil)
      (pss_one (ps_ret (pe_ix ix_tup (pe_ix ix_list (pv 2) (pe_un un_neg pe_int) (fun _ _ => rfl)) pe_int (fun _ _ => rfl))))))))), ?_⟩
  refine ⟨(by show 0 ≤ sizeLine; decide), fun pl hpl => ?_⟩
  have sl := same_new hpl (.lst [])
  -- what joins two
  have join : ∀ (H' : Hp) (o : Bool) (ts : List Tr) (t1 t2 : Tr) (m : Nat) (R : Hp → Prop), Same H H' → Stk K zs pl m H' (ts ++ [t1, t2]) → m ≤ 16 → max t1.depth t2.depth < 8 →
      (∀ H'' ts', Same H H'' → Stk K zs pl m H'' ts' → ts'.length + 1 = (ts ++ [t1, t2]).length → ts' ≠ [] → R H'') → spJoined K ([.ref pl, .str (hw o)] ++ []) H' (fun _ H'' => R H'') E0 := fun H' o ts t1 t2 m R sH ⟨xs, e1, hst, hok, hsz⟩ hm hd k => by
    have hlen := sum_len (ts ++ [t1, t2])
    rw [List.length_append] at hlen
    have hlen' : ts.length + 2 ≤ (List.map Tr.size (ts ++ [t1, t2])).sum := hlen
    refine ⟨pl, o, xs, ts, t1, t2, rfl, e1, hst, by omega, fun H2 xs2 s2 e2 hst2 => ?_⟩
    refine k H2 (ts ++ [.two o t1 t2]) (fun b u e => ?_) ⟨xs2, e2, hst2, fun t ht => ?_, ?_⟩ (by simp) (by simp)
    · exact s2 b u (ne_of_none e hpl) (sH b u e)
    · rcases List.mem_append.mp ht with e | e
      · exact hok t (List.mem_append_left _ e)
      · rw [List.mem_singleton.mp e]
        refine ⟨by show 1 + max t1.depth t2.depth ≤ 8; omega, (hok t1 (by simp)).2, (hok t2 (by simp)).2⟩
    · rw [List.map_append, List.sum_append] at hsz ⊢
      show _ + ((t1.size + t2.size) + 0) ≤ m
      have : (List.map Tr.size ts).sum + (t1.size + (t2.size + 0)) ≤ m := hsz
      omega
  refine ⟨_, rfl, pc, rfl, ⟨_, sl.seq hS⟩, ?_⟩
  refine for_listR (xs := ms.map V.int) (fun i σ H' => Same H H' ∧ ∃ (m : Nat) (u v : Option V) (ts : List Tr), σ = [some (.ref pc), some x, some (.ref pl), some (.int (m : Nat)), u, v] ∧ m ≤ 16 ∧ Stk K zs pl m H' ts) ⟨sl, 0, _, _, [], rfl, by omega, [], upd_same, .nil, (fun t ht => by cases ht), Nat.le_refl _⟩ (fun i σ H' _ hh => hh.1.seq hS) (fun i y σ H' hy hh => ?_) (fun σ H' hh => ?_)
  · obtain ⟨sH, m, u, v, ts, rfl, hm, xs, e1, hst, hok, hsz⟩ := hh
    obtain ⟨c, hci, rfl⟩ := map_get hy
    have hcb := hb c (List.mem_of_getElem? hci)
    have hlen := sum_len ts
    have r0 : 0 ≤ c % 6 := Int.emod_nonneg _ (by decide)
    have r1 : c % 6 < 6 := Int.emod_lt_of_pos _ (by decide)
    have h06 : (0 : Int) < 6 := by decide
    have keep : ∀ w' : Option V, Same H H' ∧ ∃ (m' : Nat) (u v : Option V) (ts : List Tr), ([some (.ref pc), some x, some (.ref pl), some (.int (m : Nat)), some (.int c), w'] : St) = [some (.ref pc), some x, some (.ref pl), some (.int (m' : Nat)), u, v] ∧ m' ≤ 16 ∧ Stk K zs pl m' H' ts := fun w' => ⟨sH, m, _, _, ts, rfl, hm, xs, e1, hst, hok, hsz⟩
    have h1000 := small_of (n := 1000) (m := 1000) (Nat.le_refl _)
    by_cases hA : c % 6 < 3
    · refine ⟨_, rfl, _, _, rfl, rfl, h06, _, _, rfl, rfl, _, rfl, ite2 (fun _ => ?_) (fun d => absurd (decide_eq_true hA) d)⟩
      refine ⟨_, rfl, _, _, rfl, rfl, _, rfl, ite2 (fun d => ?_) (fun d => ?_)⟩
      · have hm16 : (m : Int) < 16 := of_decide_eq_true d
        refine ⟨_, rfl, Or.inl ⟨rfl, _, SqL.of e1⟩, _, rfl, _, _, rfl, rfl, ⟨by decide, by decide⟩, _, rfl, _, x, zs, rfl, ib_div (by decide) hcb, hx.same sH, fun y t H2 s2 htr hto htd hts => ?_⟩
        refine ⟨(by show 2 ≤ sizeLine; decide), fun pt hpt => ?_⟩
        have s3 := same_new hpt (.tup [y, .int 1])
        have e3 := s3 _ _ (s2 _ _ e1)
        have k3 : KT H2 _ := (KT.of s3).trans (KT.upd (o := .lst (xs ++ [.ref pt])) e3)
        refine ⟨pl, _, _, rfl, rfl, e3, (by rw [hst.len]; omega), ?_⟩
        refine ⟨_, rfl, _, _, rfl, rfl, ?_⟩
        refine ⟨fun b o hb' => ?_, m + 1, _, _, ts ++ [t], rfl, by omega, _, upd_same, paired_app (k3.st ((KT.of s2).st hst)) (.cons ⟨pt, y, rfl, ?_, k3.tr htr⟩ .nil), fun t' ht' => ?_, ?_⟩
        · rw [upd_ne (ne_of_none hb' hpl)]; exact s3 _ _ (s2 _ _ (sH _ _ hb'))
        · rw [htd]; exact (KT.upd e3).sqT (SqT.of upd_same)
        · rcases List.mem_append.mp ht' with e | e
          · exact hok t' e
          · rw [List.mem_singleton.mp e, htd]; exact ⟨by decide, hto⟩
        · rw [List.map_append, List.sum_append]
          show _ + (t.size + 0) ≤ m + 1
          omega
      · refine ⟨_, rfl, _, _, rfl, rfl, h06, rfl, _, rfl, ite2 (fun d => ?_) (fun _ => iteF ?_)⟩
        · have : c % 6 = 3 := V.int.inj (of_decide_eq_true d)
          omega
        · refine ⟨_, rfl, _, _, rfl, rfl, h06, _, _, rfl, rfl, _, rfl, ite2 (fun d => ?_) (fun _ => iteF (keep _))⟩
          have : 3 < c % 6 := of_decide_eq_true d
          omega
    refine ⟨_, rfl, _, _, rfl, rfl, h06, _, _, rfl, rfl, _, rfl, ite2 (fun d => absurd (of_decide_eq_true d) hA) (fun _ => iteF ?_)⟩
    by_cases hB : c % 6 = 3
    · refine ⟨_, rfl, _, _, rfl, rfl, h06, rfl, _, rfl, ite2 (fun _ => ?_) (fun d => absurd (decide_eq_true (show V.int (c % 6) = V.int 3 by rw [hB])) d)⟩
      refine ⟨_, rfl, (by show 0 ≤ sizeLine; decide), fun p0 hp0 => ?_⟩
      have s8 := same_new hp0 (.lst [])
      have third : ∀ (H2 : Hp) (w' : Option V), Same H H2 ∧ (∃ (m' : Nat) (u v : Option V) (ts : List Tr), ([some (.ref pc), some x, some (.ref pl), some (.int (m : Nat)), some (.int c), w'] : St) = [some (.ref pc), some x, some (.ref pl), some (.int (m' : Nat)), u, v] ∧ m' ≤ 16 ∧ Stk K zs pl m' H2 ts) → True := fun _ _ _ => trivial
      by_cases hts : ts = []
      · subst hts
        have hx0 : xs = [] := List.length_eq_zero_iff.mp hst.len
        subst hx0
        refine ⟨_, eqj_lists (n := 19) (e := fun _ => true) (SqL.of (s8 _ _ e1)) (SqL.of upd_same) rfl (fun j x y hx => by simp at hx), _, rfl, iteF (iteF ?_)⟩
        refine ⟨_, rfl, _, _, rfl, rfl, h06, _, _, rfl, rfl, _, rfl, ite2 (fun d => ?_) (fun _ => iteF ?_)⟩
        · have : 3 < c % 6 := of_decide_eq_true d
          omega
        · exact ⟨sH.trans s8, m, _, _, [], rfl, hm, [], s8 _ _ e1, .nil, hok, hsz⟩
      · obtain ⟨ts0, t, rfl⟩ := split1 hts
        obtain ⟨x0, xt, rfl, h0, a1, y1, rfl, k1, r1⟩ := hst.one
        have hxl : (x0 ++ [V.ref a1]).length ≠ ([] : List V).length := by simp
        refine ⟨_, eqj_lists_len (n := 19) (SqL.of (s8 _ _ e1)) (SqL.of upd_same) hxl, _, rfl, iteT ?_⟩
        have b11 : atI [y1, V.int (t.depth : Nat)] ((1 : Nat) : Int) = some (.int (t.depth : Nat)) := atI_nat rfl
        have b10 : atI [y1, V.int (t.depth : Nat)] ((0 : Nat) : Int) = some y1 := atI_nat rfl
        have k8 := KT.of s8
        refine ⟨_, rfl, _, rfl, pl, _, _, _, rfl, rfl, SqL.of (s8 _ _ e1), at_m1, a1, _, _, _, rfl, rfl, k8.sqT k1, b11, _, _, rfl, rfl, _, rfl, ite2 (fun d => ?_) (fun _ => ?_)⟩
        · have hd : (t.depth : Int) < 8 := of_decide_eq_true d
          have g1 : (x0 ++ [V.ref a1])[(x0 ++ [V.ref a1]).length - 1]? = some (V.ref a1) := by simp
          refine ⟨_, rfl, Or.inl ⟨rfl, _, SqL.of (s8 _ _ e1)⟩, pl, _, _, rfl, rfl, s8 _ _ e1, g1, ?_⟩
          rw [List.dropLast_concat]
          have kB : KT H' (upd (upd H' p0 (.lst [])) pl (.lst x0)) := k8.trans (KT.upd (s8 _ _ e1))
          refine ⟨_, rfl, Or.inl ⟨rfl, _, SqL.of upd_same⟩, _, rfl, a1, _, _, _, rfl, rfl, kB.sqT k1, b10, (by show 2 ≤ sizeLine; decide), fun pt hpt => ?_⟩
          have s1 := same_new hpt (.tup [.str (Str.ofString "not"), y1])
          have kC := kB.trans (KT.of s1)
          refine ⟨_, rfl, a1, _, _, _, rfl, rfl, kC.sqT k1, b11, _, _, rfl, rfl, (by show 2 ≤ sizeLine; decide), fun pu hpu => ?_⟩
          have em : ((t.depth : Nat) : Int) + 1 = (((Tr.neg t).depth : Nat) : Int) := by show _ = ((t.depth + 1 : Nat) : Int); omega
          dsimp only at hpu ⊢
          rw [em]
          have s2 := same_new hpu (.tup [.ref pt, .int (((Tr.neg t).depth : Nat) : Int)])
          have e3 := s2 _ _ (s1 _ _ (upd_same (H := upd H' p0 (.lst [])) (a := pl) (o := .lst x0)))
          have kE := (kC.trans (KT.of s2)).trans (KT.upd (o := .lst (x0 ++ [V.ref pu])) e3)
          refine ⟨pl, _, _, rfl, rfl, e3, ?_, ?_⟩
          · rw [List.length_append] at hlen
            have hlen' : ts0.length + 1 ≤ (List.map Tr.size (ts0 ++ [t])).sum := hlen
            rw [h0.len]; omega
          refine ⟨fun b o hb' => ?_, m, _, _, ts0 ++ [.neg t], rfl, hm, _, upd_same, paired_app (kE.st h0) (.cons (show SR K _ (.ref pu) (.neg t) from ⟨pu, .ref pt, rfl, ?_, pt, y1, rfl, ?_, kE.tr r1⟩) .nil), fun t' ht' => ?_, ?_⟩
          · rw [upd_ne (ne_of_none hb' hpl)]
            refine s2 _ _ (s1 _ _ ?_)
            rw [upd_ne (ne_of_none hb' hpl)]
            exact s8 _ _ (sH _ _ hb')
          · exact (KT.upd e3).sqT (SqT.of upd_same)
          · exact ((KT.of s2).trans (KT.upd e3)).sqT (SqT.of upd_same)
          · rcases List.mem_append.mp ht' with e | e
            · exact hok t' (List.mem_append_left _ e)
            · rw [List.mem_singleton.mp e]
              exact ⟨by show t.depth + 1 ≤ 8; omega, (hok t (by simp)).2⟩
          · rw [List.map_append, List.sum_append] at hsz ⊢
            exact hsz
        · refine ⟨_, rfl, _, _, rfl, rfl, h06, _, _, rfl, rfl, _, rfl, ite2 (fun d => ?_) (fun _ => iteF ?_)⟩
          · have : 3 < c % 6 := of_decide_eq_true d
            omega
          · exact ⟨sH.trans s8, m, _, _, _, rfl, hm, Stk.same ⟨_, e1, hst, hok, hsz⟩ s8⟩
    refine ⟨_, rfl, _, _, rfl, rfl, h06, rfl, _, rfl, ite2 (fun d => absurd (V.int.inj (of_decide_eq_true d)) hB) (fun _ => iteF ?_)⟩
    refine ⟨_, rfl, _, _, rfl, rfl, h06, _, _, rfl, rfl, _, rfl, ite2 (fun _ => ?_) (fun _ => iteF (keep _))⟩
    refine ⟨_, rfl, pl, _, rfl, .inl (SqL.of e1), _, _, rfl, rfl, _, rfl, ite2 (fun d => ?_) (fun _ => iteF (keep _))⟩
    have hl2 : 1 < xs.length := by have : (1 : Int) < (xs.length : Nat) := of_decide_eq_true d; omega
    obtain ⟨ts0, t1, t2, rfl⟩ := split2 (l := ts) (by rw [← hst.len]; exact hl2)
    obtain ⟨x0, x1, x2, rfl, h0, ⟨a1, y1, rfl, k1, r1'⟩, ⟨a2, y2, rfl, k2, r2'⟩⟩ := hst.two
    have b11 : atI [y1, V.int (t1.depth : Nat)] ((1 : Nat) : Int) = some (.int (t1.depth : Nat)) := atI_nat rfl
    have b21 : atI [y2, V.int (t2.depth : Nat)] ((1 : Nat) : Int) = some (.int (t2.depth : Nat)) := atI_nat rfl
    refine ⟨_, rfl, _, rfl, pl, _, _, _, rfl, rfl, SqL.of e1, at_m1', a2, _, _, _, rfl, rfl, k2, b21, _, rfl, _, rfl, pl, _, _, _, rfl, rfl, SqL.of e1, at_m2, a1, _, _, _, rfl, rfl, k1, b11, _, _, rfl, _, _, rfl, rfl, _, rfl, ite2 (fun d => ?_) (fun _ => keep _)⟩
    have hd : max t1.depth t2.depth < 8 := by
      have d' := of_decide_eq_true d
      rw [Nat.max_def]
      split at d' <;> split <;> omega
    refine ⟨_, rfl, (by show 2 ≤ sizeLine; decide), fun pq hpq => ?_⟩
    have sq := same_new hpq (.lst [.str (hw false), .str (hw true)])
    have hat : ∃ o : Bool, atI [V.str (hw false), V.str (hw true)] (c % 6 - 4) = some (.str (hw o)) := by
      rcases (by omega : c % 6 = 4 ∨ c % 6 = 5) with e | e
      · rw [e]; exact ⟨false, atI_nat (j := 0) rfl⟩
      · rw [e]; exact ⟨true, atI_nat (j := 1) rfl⟩
    obtain ⟨o, ho⟩ := hat
    refine ⟨_, rfl, _, _, rfl, rfl, h06, _, _, rfl, rfl, pq, _, _, _, rfl, rfl, SqL.of upd_same, ho, ?_⟩
    exact join _ o ts0 t1 t2 m _ (sH.trans sq) (Stk.same ⟨_, e1, hst, hok, hsz⟩ sq) hm hd fun H'' ts' s'' stk' _ _ => ⟨s'', m, _, _, ts', rfl, hm, stk'⟩
  obtain ⟨sH, m, u, v, ts, rfl, hm, stk⟩ := hh
  dsimp only
  refine seq_mid (fun σ' G => Same H G ∧ ∃ (ts : List Tr), σ' = [some (.ref pc), some x, some (.ref pl), some (.int (m : Nat)), u, v] ∧ Stk K zs pl m G ts) ?kk ?mm
  case mm =>
    intro key
    refine ⟨⟨fun n σ' G => Same H G ∧ ∃ (ts : List Tr), σ' = [some (.ref pc), some x, some (.ref pl), some (.int (m : Nat)), u, v] ∧ Stk K zs pl m G ts ∧ n = ts.length, ⟨_, sH, ts, rfl, stk, rfl⟩, ?_⟩⟩
    rintro n σ' G ⟨sG, ts, rfl, ⟨xs, e1, hst, hok, hsz⟩, rfl⟩
    refine ⟨_, rfl, pl, _, rfl, .inl (SqL.of e1), _, _, rfl, rfl, _, rfl, ite2 (fun d => ?_) (fun _ => iteF (key _ _ ⟨sG, ts, rfl, xs, e1, hst, hok, hsz⟩))⟩
    have hl2 : 1 < xs.length := by have : (1 : Int) < (xs.length : Nat) := of_decide_eq_true d; omega
    obtain ⟨ts0, t1, t2, rfl⟩ := split2 (l := ts) (by rw [← hst.len]; exact hl2)
    obtain ⟨x0, x1, x2, rfl, h0, ⟨a1, y1, rfl, k1, r1'⟩, ⟨a2, y2, rfl, k2, r2'⟩⟩ := hst.two
    have b11 : atI [y1, V.int (t1.depth : Nat)] ((1 : Nat) : Int) = some (.int (t1.depth : Nat)) := atI_nat rfl
    have b21 : atI [y2, V.int (t2.depth : Nat)] ((1 : Nat) : Int) = some (.int (t2.depth : Nat)) := atI_nat rfl
    refine ⟨_, rfl, _, rfl, pl, _, _, _, rfl, rfl, SqL.of e1, at_m1', a2, _, _, _, rfl, rfl, k2, b21, _, rfl, _, rfl, pl, _, _, _, rfl, rfl, SqL.of e1, at_m2, a1, _, _, _, rfl, rfl, k1, b11, _, _, rfl, _, _, rfl, rfl, _, rfl, ite2 (fun d => ?_) (fun _ => key _ _ ⟨sG, _, rfl, _, e1, hst, hok, hsz⟩)⟩
    have hd : max t1.depth t2.depth < 8 := by
      have d' := of_decide_eq_true d
      rw [Nat.max_def]
      split at d' <;> split <;> omega
    refine ⟨fun σ' G' => ∃ m', m' < (ts0 ++ [t1, t2]).length ∧ Same H G' ∧ ∃ (ts : List Tr), σ' = [some (.ref pc), some x, some (.ref pl), some (.int (m : Nat)), u, v] ∧ Stk K zs pl m G' ts ∧ m' = ts.length, fun _ _ h => h, ?_⟩
    refine ⟨_, rfl, (by show 2 ≤ sizeLine; decide), fun pq hpq => ?_⟩
    have sq := same_new hpq (.lst [.str (hw false), .str (hw true)])
    have hat : ∃ o : Bool, atI [V.str (hw false), V.str (hw true)] (((x0 ++ [V.ref a1, V.ref a2]).length : Int) % 2) = some (.str (hw o)) := by
      rcases (by omega : ((x0 ++ [V.ref a1, V.ref a2]).length : Int) % 2 = 0 ∨ ((x0 ++ [V.ref a1, V.ref a2]).length : Int) % 2 = 1) with e | e
      · rw [e]; exact ⟨false, atI_nat (j := 0) rfl⟩
      · rw [e]; exact ⟨true, atI_nat (j := 1) rfl⟩
    obtain ⟨o, ho⟩ := hat
    refine ⟨_, rfl, pl, _, rfl, .inl (SqL.of (sq _ _ e1)), _, _, rfl, rfl, (by show (0 : Int) < 2; decide), pq, _, _, _, rfl, rfl, SqL.of upd_same, ho, ?_⟩
    exact join _ o ts0 t1 t2 m _ (sG.trans sq) (Stk.same ⟨_, e1, hst, hok, hsz⟩ sq) hm hd fun H'' ts' s'' stk' hl' _ => ⟨ts'.length, by omega, s'', ts', rfl, stk', rfl⟩
  case kk =>
  rintro σ' G ⟨sG, ts, rfl, xs, e1, hst, hok, hsz⟩
  refine ⟨_, rfl, (by show 0 ≤ sizeLine; decide), fun p0 hp0 => ?_⟩
  have s8 := same_new hp0 (.lst [])
  by_cases hts : ts = []
  · subst hts
    have hx0 : xs = [] := List.length_eq_zero_iff.mp hst.len
    subst hx0
    refine ⟨_, eqj_lists (n := 19) (e := fun _ => true) (SqL.of (s8 _ _ e1)) (SqL.of upd_same) rfl (fun j x y hx => by simp at hx), _, rfl, iteT ?_⟩
    exact ⟨_, rfl, 0, x, zs, rfl, by decide, hx.same (sG.trans s8), fun y t H2 s2 htr hto htd hts => q y t H2 (sG.trans (s8.trans s2)) htr hto (by rw [htd]; decide) (by rw [hts]; decide)⟩
  · obtain ⟨ts0, t, rfl⟩ := split1 hts
    obtain ⟨x0, xt, rfl, h0, a1, y1, rfl, k1, r1⟩ := hst.one
    have hxl : (x0 ++ [V.ref a1]).length ≠ ([] : List V).length := by simp
    refine ⟨_, eqj_lists_len (n := 19) (SqL.of (s8 _ _ e1)) (SqL.of upd_same) hxl, _, rfl, iteF ?_⟩
    have b10 : atI [y1, V.int (t.depth : Nat)] ((0 : Nat) : Int) = some y1 := atI_nat rfl
    have k8 := KT.of s8
    obtain ⟨ht1, ht2⟩ := hok t (by simp)
    refine ⟨_, rfl, _, rfl, pl, _, _, _, rfl, rfl, SqL.of (s8 _ _ e1), at_m1, a1, _, _, _, rfl, rfl, k8.sqT k1, b10, q y1 t _ (sG.trans s8) (k8.tr r1) ht2 ht1 ?_⟩
    rw [List.map_append, List.sum_append] at hsz
    have : (List.map Tr.size ts0).sum + (t.size + 0) ≤ m := hsz
    omega
end
end K18
set_option maxHeartbeats 4000000
namespace K18
open PySem L2
seal PE PT PW PA PS PSs PG PGs PI PO PSet OpR UnR CallR TruR IxR SlR PC PPs
local macro_rules | `(tactic| walk_at "rd1") => `(tactic| first
  | (refine And.intro rfl ?_)
  | (refine And.intro (by assumption) ?_)
  | (refine And.intro (fun _ e => e) ?_)
  | (refine And.intro (TyOf.str _) ?_) | (refine And.intro (TyOf.int _) ?_) | (refine And.intro (TyOf.bl _) ?_) | (refine And.intro TyOf.non ?_)
  | (refine iteT ?_) | (refine iteF ?_)
  | (apply Exists.intro))
local macro_rules | `(tactic| walk_at "rd") => `(tactic| repeat (walk_at "rd1"))

theorem eqS {a b : Str} {A B : Prop} (h : a = b) (k : A) : if decide (V.str a = V.str b) = true then A else B := by rw [if_pos (decide_eq_true (by rw [h]))]; exact k
theorem neS {a b : Str} {A B : Prop} (h : a ≠ b) (k : B) : if decide (V.str a = V.str b) = true then A else B := by
  rw [if_neg (fun e => h (V.str.inj (of_decide_eq_true e)))]; exact k
/-! sayings, as instances -/
def cT (A : Adr) (o : Bool) : Addr := if o = true then A.c_Either else A.c_Both
def SyR (A : Adr) (H : Hp) : Tr → V → Prop
  | .is n v, x => ∃ a dx, x = .ref a ∧ H a = some (.ins A.c_Is dx [("name", .str n), ("word", .str "yes"), ("place", v)])
  | .cmp n h m, x => ∃ a dx, x = .ref a ∧ H a = some (.ins A.c_Compare dx [("name", .str n), ("how", .str h), ("number", .int m)])
  | .neg t, x => ∃ a dx y, x = .ref a ∧ H a = some (.ins A.c_Not dx [("test", y)]) ∧ SyR A H t y
  | .two o s t, x => ∃ a dx y z, x = .ref a ∧ H a = some (.ins (cT A o) dx [("one", y), ("other", z)]) ∧ SyR A H s y ∧ SyR A H t z
theorem SyR.kt {A : Adr} {H H' : Hp} (s : ∀ b C dx fs, H b = some (.ins C dx fs) → H' b = some (.ins C dx fs)) : ∀ {t : Tr} {x : V}, SyR A H t x → SyR A H' t x
  | .is _ _, _, ⟨a, dx, e, h⟩ => ⟨a, dx, e, s _ _ _ _ h⟩
  | .cmp _ _ _, _, ⟨a, dx, e, h⟩ => ⟨a, dx, e, s _ _ _ _ h⟩
  | .neg _, _, ⟨a, dx, y, e, h, k⟩ => ⟨a, dx, y, e, s _ _ _ _ h, SyR.kt s k⟩
  | .two _ _ _, _, ⟨a, dx, y, z, e, h, k, l⟩ => ⟨a, dx, y, z, e, s _ _ _ _ h, SyR.kt s k, SyR.kt s l⟩
theorem SyR.same {A : Adr} {H H' : Hp} (s : Same H H') {t : Tr} {x : V} (h : SyR A H t x) : SyR A H' t x := SyR.kt (fun b C dx fs e => s _ _ e) h
def spIsI (A : Adr) : Sp := fun vs H Q _ => ∃ p dx u1 u2 u3, vs = [.ref p, u1, u2, u3] ∧ H p = some (.ins A.c_Is dx []) ∧ Q .non (upd H p (.ins A.c_Is dx [("name", u1), ("word", u2), ("place", u3)]))
def spCoI (A : Adr) : Sp := fun vs H Q _ => ∃ p dx u1 u2 u3, vs = [.ref p, u1, u2, u3] ∧ H p = some (.ins A.c_Compare dx []) ∧ Q .non (upd H p (.ins A.c_Compare dx [("name", u1), ("how", u2), ("number", u3)]))
def spNoI (A : Adr) : Sp := fun vs H Q _ => ∃ p dx u1, vs = [.ref p, u1] ∧ H p = some (.ins A.c_Not dx []) ∧ Q .non (upd H p (.ins A.c_Not dx [("test", u1)]))
def spPaI (A : Adr) : Sp := fun vs H Q _ => ∃ p dx u1 u2 o, vs = [.ref p, u1, u2] ∧ H p = some (.ins (cT A o) dx []) ∧ Q .non (upd H p (.ins (cT A o) dx [("one", u1), ("other", u2)]))
def spMade (A : Adr) (K : PySem.W.Frag) (n : Nat) : Sp := fun vs H Q _ => ∃ x t, vs = [x] ∧ TrR K H t x ∧ t.depth < n ∧ ∀ y H', Same H H' → SyR A H' t y → Q y H'
section
variable {P : Program} {w : World} {K : PySem.W.Frag} {mg : Str → Option Value} {base : Heap} {A : Adr}
theorem ok_is_init (T : Txt K mg A) : FnOk P w K mg base CX0 1 A.f_c_Is___init A.d_c_Is___init ["self", "name", "word", "place"] (spIsI A) := by
  refine T.F_c_Is___init.ok sc_c_Is___init (fun vs H Q E h => ?_) (fun cdv A0 outer s H vs Q E hr h => ?_)
  · obtain ⟨p, dx, u1, u2, u3, rfl, _⟩ := h
    rfl
  obtain ⟨p, dx, u1, u2, u3, rfl, hp, q⟩ := h
  refine ⟨_, (pss_cons (ps_fld (pv 0) (pv 1) rfl)
      (pss_cons (ps_fld (pv 0) (pv 2) rfl)
      (pss_one (ps_fld (pv 0) (pv 3) rfl)))), ?_⟩
  refine ⟨_, rfl, _, rfl, p, _, dx, _, rfl, hp, T.cl_Is, T.no_Is_name, by decide, ?_⟩
  refine ⟨_, rfl, _, rfl, p, _, dx, _, rfl, upd_same, T.cl_Is, T.no_Is_word, (by show 1 < 1000; decide), ?_⟩
  refine ⟨_, rfl, _, rfl, p, _, dx, _, rfl, upd_same, T.cl_Is, T.no_Is_place, (by show 2 < 1000; decide), ?_⟩
  rw [upd_upd, upd_upd]
  exact q
theorem ok_co_init (T : Txt K mg A) : FnOk P w K mg base CX0 1 A.f_c_Compare___init A.d_c_Compare___init ["self", "name", "how", "number"] (spCoI A) := by
  refine T.F_c_Compare___init.ok sc_c_Compare___init (fun vs H Q E h => ?_) (fun cdv A0 outer s H vs Q E hr h => ?_)
  · obtain ⟨p, dx, u1, u2, u3, rfl, _⟩ := h
    rfl
  obtain ⟨p, dx, u1, u2, u3, rfl, hp, q⟩ := h
  refine ⟨_, (pss_cons (ps_fld (pv 0) (pv 1) rfl)
      (pss_cons (ps_fld (pv 0) (pv 2) rfl)
      (pss_one (ps_fld (pv 0) (pv 3) rfl)))), ?_⟩
  refine ⟨_, rfl, _, rfl, p, _, dx, _, rfl, hp, T.cl_Compare, T.no_Compare_name, by decide, ?_⟩
  refine ⟨_, rfl, _, rfl, p, _, dx, _, rfl, upd_same, T.cl_Compare, T.no_Compare_how, (by show 1 < 1000; decide), ?_⟩
  refine ⟨_, rfl, _, rfl, p, _, dx, _, rfl, upd_same, T.cl_Compare, T.no_Compare_number, (by show 2 < 1000; decide), ?_⟩
  rw [upd_upd, upd_upd]
  exact q
theorem ok_no_init (T : Txt K mg A) : FnOk P w K mg base CX0 1 A.f_c_Not___init A.d_c_Not___init ["self", "test"] (spNoI A) := by
  refine T.F_c_Not___init.ok sc_c_Not___init (fun vs H Q E h => ?_) (fun cdv A0 outer s H vs Q E hr h => ?_)
  · obtain ⟨p, dx, u1, rfl, _⟩ := h
    rfl
  obtain ⟨p, dx, u1, rfl, hp, q⟩ := h
  refine ⟨_, (pss_one (ps_fld (pv 0) (pv 1) rfl)), ?_⟩
  exact ⟨_, rfl, _, rfl, p, _, dx, _, rfl, hp, T.cl_Not, T.no_Not_test, by decide, q⟩
theorem ok_pa_init (T : Txt K mg A) : FnOk P w K mg base CX0 1 A.f_c_Pair___init A.d_c_Pair___init ["self", "one", "other"] (spPaI A) := by
  refine T.F_c_Pair___init.ok sc_c_Pair___init (fun vs H Q E h => ?_) (fun cdv A0 outer s H vs Q E hr h => ?_)
  · obtain ⟨p, dx, u1, u2, o, rfl, _⟩ := h
    rfl
  obtain ⟨p, dx, u1, u2, o, rfl, hp, q⟩ := h
  refine ⟨_, (pss_cons (ps_fld (pv 0) (pv 1) rfl)
      (pss_one (ps_fld (pv 0) (pv 2) rfl))), ?_⟩
  have cl : Cls K (cT A o) ∧ NoAttr K (cT A o) "one" ∧ NoAttr K (cT A o) "other" := by
    cases o
    · exact ⟨T.cl_Both, T.no_Both_one, T.no_Both_other⟩
    · exact ⟨T.cl_Either, T.no_Either_one, T.no_Either_other⟩
  refine ⟨_, rfl, _, rfl, p, _, dx, _, rfl, hp, cl.1, cl.2.1, by decide, ?_⟩
  refine ⟨_, rfl, _, rfl, p, _, dx, _, rfl, upd_same, cl.1, cl.2.2, (by show 1 < 1000; decide), ?_⟩
  rw [upd_upd]
  exact q
theorem same_make {H : Hp} {x dx : Addr} (nx : H x = none) (nd : H dx = none) (o : HO) : Same H (upd (upd H dx (.own x)) x o) := fun b u e => by
  rw [upd_ne (ne_of_none e nx), upd_ne (ne_of_none e nd)]; exact e
theorem ok_law_made (T : Txt K mg A) : ∀ n : Nat, FnOk P w K mg base CX0 (n + 3) A.f_law_made A.d_law_made ["_law_tree_here"] (spMade A K n)
  | 0 => by
    refine T.F_law_made.ok sc_law_made (fun vs H Q E h => ?_) (fun cdv A0 outer s H vs Q E hr h => ?_)
    · obtain ⟨x, t, rfl, _⟩ := h
      rfl
    · obtain ⟨x, t, rfl, _, hd, _⟩ := h
      exact absurd hd (by omega)
  | n + 1 => by
    have G_law_made := ok_law_made T n
    have G_c_Is___init := ok_is_init (P := P) (w := w) (base := base) T
    have G_c_Compare___init := ok_co_init (P := P) (w := w) (base := base) T
    have G_c_Not___init := ok_no_init (P := P) (w := w) (base := base) T
    have G_c_Pair___init := ok_pa_init (P := P) (w := w) (base := base) T
    refine T.F_law_made.ok sc_law_made (fun vs H Q E h => ?_) (fun cdv A0 outer s H vs Q E hr h => ?_)
    · obtain ⟨x, t, rfl, _⟩ := h
      rfl
    obtain ⟨x, t, rfl, htr, hd, q⟩ := h
    refine ⟨_, (pss_cons (ps_if (pt_cmpR op_eq (pe_ix ix_tup (pv 0) pe_int (fun _ _ => rfl)) pe_str (nomark _)) (pss_one (ps_ret (pe_make T.mk_Is G_c_Is___init (hr.mono (by first | decide | omega)) rfl T.m_Is T.b_c_Is___init .nil pass0 (pa_cons (pe_ix ix_tup (pv 0) pe_int (fun _ _ => rfl)) (pa_cons pe_str (pa_cons (pe_ix ix_tup (pv 0) pe_int (fun _ _ => rfl)) pa_nil)))))) pss_nil)
      (pss_cons (ps_if (pt_cmpR op_eq (pe_ix ix_tup (pv 0) pe_int (fun _ _ => rfl)) pe_str (nomark _)) (pss_one (ps_ret (pe_make T.mk_Compare G_c_Compare___init (hr.mono (by first | decide | omega)) rfl T.m_Compare T.b_c_Compare___init .nil pass0 (pa_cons (pe_ix ix_tup (pv 0) pe_int (fun _ _ => rfl)) (pa_cons (pe_ix ix_tup (pv 0) pe_int (fun _ _ => rfl)) (pa_cons (pe_ix ix_tup (pv 0) pe_int (fun _ _ => rfl)) pa_nil)))))) pss_nil)
      (pss_cons (ps_if (pt_cmpR op_eq (pe_ix ix_tup (pv 0) pe_int (fun _ _ => rfl)) pe_str (nomark _)) (pss_one (ps_ret (pe_make T.mk_Not G_c_Not___init (hr.mono (by first | decide | omega)) rfl T.m_Not T.b_c_Not___init .nil pass0 (pa_cons (pe_call G_law_made (hr.mono (by first | decide | omega)) rfl T.m_law_made T.k_law_made T.b_law_made .nil pass0 (pa_cons (pe_ix ix_tup (pv 0) pe_int (fun _ _ => rfl)) pa_nil)) pa_nil)))) pss_nil)
      (pss_cons (ps_if (pt_cmpR op_eq (pe_ix ix_tup (pv 0) pe_int (fun _ _ => rfl)) pe_str (nomark _)) (pss_one (ps_ret (pe_make T.mk_Both G_c_Pair___init (hr.mono (by first | decide | omega)) rfl T.m_Both T.b_c_Pair___init .nil pass0 (pa_cons (pe_call G_law_made (hr.mono (by first | decide | omega)) rfl T.m_law_made T.k_law_made T.b_law_made .nil pass0 (pa_cons (pe_ix ix_tup (pv 0) pe_int (fun _ _ => rfl)) pa_nil)) (pa_cons (pe_call G_law_made (hr.mono (by first | decide | omega)) rfl T.m_law_made T.k_law_made T.b_law_made .nil pass0 (pa_cons (pe_ix ix_tup (pv 0) pe_int (fun _ _ => rfl)) pa_nil)) pa_nil))))) pss_nil)
      (pss_one (ps_ret (pe_make T.mk_Either G_c_Pair___init (hr.mono (by first | decide | omega)) rfl T.m_Either T.b_c_Pair___init .nil pass0 (pa_cons (pe_call G_law_made (hr.mono (by first | decide | omega)) rfl T.m_law_made T.k_law_made T.b_law_made .nil pass0 (pa_cons (pe_ix ix_tup (pv 0) pe_int (fun _ _ => rfl)) pa_nil)) (pa_cons (pe_call G_law_made (hr.mono (by first | decide | omega)) rfl T.m_law_made T.k_law_made T.b_law_made .nil pass0 (pa_cons (pe_ix ix_tup (pv 0) pe_int (fun _ _ => rfl)) pa_nil)) pa_nil))))))))), ?_⟩
    cases t with
    | is nm v =>
      obtain ⟨a, rfl, ha⟩ := htr
      have b0 : atI [V.str "is", V.str nm, v] ((0 : Nat) : Int) = some (.str "is") := atI_nat rfl
      have b1 : atI [V.str "is", V.str nm, v] ((1 : Nat) : Int) = some (.str nm) := atI_nat rfl
      have b2 : atI [V.str "is", V.str nm, v] ((2 : Nat) : Int) = some v := atI_nat rfl
      refine ⟨_, rfl, a, _, _, _, rfl, rfl, ha, b0, rfl, _, rfl, eqS rfl ?_⟩
      refine ⟨_, rfl, a, _, _, _, rfl, rfl, ha, b1, _, rfl, a, _, _, _, rfl, rfl, ha, b2, fun x dx nx nd ne => ⟨x, dx, _, _, _, rfl, upd_same, rfl, ?_⟩⟩
      rw [upd_upd]
      exact q _ _ (same_make nx nd _) ⟨x, dx, rfl, upd_same⟩
    | cmp nm h m =>
      obtain ⟨a, rfl, ha⟩ := htr
      have b0 : atI [V.str "compare", V.str nm, .str h, .int m] ((0 : Nat) : Int) = some (.str "compare") := atI_nat rfl
      have b1 : atI [V.str "compare", V.str nm, .str h, .int m] ((1 : Nat) : Int) = some (.str nm) := atI_nat rfl
      have b2 : atI [V.str "compare", V.str nm, .str h, .int m] ((2 : Nat) : Int) = some (.str h) := atI_nat rfl
      have b3 : atI [V.str "compare", V.str nm, .str h, .int m] ((3 : Nat) : Int) = some (.int m) := atI_nat rfl
      refine ⟨_, rfl, a, _, _, _, rfl, rfl, ha, b0, rfl, _, rfl, neS (by decide) ?_⟩
      refine ⟨_, rfl, a, _, _, _, rfl, rfl, ha, b0, rfl, _, rfl, eqS rfl ?_⟩
      refine ⟨_, rfl, a, _, _, _, rfl, rfl, ha, b1, _, rfl, a, _, _, _, rfl, rfl, ha, b2, _, rfl, a, _, _, _, rfl, rfl, ha, b3, fun x dx nx nd ne => ⟨x, dx, _, _, _, rfl, upd_same, rfl, ?_⟩⟩
      rw [upd_upd]
      exact q _ _ (same_make nx nd _) ⟨x, dx, rfl, upd_same⟩
    | neg t =>
      obtain ⟨a, y, rfl, ha, ht⟩ := htr
      have b0 : atI [V.str "not", y] ((0 : Nat) : Int) = some (.str "not") := atI_nat rfl
      have b1 : atI [V.str "not", y] ((1 : Nat) : Int) = some y := atI_nat rfl
      refine ⟨_, rfl, a, _, _, _, rfl, rfl, ha, b0, rfl, _, rfl, neS (by decide) ?_⟩
      refine ⟨_, rfl, a, _, _, _, rfl, rfl, ha, b0, rfl, _, rfl, neS (by decide) ?_⟩
      refine ⟨_, rfl, a, _, _, _, rfl, rfl, ha, b0, rfl, _, rfl, eqS rfl ?_⟩
      have hd' : t.depth + 1 < n + 1 := hd
      refine ⟨_, rfl, a, _, _, _, rfl, rfl, ha, b1, y, t, rfl, ht, by omega, fun z H1 s1 h1 => ?_⟩
      intro x dx nx nd ne
      refine ⟨x, dx, _, rfl, upd_same, rfl, ?_⟩
      rw [upd_upd]
      have s2 := same_make nx nd (.ins A.c_Not dx [("test", z)])
      exact q _ _ (s1.trans s2) ⟨x, dx, z, rfl, upd_same, h1.same s2⟩
    | two o t1 t2 =>
      obtain ⟨a, y, z, rfl, ha, ht1, ht2⟩ := htr
      have hd' : 1 + max t1.depth t2.depth < n + 1 := hd
      have b1 : atI [V.str (hw o), y, z] ((1 : Nat) : Int) = some y := atI_nat rfl
      have b2 : atI [V.str (hw o), y, z] ((2 : Nat) : Int) = some z := atI_nat rfl
      have b0 : atI [V.str (hw o), y, z] ((0 : Nat) : Int) = some (.str (hw o)) := atI_nat rfl
      cases o with
      | false =>
        refine ⟨_, rfl, a, _, _, _, rfl, rfl, ha, b0, rfl, _, rfl, neS (by decide) ?_⟩
        refine ⟨_, rfl, a, _, _, _, rfl, rfl, ha, b0, rfl, _, rfl, neS (by decide) ?_⟩
        refine ⟨_, rfl, a, _, _, _, rfl, rfl, ha, b0, rfl, _, rfl, neS (by decide) ?_⟩
        refine ⟨_, rfl, a, _, _, _, rfl, rfl, ha, b0, rfl, _, rfl, eqS rfl ?_⟩
        refine ⟨_, rfl, a, _, _, _, rfl, rfl, ha, b1, y, t1, rfl, ht1, by omega, fun y' H1 s1 h1 => ?_⟩
        have k1 := KT.of s1
        refine ⟨_, rfl, a, _, _, _, rfl, rfl, k1.sqT ha, b2, z, t2, rfl, k1.tr ht2, by omega, fun z' H2 s2 h2 => ?_⟩
        intro x dx nx nd ne
        refine ⟨x, dx, _, _, false, rfl, upd_same, rfl, ?_⟩
        rw [upd_upd]
        have s3 := same_make nx nd (.ins (cT A false) dx [("one", y'), ("other", z')])
        exact q _ _ (s1.trans (s2.trans s3)) ⟨x, dx, y', z', rfl, upd_same, h1.same (s2.trans s3), h2.same s3⟩
      | true =>
        refine ⟨_, rfl, a, _, _, _, rfl, rfl, ha, b0, rfl, _, rfl, neS (by decide) ?_⟩
        refine ⟨_, rfl, a, _, _, _, rfl, rfl, ha, b0, rfl, _, rfl, neS (by decide) ?_⟩
        refine ⟨_, rfl, a, _, _, _, rfl, rfl, ha, b0, rfl, _, rfl, neS (by decide) ?_⟩
        refine ⟨_, rfl, a, _, _, _, rfl, rfl, ha, b0, rfl, _, rfl, neS (by decide) ?_⟩
        refine ⟨_, rfl, a, _, _, _, rfl, rfl, ha, b1, y, t1, rfl, ht1, by omega, fun y' H1 s1 h1 => ?_⟩
        have k1 := KT.of s1
        refine ⟨_, rfl, a, _, _, _, rfl, rfl, k1.sqT ha, b2, z, t2, rfl, k1.tr ht2, by omega, fun z' H2 s2 h2 => ?_⟩
        intro x dx nx nd ne
        refine ⟨x, dx, _, _, true, rfl, upd_same, rfl, ?_⟩
        rw [upd_upd]
        have s3 := same_make nx nd (.ins (cT A true) dx [("one", y'), ("other", z')])
        exact q _ _ (s1.trans (s2.trans s3)) ⟨x, dx, y', z', rfl, upd_same, h1.same (s2.trans s3), h2.same s3⟩
end
end K18
set_option maxHeartbeats 4000000
namespace K18
open PySem L2
seal PE PT PW PA PS PSs PG PGs PI PO PSet OpR UnR CallR TruR IxR SlR PC PPs
local macro_rules | `(tactic| walk_at "rd1") => `(tactic| first
  | (refine And.intro rfl ?_)
  | (refine And.intro (by assumption) ?_)
  | (refine And.intro (fun _ e => e) ?_)
  | (refine And.intro (TyOf.str _) ?_) | (refine And.intro (TyOf.int _) ?_) | (refine And.intro (TyOf.bl _) ?_) | (refine And.intro TyOf.non ?_)
  | (refine iteT ?_) | (refine iteF ?_)
  | (apply Exists.intro))
local macro_rules | `(tactic| walk_at "rd") => `(tactic| repeat (walk_at "rd1"))

def retE (s : Stmt) : Expr := match defBody s with
  | [.Return (some e) _] => e
  | _ => .Name "" ⟨0, 0, 0, 0⟩
def lamA (e : Expr) : Arguments := match e with
  | .Lambda a _ _ _ => a
  | _ => { posonlyargs := [], args := [], vararg := none, kwonlyargs := [], kw_defaults := [], kwarg := none, defaults := [] }
def lamB (e : Expr) : Expr := match e with
  | .Lambda _ b _ _ => b
  | _ => .Name "" ⟨0, 0, 0, 0⟩
def lamS (e : Expr) : Scope := match e with
  | .Lambda _ _ s _ => s
  | _ => { kind := .function, names := [], isGenerator := false, isCoroutine := false }
def lamP (e : Expr) : Pos := match e with
  | .Lambda _ _ _ p => p
  | _ => ⟨0, 0, 0, 0⟩
/-- the lambda of the law -/
def DL : LamD := { qual := Str.ofString "_law_look" ++ ".<locals>." ++ "<lambda>", params := lamA (retE s_law_look), body := lamB (retE s_law_look), scope := lamS (retE s_law_look), x := "_law_name", y := "_law_told" }
abbrev posL : Pos := lamP (retE s_law_look)
theorem lam_ok : DL.Ok := ⟨rfl, rfl, rfl, rfl, by decide, fun _ _ _ _ _ => rfl⟩
theorem lam_body {P : Program} {w : World} {K : PySem.W.Frag} {mg : Str → Option Value} {base : Heap} {p cc : Addr} {cd : Value} {A : Around} {outer : List Env} {s : Shared} {H : Hp} {E : XK} (hr : Room 0 (A.deeper (PySem.W.envX DL.qual DL.scope s.heap.objs.size p cd [(DL.y, cc)]))) :
    PE (cxLam CX0 P w K mg base DL p cc cd A outer s H E) DL.body (tDGet1 (tVar 1) (tVar 0)) := by
  show PE _ (.Call (.Attribute (.Name "_law_told" _) "get" _) [.Name "_law_name" _] [] _) _
  exact pe_dget1 (hu_of hr) (pv 1) (pv 0) ⟨rfl, rfl, rfl, rfl⟩
/-- what names lead to -/
def rv : Option Int → V
  | none => .non
  | some i => .int i
def DR (H : Hp) (d : Addr) (R : Str → Option Int) (zs : List Str) : Prop := ∃ kvs, H d = some (.dK kvs) ∧ ∀ z ∈ zs, valV kvs (Sum.inr z) = some (rv (R z))
def cmpB (r : Option Int) (h : Str) (m : Int) : Bool := match r with
  | none => false
  | some i => if h = "<" then decide (i < m) else if h = ">" then decide (m < i) else decide (i = m)
def iv : V → Int
  | .int i => i
  | _ => 0
def evT (R : Str → Option Int) : Tr → Bool
  | .is n v => cmpB (R n) "=" (iv v)
  | .cmp n h m => cmpB (R n) h m
  | .neg t => !evT R t
  | .two o s t => if o = true then evT R s || evT R t else evT R s && evT R t
def kd : Tr → Nat
  | .is _ _ => 0
  | .cmp _ _ _ => 1
  | .neg _ => 2
  | .two false _ _ => 3
  | .two true _ _ => 4
def spComp : Sp := fun vs H Q _ => ∃ r h m, vs = [rv r, .str h, .int m] ∧ Q (.bl (cmpB r h m)) H
def spH (A : Adr) (j n : Nat) : Sp := fun vs H Q _ => ∃ (x : V) (p d : Addr) (t : Tr) (R : Str → Option Int) (zs : List Str), vs = [x, .ref p] ∧ SyR A H t x ∧ t.depth < n ∧ kd t = j ∧ t.Ok zs ∧ LamAt DL H p (.ref d) ∧ DR H d R zs ∧ Q (.bl (evT R t)) H
theorem dec_int (i m : Int) : decide (V.int i = V.int m) = decide (i = m) := by
  by_cases e : i = m
  · rw [decide_eq_true e, decide_eq_true (by rw [e])]
  · rw [decide_eq_false e, decide_eq_false (fun z => e (V.int.inj z))]
section
variable {P : Program} {w : World} {K : PySem.W.Frag} {mg : Str → Option Value} {base : Heap} {A : Adr}
theorem ok_compares (T : Txt K mg A) : FnOk P w K mg base CX0 1 A.f_compares A.d_compares ["rank", "how", "number"] spComp := by
  refine T.F_compares.ok sc_compares (fun vs H Q E h => ?_) (fun cdv A0 outer s H vs Q E hr h => ?_)
  · obtain ⟨r, h, m, rfl, _⟩ := h
    rfl
  obtain ⟨r, h, m, rfl, q⟩ := h
  refine ⟨_, (pss_cons (ps_if (pt_cmpR op_isN (pv 0) pe_non (nomark _)) (pss_one (ps_ret pe_bl)) pss_nil)
      (pss_cons (ps_if (pt_cmpR op_eq (pv 1) pe_str (nomark _)) (pss_one (ps_ret (pe_cmpR op_lt (pv 0) (pv 2) (nomark _)))) pss_nil)
      (pss_cons (ps_if (pt_cmpR op_eq (pv 1) pe_str (nomark _)) (pss_one (ps_ret (pe_cmpR op_gt (pv 0) (pv 2) (nomark _)))) pss_nil)
      (pss_one (ps_ret (pe_cmpR op_eq (pv 0) (pv 2) (nomark _))))))), ?_⟩
  cases r with
  | none => exact ⟨_, rfl, rfl, _, rfl, iteT q⟩
  | some i =>
    have q' : Q (.bl (if h = "<" then decide (i < m) else if h = ">" then decide (m < i) else decide (i = m))) H := q
    refine ⟨_, rfl, rfl, _, rfl, iteF ?_⟩
    by_cases h1 : h = "<"
    · rw [if_pos h1] at q'
      exact ⟨_, rfl, rfl, _, rfl, eqS h1 ⟨_, rfl, _, rfl, _, _, rfl, rfl, q'⟩⟩
    rw [if_neg h1] at q'
    refine ⟨_, rfl, rfl, _, rfl, neS h1 ?_⟩
    by_cases h2 : h = ">"
    · rw [if_pos h2] at q'
      exact ⟨_, rfl, rfl, _, rfl, eqS h2 ⟨_, rfl, _, rfl, _, _, rfl, rfl, q'⟩⟩
    rw [if_neg h2] at q'
    refine ⟨_, rfl, rfl, _, rfl, neS h2 ⟨_, rfl, _, rfl, rfl, ?_⟩⟩
    have e := dec_int i m
    rw [← e] at q'
    exact q'
/-- all five know how to hold -/
structure HOk (P : Program) (w : World) (K : PySem.W.Frag) (mg : Str → Option Value) (base : Heap) (A : Adr) (n : Nat) : Prop where
  a : FnOk P w K mg base CX0 n A.f_c_Is_holds A.d_c_Is_holds ["self", "look"] (spH A 0 n)
  b : FnOk P w K mg base CX0 n A.f_c_Compare_holds A.d_c_Compare_holds ["self", "look"] (spH A 1 n)
  c : FnOk P w K mg base CX0 n A.f_c_Not_holds A.d_c_Not_holds ["self", "look"] (spH A 2 n)
  d : FnOk P w K mg base CX0 n A.f_c_Both_holds A.d_c_Both_holds ["self", "look"] (spH A 3 n)
  e : FnOk P w K mg base CX0 n A.f_c_Either_holds A.d_c_Either_holds ["self", "look"] (spH A 4 n)
theorem meth_of (T : Txt K mg A) {n : Nat} (ih : HOk P w K mg base A n) {t : Tr} {x : V} {H : Hp} (hs : SyR A H t x) :
    ∃ (a C dx : Addr) (fs : List (Str × V)) (M : MethJ P w K mg base CX0 n C "holds"), x = .ref a ∧ H a = some (.ins C dx fs) ∧ fs.lookup (Str.ofString "holds") = none ∧ M.dvs = [] ∧ M.sp = spH A (kd t) n := by
  cases t with
  | is nm v =>
    obtain ⟨a, dx, rfl, h⟩ := hs
    exact ⟨a, _, dx, _, ⟨A.f_c_Is_holds, A.d_c_Is_holds, ["self", "look"], spH A 0 n, [], [], T.cl_Is, T.me_Is_holds, ih.a, T.b_c_Is_holds, .nil⟩, rfl, h, rfl, rfl, rfl⟩
  | cmp nm h m =>
    obtain ⟨a, dx, rfl, h⟩ := hs
    exact ⟨a, _, dx, _, ⟨A.f_c_Compare_holds, A.d_c_Compare_holds, ["self", "look"], spH A 1 n, [], [], T.cl_Compare, T.me_Compare_holds, ih.b, T.b_c_Compare_holds, .nil⟩, rfl, h, rfl, rfl, rfl⟩
  | neg t =>
    obtain ⟨a, dx, y, rfl, h, _⟩ := hs
    exact ⟨a, _, dx, _, ⟨A.f_c_Not_holds, A.d_c_Not_holds, ["self", "look"], spH A 2 n, [], [], T.cl_Not, T.me_Not_holds, ih.c, T.b_c_Not_holds, .nil⟩, rfl, h, rfl, rfl, rfl⟩
  | two o s t =>
    obtain ⟨a, dx, y, z, rfl, h, _⟩ := hs
    cases o with
    | false => exact ⟨a, _, dx, _, ⟨A.f_c_Both_holds, A.d_c_Both_holds, ["self", "look"], spH A 3 n, [], [], T.cl_Both, T.me_Both_holds, ih.d, T.b_c_Both_holds, .nil⟩, rfl, h, rfl, rfl, rfl⟩
    | true => exact ⟨a, _, dx, _, ⟨A.f_c_Either_holds, A.d_c_Either_holds, ["self", "look"], spH A 4 n, [], [], T.cl_Either, T.me_Either_holds, ih.e, T.b_c_Either_holds, .nil⟩, rfl, h, rfl, rfl, rfl⟩
theorem lookup_lam {H : Hp} {d cc : Addr} {v : V} {R : Str → Option Int} {zs : List Str} {z : Str} (hd : DR H d R zs) (hz : z ∈ zs) (hc : H cc = some (cellO cc v)) : IsD (del H cc) d ∧ DGet (del H cc) d (.str z) (some (rv (R z))) := by
  obtain ⟨kvs, hk, hv⟩ := hd
  have hne : d ≠ cc := fun e => by rw [e, hc] at hk; cases hk
  have hk' : del H cc d = some (.dK kvs) := by rw [del_ne hne]; exact hk
  refine ⟨.inl ⟨kvs, .inl hk'⟩, ?_⟩
  rw [← hv z hz]
  exact DGet.k (k := Sum.inr z) hk'
theorem ok_is_holds (T : Txt K mg A) {kr : Nat} : FnOk P w K mg base CX0 (kr + 1) A.f_c_Is_holds A.d_c_Is_holds ["self", "look"] (spH A 0 (kr + 1)) := by
  have G_compares := ok_compares (P := P) (w := w) (base := base) T
  refine T.F_c_Is_holds.ok sc_c_Is_holds (fun vs H Q E h => ?_) (fun cdv A0 outer s H vs Q E hr h => ?_)
  · obtain ⟨x, p, d, t, R, zs, rfl, _⟩ := h
    rfl
  obtain ⟨x, p, d, t, R, zs, rfl, hs, hd, hk, hok, ⟨cc, c', l1, l2, l3⟩, hr', q⟩ := h
  have hk1 : 1 ≤ kr := by have := t.depth_pos; omega
  refine ⟨_, (pss_one (ps_ret (pe_call G_compares (hr.mono (by first | decide | omega)) rfl T.m_compares T.k_compares T.b_compares .nil pass0 (pa_cons (pe_callL lam_ok (fun _ _ _ _ _ _ _ _ hr => lam_body hr) (hr.mono (by first | decide | omega)) pass0 (pv 1) (pa_cons (pe_fld (pv 0) rfl) pa_nil)) (pa_cons pe_str (pa_cons (pe_fld (pv 0) rfl) pa_nil)))))), ?_⟩
  cases t with
  | is nm v =>
    obtain ⟨a, dx, rfl, h⟩ := hs
    obtain ⟨hz, k, rfl, _⟩ := hok
    obtain ⟨g1, g2⟩ := lookup_lam hr' hz l2
    refine ⟨_, rfl, p, rfl, _, rfl, a, _, dx, _, _, rfl, h, T.cl_Is, T.no_Is_name, rfl, .str nm, .ref d, cc, c', rfl, l1, l2, l3, _, rfl, d, rfl, g1, _, rfl, _, g2, rfl, ?_⟩
    exact ⟨_, rfl, a, _, dx, _, _, rfl, h, T.cl_Is, T.no_Is_place, rfl, R nm, _, k, rfl, q⟩
  | cmp _ _ _ => cases hk
  | neg _ => cases hk
  | two o _ _ => cases o <;> cases hk
theorem ok_co_holds (T : Txt K mg A) {kr : Nat} : FnOk P w K mg base CX0 (kr + 1) A.f_c_Compare_holds A.d_c_Compare_holds ["self", "look"] (spH A 1 (kr + 1)) := by
  have G_compares := ok_compares (P := P) (w := w) (base := base) T
  refine T.F_c_Compare_holds.ok sc_c_Compare_holds (fun vs H Q E h => ?_) (fun cdv A0 outer s H vs Q E hr h => ?_)
  · obtain ⟨x, p, d, t, R, zs, rfl, _⟩ := h
    rfl
  obtain ⟨x, p, d, t, R, zs, rfl, hs, hd, hk, hok, ⟨cc, c', l1, l2, l3⟩, hr', q⟩ := h
  have hk1 : 1 ≤ kr := by have := t.depth_pos; omega
  refine ⟨_, (pss_one (ps_ret (pe_call G_compares (hr.mono (by first | decide | omega)) rfl T.m_compares T.k_compares T.b_compares .nil pass0 (pa_cons (pe_callL lam_ok (fun _ _ _ _ _ _ _ _ hr => lam_body hr) (hr.mono (by first | decide | omega)) pass0 (pv 1) (pa_cons (pe_fld (pv 0) rfl) pa_nil)) (pa_cons (pe_fld (pv 0) rfl) (pa_cons (pe_fld (pv 0) rfl) pa_nil)))))), ?_⟩
  cases t with
  | cmp nm hh m =>
    obtain ⟨a, dx, rfl, h⟩ := hs
    obtain ⟨g1, g2⟩ := lookup_lam hr' hok.1 l2
    refine ⟨_, rfl, p, rfl, _, rfl, a, _, dx, _, _, rfl, h, T.cl_Compare, T.no_Compare_name, rfl, .str nm, .ref d, cc, c', rfl, l1, l2, l3, _, rfl, d, rfl, g1, _, rfl, _, g2, rfl, ?_⟩
    exact ⟨_, rfl, a, _, dx, _, _, rfl, h, T.cl_Compare, T.no_Compare_how, rfl, _, rfl, a, _, dx, _, _, rfl, h, T.cl_Compare, T.no_Compare_number, rfl, R nm, _, m, rfl, q⟩
  | is _ _ => cases hk
  | neg _ => cases hk
  | two o _ _ => cases o <;> cases hk
theorem ok_no_holds (T : Txt K mg A) {kr : Nat} (ih : HOk P w K mg base A kr) : FnOk P w K mg base CX0 (kr + 1) A.f_c_Not_holds A.d_c_Not_holds ["self", "look"] (spH A 2 (kr + 1)) := by
  refine T.F_c_Not_holds.ok sc_c_Not_holds (fun vs H Q E h => ?_) (fun cdv A0 outer s H vs Q E hr h => ?_)
  · obtain ⟨x, p, d, t, R, zs, rfl, _⟩ := h
    rfl
  obtain ⟨x, p, d, t, R, zs, rfl, hs, hd, hk, hok, hlam, hr', q⟩ := h
  refine ⟨_, (pss_one (ps_ret (pe_not (pe_methG (CX := CX0) (k := kr) (hr.mono (by first | decide | omega)) pass0 (pe_fld (pv 0) rfl) (pa_cons (pv 1) pa_nil))))), ?_⟩
  cases t with
  | neg t =>
    obtain ⟨a, dx, y, rfl, h, hs1⟩ := hs
    have hd' : t.depth + 1 < kr + 1 := hd
    obtain ⟨a1, C1, dx1, fs1, M, ey, h1, hl, hdv, hsp⟩ := meth_of T ih hs1
    refine ⟨_, rfl, a, _, dx, _, _, rfl, h, T.cl_Not, T.no_Not_test, rfl, a1, C1, dx1, fs1, M, ey, h1, hl, _, rfl, ?_⟩
    rw [hdv, hsp]
    exact ⟨y, p, d, t, R, zs, rfl, hs1, by omega, rfl, hok, hlam, hr', _, rfl, q⟩
  | is _ _ => cases hk
  | cmp _ _ _ => cases hk
  | two o _ _ => cases o <;> cases hk
theorem ok_bo_holds (T : Txt K mg A) {kr : Nat} (ih : HOk P w K mg base A kr) : FnOk P w K mg base CX0 (kr + 1) A.f_c_Both_holds A.d_c_Both_holds ["self", "look"] (spH A 3 (kr + 1)) := by
  refine T.F_c_Both_holds.ok sc_c_Both_holds (fun vs H Q E h => ?_) (fun cdv A0 outer s H vs Q E hr h => ?_)
  · obtain ⟨x, p, d, t, R, zs, rfl, _⟩ := h
    rfl
  obtain ⟨x, p, d, t, R, zs, rfl, hs, hd, hk, hok, hlam, hr', q⟩ := h
  refine ⟨_, (pss_one (ps_ret (pe_and (pe_methG (CX := CX0) (k := kr) (hr.mono (by first | decide | omega)) pass0 (pe_fld (pv 0) rfl) (pa_cons (pv 1) pa_nil)) (pe_one (pe_methG (CX := CX0) (k := kr) (hr.mono (by first | decide | omega)) pass0 (pe_fld (pv 0) rfl) (pa_cons (pv 1) pa_nil)))))), ?_⟩
  cases t with
  | two o t1 t2 =>
    cases o with
    | true => cases hk
    | false =>
      obtain ⟨a, dx, y, z, rfl, h, hs1, hs2⟩ := hs
      have hd' : 1 + max t1.depth t2.depth < kr + 1 := hd
      obtain ⟨a1, C1, dx1, fs1, M, ey, h1, hl, hdv, hsp⟩ := meth_of T ih hs1
      obtain ⟨a2, C2, dx2, fs2, M2, ez, h2, hl2, hdv2, hsp2⟩ := meth_of T ih hs2
      have q' : Q (.bl (evT R t1 && evT R t2)) H := q
      refine ⟨_, rfl, a, _, dx, _, _, rfl, h, T.cl_Both, T.no_Both_one, rfl, a1, C1, dx1, fs1, M, ey, h1, hl, _, rfl, ?_⟩
      rw [hdv, hsp]
      refine ⟨y, p, d, t1, R, zs, rfl, hs1, by omega, rfl, hok.1, hlam, hr', _, rfl, ?_⟩
      cases e1 : evT R t1 with
      | false => rw [e1] at q'; exact iteF q'
      | true =>
        rw [e1, Bool.true_and] at q'
        refine iteT ⟨_, rfl, a, _, dx, _, _, rfl, h, T.cl_Both, T.no_Both_other, rfl, a2, C2, dx2, fs2, M2, ez, h2, hl2, _, rfl, ?_⟩
        rw [hdv2, hsp2]
        exact ⟨z, p, d, t2, R, zs, rfl, hs2, by omega, rfl, hok.2, hlam, hr', q'⟩
  | is _ _ => cases hk
  | cmp _ _ _ => cases hk
  | neg _ => cases hk
theorem ok_ei_holds (T : Txt K mg A) {kr : Nat} (ih : HOk P w K mg base A kr) : FnOk P w K mg base CX0 (kr + 1) A.f_c_Either_holds A.d_c_Either_holds ["self", "look"] (spH A 4 (kr + 1)) := by
  refine T.F_c_Either_holds.ok sc_c_Either_holds (fun vs H Q E h => ?_) (fun cdv A0 outer s H vs Q E hr h => ?_)
  · obtain ⟨x, p, d, t, R, zs, rfl, _⟩ := h
    rfl
  obtain ⟨x, p, d, t, R, zs, rfl, hs, hd, hk, hok, hlam, hr', q⟩ := h
  refine ⟨_, (pss_one (ps_ret (pe_or (pe_methG (CX := CX0) (k := kr) (hr.mono (by first | decide | omega)) pass0 (pe_fld (pv 0) rfl) (pa_cons (pv 1) pa_nil)) (pe_one (pe_methG (CX := CX0) (k := kr) (hr.mono (by first | decide | omega)) pass0 (pe_fld (pv 0) rfl) (pa_cons (pv 1) pa_nil)))))), ?_⟩
  cases t with
  | two o t1 t2 =>
    cases o with
    | false => cases hk
    | true =>
      obtain ⟨a, dx, y, z, rfl, h, hs1, hs2⟩ := hs
      have hd' : 1 + max t1.depth t2.depth < kr + 1 := hd
      obtain ⟨a1, C1, dx1, fs1, M, ey, h1, hl, hdv, hsp⟩ := meth_of T ih hs1
      obtain ⟨a2, C2, dx2, fs2, M2, ez, h2, hl2, hdv2, hsp2⟩ := meth_of T ih hs2
      have q' : Q (.bl (evT R t1 || evT R t2)) H := q
      refine ⟨_, rfl, a, _, dx, _, _, rfl, h, T.cl_Either, T.no_Either_one, rfl, a1, C1, dx1, fs1, M, ey, h1, hl, _, rfl, ?_⟩
      rw [hdv, hsp]
      refine ⟨y, p, d, t1, R, zs, rfl, hs1, by omega, rfl, hok.1, hlam, hr', _, rfl, ?_⟩
      cases e1 : evT R t1 with
      | true => rw [e1, Bool.true_or] at q'; exact iteT q'
      | false =>
        rw [e1, Bool.false_or] at q'
        refine iteF ⟨_, rfl, a, _, dx, _, _, rfl, h, T.cl_Either, T.no_Either_other, rfl, a2, C2, dx2, fs2, M2, ez, h2, hl2, _, rfl, ?_⟩
        rw [hdv2, hsp2]
        exact ⟨z, p, d, t2, R, zs, rfl, hs2, by omega, rfl, hok.2, hlam, hr', q'⟩
  | is _ _ => cases hk
  | cmp _ _ _ => cases hk
  | neg _ => cases hk
theorem ok_holds (T : Txt K mg A) : ∀ n : Nat, HOk P w K mg base A n
  | 0 => by
    have len : ∀ (j : Nat) (vs : List V) (H : Hp) (Q : VK) (E : XK), spH A j 0 vs H Q E → False := fun j vs H Q E h => by
      obtain ⟨x, p, d, t, R, zs, rfl, _, hd, _⟩ := h
      exact absurd hd (by omega)
    exact ⟨⟨fun vs H Q E h => (len _ _ _ _ _ h).elim, fun _ _ _ _ _ _ _ _ _ _ _ _ _ h => (len _ _ _ _ _ h).elim⟩, ⟨fun vs H Q E h => (len _ _ _ _ _ h).elim, fun _ _ _ _ _ _ _ _ _ _ _ _ _ h => (len _ _ _ _ _ h).elim⟩, ⟨fun vs H Q E h => (len _ _ _ _ _ h).elim, fun _ _ _ _ _ _ _ _ _ _ _ _ _ h => (len _ _ _ _ _ h).elim⟩, ⟨fun vs H Q E h => (len _ _ _ _ _ h).elim, fun _ _ _ _ _ _ _ _ _ _ _ _ _ h => (len _ _ _ _ _ h).elim⟩, ⟨fun vs H Q E h => (len _ _ _ _ _ h).elim, fun _ _ _ _ _ _ _ _ _ _ _ _ _ h => (len _ _ _ _ _ h).elim⟩⟩
  | n + 1 =>
    have ih := ok_holds T n
    ⟨ok_is_holds T, ok_co_holds T, ok_no_holds T ih, ok_bo_holds T ih, ok_ei_holds T ih⟩
theorem ok_law_look (T : Txt K mg A) (B : BMain mg base) {c Pt : Addr} (hc : A.d_law_look.code = .ref c) (hh : PySem.W.codeHdIn K c Pt = true) : FnOk P w K mg base CX0 1 A.f_law_look A.d_law_look ["_law_told"] (spLam DL posL Pt) := by
  obtain ⟨oc, od, kV, doc, pm, an, cdv, ct, osl, e, lk, hcd⟩ := id T.F_law_look.ex
  rw [e] at lk hc ⊢
  exact fn_lam (D := DL) (pos := posL) lk hcd sc_law_look rfl lam_ok rfl (fun _ => rfl) hc hh B
end
end K18
set_option maxHeartbeats 4000000
namespace K18
open PySem L2
seal PE PT PW PA PS PSs PG PGs PI PO PSet OpR UnR CallR TruR IxR SlR PC PPs
local macro_rules | `(tactic| walk_at "rd1") => `(tactic| first
  | (refine And.intro rfl ?_)
  | (refine And.intro (by assumption) ?_)
  | (refine And.intro (fun _ e => e) ?_)
  | (refine And.intro (TyOf.str _) ?_) | (refine And.intro (TyOf.int _) ?_) | (refine And.intro (TyOf.bl _) ?_) | (refine And.intro TyOf.non ?_)
  | (refine iteT ?_) | (refine iteF ?_)
  | (apply Exists.intro))
local macro_rules | `(tactic| walk_at "rd") => `(tactic| repeat (walk_at "rd1"))

/-- the same but for tables -/
def SameN (H H' : Hp) : Prop := ∀ b o, H b = some o → (∀ ps, o ≠ .tbl ps) → H' b = some o
theorem SameN.refl (H : Hp) : SameN H H := fun _ _ e _ => e
theorem SameN.trans {H H1 H2 : Hp} (a : SameN H H1) (b : SameN H1 H2) : SameN H H2 := fun c o e n => b c o (a c o e n) n
theorem SameN.of {H H' : Hp} (a : Same H H') : SameN H H' := fun c o e _ => a c o e
theorem SameN.ofB {D : LamD} {pos : Pos} {Pt : Addr} {H H' : Hp} (t : Tab D pos H Pt) (a : SameB Pt H H') : SameN H H' := fun c o e n => a c o (by
  rintro rfl
  rcases t with t | ⟨c', t, _⟩
  · rw [t] at e; cases e; exact n _ rfl
  · rw [t] at e; cases e; exact n _ rfl) e
theorem SameN.lst {H H' : Hp} {a : Addr} {xs : List V} (s : SameN H H') (h : H a = some (.lst xs)) : H' a = some (.lst xs) := s _ _ h (by intro _ z; cases z)
theorem SameN.sqT {K : PySem.W.Frag} {H H' : Hp} {a : Addr} {xs : List V} (s : SameN H H') (h : SqT K H a xs) : SqT K H' a xs := by
  rcases h with (h | ⟨o, h⟩) | h
  · exact .inl (.inl (s _ _ h (by intro _ z; cases z)))
  · exact .inl (.inr ⟨o, s _ _ h (by intro _ z; cases z)⟩)
  · exact .inr h
theorem Tab.same {D : LamD} {pos : Pos} {Pt : Addr} {H H' : Hp} (s : Same H H') (h : Tab D pos H Pt) : Tab D pos H' Pt := by
  rcases h with t | ⟨c', t, u⟩
  · exact .inl (s _ _ t)
  · exact .inr ⟨c', s _ _ t, s _ _ u⟩
end K18

namespace K18
open PySem L2
seal PE PT PW PA PS PSs PG PGs PI PO PSet OpR UnR CallR TruR IxR SlR PC PPs
local macro_rules | `(tactic| walk_at "rd1") => `(tactic| first
  | (refine And.intro rfl ?_)
  | (refine And.intro (by assumption) ?_)
  | (refine And.intro (fun _ e => e) ?_)
  | (refine And.intro (TyOf.str _) ?_) | (refine And.intro (TyOf.int _) ?_) | (refine And.intro (TyOf.bl _) ?_) | (refine And.intro TyOf.non ?_)
  | (refine iteT ?_) | (refine iteF ?_)
  | (apply Exists.intro))
local macro_rules | `(tactic| walk_at "rd") => `(tactic| repeat (walk_at "rd1"))

theorem SameN.tr {K : PySem.W.Frag} {H H' : Hp} (s : SameN H H') : ∀ {t : Tr} {x : V}, TrR K H t x → TrR K H' t x
  | .is _ _, _, ⟨a, e, h⟩ => ⟨a, e, s.sqT h⟩
  | .cmp _ _ _, _, ⟨a, e, h⟩ => ⟨a, e, s.sqT h⟩
  | .neg _, _, ⟨a, y, e, h, k⟩ => ⟨a, y, e, s.sqT h, SameN.tr s k⟩
  | .two _ _ _, _, ⟨a, y, z, e, h, k, l⟩ => ⟨a, y, z, e, s.sqT h, SameN.tr s k, SameN.tr s l⟩
theorem SameN.sy {A : Adr} {H H' : Hp} (s : SameN H H') {t : Tr} {x : V} (h : SyR A H t x) : SyR A H' t x := SyR.kt (fun b C dx fs e => s _ _ e (by intro _ z; cases z)) h
theorem SameN.dr {H H' : Hp} {d : Addr} {R : Str → Option Int} {zs : List Str} (s : SameN H H') (h : DR H d R zs) : DR H' d R zs := let ⟨kvs, e, k⟩ := h; ⟨kvs, s _ _ e (by intro _ z; cases z), k⟩
theorem SameN.lam {H H' : Hp} {p : Addr} {v : V} (s : SameN H H') (h : LamAt DL H p v) : LamAt DL H' p v := let ⟨cc, c', a, b, c⟩ := h; ⟨cc, c', s _ _ a (by intro _ z; cases z), s _ _ b (by intro _ z; cases z), s _ _ c (by intro _ z; cases z)⟩
/-! spans -/
abbrev Spn := Option (Int × Int)
def SvR (K : PySem.W.Frag) (H : Hp) : Spn → V → Prop
  | none, x => x = .non
  | some p, x => ∃ a, x = .ref a ∧ SqT K H a [.int p.1, .int p.2]
theorem SvR.sameN {K : PySem.W.Frag} {H H' : Hp} (s : SameN H H') : ∀ {o : Spn} {x : V}, SvR K H o x → SvR K H' o x
  | none, _, h => h
  | some _, _, ⟨a, e, h⟩ => ⟨a, e, s.sqT h⟩
def SGood : Spn → Prop
  | none => True
  | some p => p.1 ≤ p.2
def DS (K : PySem.W.Frag) (H : Hp) (d : Addr) (S : Str → Spn) (zs : List Str) : Prop := ∃ kvs, H d = some (.dK kvs) ∧ ∀ z ∈ zs, SGood (S z) ∧ ∃ x, valV kvs (Sum.inr z) = some x ∧ SvR K H (S z) x
theorem SameN.ds {K : PySem.W.Frag} {H H' : Hp} {d : Addr} {S : Str → Spn} {zs : List Str} (s : SameN H H') (h : DS K H d S zs) : DS K H' d S zs :=
  let ⟨kvs, e, k⟩ := h; ⟨kvs, s _ _ e (by intro _ z; cases z), fun z hz => let ⟨g, x, v, r⟩ := k z hz; ⟨g, x, v, r.sameN s⟩⟩
def tv : Option Bool → V
  | none => .non
  | some b => .bl b
def surB (s : Spn) (h : Str) (m : Int) : Option Bool := match s with
  | none => some false
  | some p => if (cmpB (some p.1) h m && cmpB (some p.2) h m) = true then some true else if (cmpB (some p.1) h m || cmpB (some p.2) h m || (decide (p.1 < m) && decide (m < p.2))) = true then none else some false
/-- three-valued: o decides -/
def two3 (o : Bool) (a b : Option Bool) : Option Bool := if a = some o ∨ b = some o then some o else if a = none ∨ b = none then none else some (!o)
def suT (S : Str → Spn) : Tr → Option Bool
  | .is n v => surB (S n) "=" (iv v)
  | .cmp n h m => surB (S n) h m
  | .neg t => (suT S t).map (!·)
  | .two o s t => two3 o (suT S s) (suT S t)
def spSC (K : PySem.W.Frag) : Sp := fun vs H Q _ => ∃ x s h m, vs = [x, .str h, .int m] ∧ SvR K H s x ∧ ∀ H', Same H H' → Q (tv (surB s h m)) H'
section
variable {P : Program} {w : World} {K : PySem.W.Frag} {mg : Str → Option Value} {base : Heap} {A : Adr}
theorem ok_surely_compares (T : Txt K mg A) : FnOk P w K mg base CX0 2 A.f_surely_compares A.d_surely_compares ["span", "how", "number"] (spSC K) := by
  have G_compares := ok_compares (P := P) (w := w) (base := base) T
  refine T.F_surely_compares.ok sc_surely_compares (fun vs H Q E h => ?_) (fun cdv A0 outer s H vs Q E hr h => ?_)
  · obtain ⟨x, s, h, m, rfl, _⟩ := h
    rfl
  obtain ⟨x, s, h, m, rfl, hx, q⟩ := h
  refine ⟨_, (pss_cons (ps_if (pt_cmpR op_isN (pv 0) pe_non (nomark _)) (pss_one (ps_ret pe_bl)) pss_nil)
      (pss_cons (ps_compR (i := 3) sc_surely_compares.nd rfl (by first | exact Or.inl rfl | exact Or.inr rfl) (compOk_of (x := "end") (M := ["span", "how", "number", "at_ends", "between"]) rfl (by rfl)) rfl (pi_tup (pv 0)) (fun _ _ _ _ => (pe_call G_compares (hr.mono (by first | decide | omega)) rfl T.m_compares T.k_compares T.b_compares .nil pass0 (pa_cons (pv 0) (pa_cons (pv 2) (pa_cons (pv 3) pa_nil))))))
      (pss_cons (ps_if (pt_val (pe_callB (call_all rfl) (by rfl) T.n_all Bt.all (pa_cons (pv 3) pa_nil))) (pss_one (ps_ret pe_bl)) pss_nil)
      (pss_cons (ps_set (i := 4) sc_surely_compares.nd rfl (by first | exact Or.inl rfl | exact Or.inr rfl) (pe_chain op_lt op_lt (pe_ix ix_tup (pv 0) pe_int (fun _ _ => rfl)) (pv 2) (pe_ix ix_tup (pv 0) pe_int (fun _ _ => rfl))))
      (pss_one (ps_ret (pe_ifExp (PW.pt (pw_or (pt_val (pe_callB (call_any rfl) (by rfl) T.n_any PyProof.Rows.boot_any (pa_cons (pv 3) pa_nil))) (pw_or1 (pt_val (pv 4))))) pe_non pe_bl))))))), ?_⟩
  cases s with
  | none =>
    cases hx
    exact ⟨_, rfl, rfl, _, rfl, iteT (q _ (Same.refl _))⟩
  | some p =>
    obtain ⟨lo, hi⟩ := p
    obtain ⟨a, rfl, ha⟩ := hx
    refine ⟨_, rfl, rfl, _, rfl, iteF ?_⟩
    refine ⟨_, rfl, a, rfl, ⟨_, ha⟩, ?_⟩
    refine comp_tup (xs := [.int lo, .int hi]) (by show 2 ≤ sizeLine; decide) (fun i ys H' => H = H' ∧ ys = ([lo, hi].take i).map (fun e => V.bl (cmpB (some e) h m))) ⟨rfl, rfl⟩ (fun i ys H' hw => by rw [← hw.1]; exact ha) (fun i x ys H' hx hl hw => ?_) (fun ys H' hl hw pe hpe => ?_)
    · obtain ⟨rfl, rfl⟩ := hw
      obtain ⟨e, he, rfl⟩ := map_get (l := [lo, hi]) (f := V.int) hx
      refine ⟨_, rfl, _, rfl, _, rfl, some e, h, m, rfl, rfl, ?_⟩
      rw [List.take_succ, he, List.map_append]; rfl
    obtain ⟨rfl, rfl⟩ := hw
    have q' : ∀ H', Same H H' → Q (tv (if (cmpB (some lo) h m && cmpB (some hi) h m) = true then some true else if (cmpB (some lo) h m || cmpB (some hi) h m || (decide (lo < m) && decide (m < hi))) = true then none else some false)) H' := q
    have se := same_new hpe (.lst [.bl (cmpB (some lo) h m), .bl (cmpB (some hi) h m)])
    have b0 : atI [V.int lo, V.int hi] ((0 : Nat) : Int) = some (.int lo) := atI_nat rfl
    have b1 : atI [V.int lo, V.int hi] ((1 : Nat) : Int) = some (.int hi) := atI_nat rfl
    dsimp only [List.length_cons, List.length_nil, List.take, List.map] at hpe ⊢
    generalize cmpB (some lo) h m = c0 at q' se hpe ⊢
    generalize cmpB (some hi) h m = c1 at q' se hpe ⊢
    refine ⟨_, rfl, pe, [c0, c1], rfl, SqL.of upd_same, _, rfl, ite2 (fun d => ?_) (fun d => ?_)⟩
    · have d' : (c0 && c1) = true := by rw [← d]; cases c0 <;> cases c1 <;> rfl
      have := q' _ se
      rw [if_pos d'] at this
      exact this
    have d' : ¬ (c0 && c1) = true := fun e => d (by rw [← e]; cases c0 <;> cases c1 <;> rfl)
    have q2 := q' _ se
    rw [if_neg d'] at q2
    have fin : ∀ (bt : Bool), bt = (decide (lo < m) && decide (m < hi)) → Q (tv (if (c0 || c1 || bt) = true then none else some false)) (upd H pe (.lst [.bl c0, .bl c1])) := fun bt e => by rw [e]; exact q2
    refine ⟨_, rfl, a, _, _, _, rfl, rfl, se.seqT ha, b0, _, rfl, _, _, rfl, rfl, _, rfl, ite2 (fun d => ?_) (fun d => ?_)⟩
    · refine ⟨_, rfl, a, _, _, _, rfl, rfl, se.seqT ha, b1, _, _, rfl, rfl, ?_⟩
      have f := fin (decide (m < hi)) (by rw [show decide (lo < m) = true from d]; rfl)
      refine ⟨_, rfl, pe, [c0, c1], rfl, SqL.of upd_same, _, rfl, ?_⟩
      cases c0 <;> cases c1 <;> first | exact iteT f | skip
      exact iteF ⟨_, rfl, _, rfl, by generalize decide (m < hi) = b at f ⊢; cases b <;> first | exact iteT f | exact iteF f⟩
    · have f := fin false (by rw [show decide (lo < m) = false from Bool.eq_false_iff.mpr d]; rfl)
      refine ⟨_, rfl, pe, [c0, c1], rfl, SqL.of upd_same, _, rfl, ?_⟩
      cases c0 <;> cases c1 <;> first | exact iteT f | skip
      exact iteF ⟨_, rfl, _, rfl, iteF f⟩
end
end K18
set_option maxHeartbeats 4000000
namespace K18
open PySem L2
seal PE PT PW PA PS PSs PG PGs PI PO PSet OpR UnR CallR TruR IxR SlR PC PPs
local macro_rules | `(tactic| walk_at "rd1") => `(tactic| first
  | (refine And.intro rfl ?_)
  | (refine And.intro (by assumption) ?_)
  | (refine And.intro (fun _ e => e) ?_)
  | (refine And.intro (TyOf.str _) ?_) | (refine And.intro (TyOf.int _) ?_) | (refine And.intro (TyOf.bl _) ?_) | (refine And.intro TyOf.non ?_)
  | (refine iteT ?_) | (refine iteF ?_)
  | (apply Exists.intro))
local macro_rules | `(tactic| walk_at "rd") => `(tactic| repeat (walk_at "rd1"))

def spS (A : Adr) (K : PySem.W.Frag) (j n : Nat) : Sp := fun vs H Q _ => ∃ (x : V) (p d : Addr) (t : Tr) (S : Str → Spn) (zs : List Str), vs = [x, .ref p] ∧ SyR A H t x ∧ t.depth < n ∧ kd t = j ∧ t.Ok zs ∧ LamAt DL H p (.ref d) ∧ DS K H d S zs ∧ ∀ H', Same H H' → Q (tv (suT S t)) H'
def spB (A : Adr) (K : PySem.W.Frag) (n : Nat) : Sp := fun vs H Q _ => ∃ (x : V) (p d : Addr) (o : Bool) (s t : Tr) (S : Str → Spn) (zs : List Str), vs = [x, .ref p] ∧ SyR A H (.two o s t) x ∧ s.depth < n ∧ t.depth < n ∧ s.Ok zs ∧ t.Ok zs ∧ LamAt DL H p (.ref d) ∧ DS K H d S zs ∧ ∀ a H', Same H H' → SqT K H' a [tv (suT S s), tv (suT S t)] → Q (.ref a) H'
structure SOk (P : Program) (w : World) (K : PySem.W.Frag) (mg : Str → Option Value) (base : Heap) (A : Adr) (n k : Nat) : Prop where
  a : FnOk P w K mg base CX0 k A.f_c_Is_sure A.d_c_Is_sure ["self", "look"] (spS A K 0 n)
  b : FnOk P w K mg base CX0 k A.f_c_Compare_sure A.d_c_Compare_sure ["self", "look"] (spS A K 1 n)
  c : FnOk P w K mg base CX0 k A.f_c_Not_sure A.d_c_Not_sure ["self", "look"] (spS A K 2 n)
  d : FnOk P w K mg base CX0 k A.f_c_Both_sure A.d_c_Both_sure ["self", "look"] (spS A K 3 n)
  e : FnOk P w K mg base CX0 k A.f_c_Either_sure A.d_c_Either_sure ["self", "look"] (spS A K 4 n)
section
variable {P : Program} {w : World} {K : PySem.W.Frag} {mg : Str → Option Value} {base : Heap} {A : Adr}
theorem sure_of (T : Txt K mg A) {n k : Nat} (ih : SOk P w K mg base A n k) {t : Tr} {x : V} {H : Hp} (hs : SyR A H t x) :
    ∃ (a C dx : Addr) (fs : List (Str × V)) (M : MethJ P w K mg base CX0 k C "sure"), x = .ref a ∧ H a = some (.ins C dx fs) ∧ fs.lookup (Str.ofString "sure") = none ∧ M.dvs = [] ∧ M.sp = spS A K (kd t) n := by
  cases t with
  | is nm v =>
    obtain ⟨a, dx, rfl, h⟩ := hs
    exact ⟨a, _, dx, _, ⟨A.f_c_Is_sure, A.d_c_Is_sure, ["self", "look"], spS A K 0 n, [], [], T.cl_Is, T.me_Is_sure, ih.a, T.b_c_Is_sure, .nil⟩, rfl, h, rfl, rfl, rfl⟩
  | cmp nm h m =>
    obtain ⟨a, dx, rfl, h⟩ := hs
    exact ⟨a, _, dx, _, ⟨A.f_c_Compare_sure, A.d_c_Compare_sure, ["self", "look"], spS A K 1 n, [], [], T.cl_Compare, T.me_Compare_sure, ih.b, T.b_c_Compare_sure, .nil⟩, rfl, h, rfl, rfl, rfl⟩
  | neg t =>
    obtain ⟨a, dx, y, rfl, h, _⟩ := hs
    exact ⟨a, _, dx, _, ⟨A.f_c_Not_sure, A.d_c_Not_sure, ["self", "look"], spS A K 2 n, [], [], T.cl_Not, T.me_Not_sure, ih.c, T.b_c_Not_sure, .nil⟩, rfl, h, rfl, rfl, rfl⟩
  | two o s t =>
    obtain ⟨a, dx, y, z, rfl, h, _⟩ := hs
    cases o with
    | false => exact ⟨a, _, dx, _, ⟨A.f_c_Both_sure, A.d_c_Both_sure, ["self", "look"], spS A K 3 n, [], [], T.cl_Both, T.me_Both_sure, ih.d, T.b_c_Both_sure, .nil⟩, rfl, h, rfl, rfl, rfl⟩
    | true => exact ⟨a, _, dx, _, ⟨A.f_c_Either_sure, A.d_c_Either_sure, ["self", "look"], spS A K 4 n, [], [], T.cl_Either, T.me_Either_sure, ih.e, T.b_c_Either_sure, .nil⟩, rfl, h, rfl, rfl, rfl⟩
theorem bsure_of (T : Txt K mg A) {n k : Nat} (ih : FnOk P w K mg base CX0 k A.f_c_Pair_both_sure A.d_c_Pair_both_sure ["self", "look"] (spB A K n)) {o : Bool} {s t : Tr} {x : V} {H : Hp} (hs : SyR A H (.two o s t) x) :
    ∃ (a C dx : Addr) (fs : List (Str × V)) (M : MethJ P w K mg base CX0 k C "both_sure"), x = .ref a ∧ H a = some (.ins C dx fs) ∧ fs.lookup (Str.ofString "both_sure") = none ∧ M.dvs = [] ∧ M.sp = spB A K n := by
  obtain ⟨a, dx, y, z, rfl, h, _⟩ := hs
  cases o with
  | false => exact ⟨a, _, dx, _, ⟨A.f_c_Pair_both_sure, A.d_c_Pair_both_sure, ["self", "look"], spB A K n, [], [], T.cl_Both, T.me_Both_both_sure, ih, T.b_c_Pair_both_sure, .nil⟩, rfl, h, rfl, rfl, rfl⟩
  | true => exact ⟨a, _, dx, _, ⟨A.f_c_Pair_both_sure, A.d_c_Pair_both_sure, ["self", "look"], spB A K n, [], [], T.cl_Either, T.me_Either_both_sure, ih, T.b_c_Pair_both_sure, .nil⟩, rfl, h, rfl, rfl, rfl⟩
theorem lookup_lamS {H : Hp} {d cc : Addr} {v : V} {S : Str → Spn} {zs : List Str} {z : Str} (hd : DS K H d S zs) (hz : z ∈ zs) (hc : H cc = some (cellO cc v)) : ∃ x, SvR K H (S z) x ∧ IsD (del H cc) d ∧ DGet (del H cc) d (.str z) (some x) := by
  obtain ⟨kvs, hk, hv⟩ := hd
  have hne : d ≠ cc := fun e => by rw [e, hc] at hk; cases hk
  have hk' : del H cc d = some (.dK kvs) := by rw [del_ne hne]; exact hk
  obtain ⟨_, x, hx, hr⟩ := hv z hz
  refine ⟨x, hr, .inl ⟨kvs, .inl hk'⟩, ?_⟩
  rw [← hx]
  exact DGet.k (k := Sum.inr z) hk'
theorem ok_is_sure (T : Txt K mg A) {n k : Nat} (hk2 : 2 ≤ k) : FnOk P w K mg base CX0 (k + 1) A.f_c_Is_sure A.d_c_Is_sure ["self", "look"] (spS A K 0 n) := by
  have G_surely_compares := ok_surely_compares (P := P) (w := w) (base := base) T
  refine T.F_c_Is_sure.ok sc_c_Is_sure (fun vs H Q E h => ?_) (fun cdv A0 outer s H vs Q E hr h => ?_)
  · obtain ⟨x, p, d, t, S, zs, rfl, _⟩ := h
    rfl
  obtain ⟨x, p, d, t, S, zs, rfl, hs, hd, hk, hok, ⟨cc, c', l1, l2, l3⟩, hr', q⟩ := h
  refine ⟨_, (pss_one (ps_ret (pe_call G_surely_compares (hr.mono (by first | decide | omega)) rfl T.m_surely_compares T.k_surely_compares T.b_surely_compares .nil pass0 (pa_cons (pe_callL lam_ok (fun _ _ _ _ _ _ _ _ hr => lam_body hr) (hr.mono (by first | decide | omega)) pass0 (pv 1) (pa_cons (pe_fld (pv 0) rfl) pa_nil)) (pa_cons pe_str (pa_cons (pe_fld (pv 0) rfl) pa_nil)))))), ?_⟩
  cases t with
  | is nm v =>
    obtain ⟨a, dx, rfl, h⟩ := hs
    obtain ⟨hz, k, rfl, _⟩ := hok
    obtain ⟨sv, g0, g1, g2⟩ := lookup_lamS hr' hz l2
    refine ⟨_, rfl, p, rfl, _, rfl, a, _, dx, _, _, rfl, h, T.cl_Is, T.no_Is_name, rfl, .str nm, .ref d, cc, c', rfl, l1, l2, l3, _, rfl, d, rfl, g1, _, rfl, _, g2, rfl, ?_⟩
    exact ⟨_, rfl, a, _, dx, _, _, rfl, h, T.cl_Is, T.no_Is_place, rfl, sv, S nm, _, k, rfl, g0, q⟩
  | cmp _ _ _ => cases hk
  | neg _ => cases hk
  | two o _ _ => cases o <;> cases hk
theorem ok_co_sure (T : Txt K mg A) {n k : Nat} (hk2 : 2 ≤ k) : FnOk P w K mg base CX0 (k + 1) A.f_c_Compare_sure A.d_c_Compare_sure ["self", "look"] (spS A K 1 n) := by
  have G_surely_compares := ok_surely_compares (P := P) (w := w) (base := base) T
  refine T.F_c_Compare_sure.ok sc_c_Compare_sure (fun vs H Q E h => ?_) (fun cdv A0 outer s H vs Q E hr h => ?_)
  · obtain ⟨x, p, d, t, S, zs, rfl, _⟩ := h
    rfl
  obtain ⟨x, p, d, t, S, zs, rfl, hs, hd, hk, hok, ⟨cc, c', l1, l2, l3⟩, hr', q⟩ := h
  refine ⟨_, (pss_one (ps_ret (pe_call G_surely_compares (hr.mono (by first | decide | omega)) rfl T.m_surely_compares T.k_surely_compares T.b_surely_compares .nil pass0 (pa_cons (pe_callL lam_ok (fun _ _ _ _ _ _ _ _ hr => lam_body hr) (hr.mono (by first | decide | omega)) pass0 (pv 1) (pa_cons (pe_fld (pv 0) rfl) pa_nil)) (pa_cons (pe_fld (pv 0) rfl) (pa_cons (pe_fld (pv 0) rfl) pa_nil)))))), ?_⟩
  cases t with
  | cmp nm hh m =>
    obtain ⟨a, dx, rfl, h⟩ := hs
    obtain ⟨sv, g0, g1, g2⟩ := lookup_lamS hr' hok.1 l2
    refine ⟨_, rfl, p, rfl, _, rfl, a, _, dx, _, _, rfl, h, T.cl_Compare, T.no_Compare_name, rfl, .str nm, .ref d, cc, c', rfl, l1, l2, l3, _, rfl, d, rfl, g1, _, rfl, _, g2, rfl, ?_⟩
    exact ⟨_, rfl, a, _, dx, _, _, rfl, h, T.cl_Compare, T.no_Compare_how, rfl, _, rfl, a, _, dx, _, _, rfl, h, T.cl_Compare, T.no_Compare_number, rfl, sv, S nm, _, m, rfl, g0, q⟩
  | is _ _ => cases hk
  | neg _ => cases hk
  | two o _ _ => cases o <;> cases hk
theorem ok_no_sure (T : Txt K mg A) {n ks k : Nat} (hle : ks ≤ k) (ih : SOk P w K mg base A n ks) : FnOk P w K mg base CX0 (k + 1) A.f_c_Not_sure A.d_c_Not_sure ["self", "look"] (spS A K 2 (n + 1)) := by
  refine T.F_c_Not_sure.ok sc_c_Not_sure (fun vs H Q E h => ?_) (fun cdv A0 outer s H vs Q E hr h => ?_)
  · obtain ⟨x, p, d, t, S, zs, rfl, _⟩ := h
    rfl
  obtain ⟨x, p, d, t, S, zs, rfl, hs, hd, hk, hok, hlam, hr', q⟩ := h
  refine ⟨_, (pss_cons (ps_set (i := 2) sc_c_Not_sure.nd rfl (by first | exact Or.inl rfl | exact Or.inr rfl) (pe_methG (CX := CX0) (k := ks) (hr.mono (by first | decide | omega)) pass0 (pe_fld (pv 0) rfl) (pa_cons (pv 1) pa_nil)))
      (pss_one (ps_ret (pe_ifExp (pt_cmpR op_isN (pv 2) pe_non (nomark _)) pe_non (pe_notN (pv 2)))))), ?_⟩
  cases t with
  | neg t =>
    obtain ⟨a, dx, y, rfl, h, hs1⟩ := hs
    have hd' : t.depth + 1 < n + 1 := hd
    obtain ⟨a1, C1, dx1, fs1, M, ey, h1, hl, hdv, hsp⟩ := sure_of T ih hs1
    refine ⟨_, rfl, a, _, dx, _, _, rfl, h, T.cl_Not, T.no_Not_test, rfl, a1, C1, dx1, fs1, M, ey, h1, hl, _, rfl, ?_⟩
    rw [hdv, hsp]
    refine ⟨y, p, d, t, S, zs, rfl, hs1, by omega, rfl, hok, hlam, hr', fun H' sH => ?_⟩
    have q' : Q (tv ((suT S t).map (!·))) H' := q H' sH
    cases e : suT S t with
    | none => rw [e] at q'; exact ⟨_, rfl, rfl, _, rfl, iteT q'⟩
    | some b => rw [e] at q'; exact ⟨_, rfl, rfl, _, rfl, iteF ⟨_, rfl, .inl ⟨b, rfl, q'⟩⟩⟩
  | is _ _ => cases hk
  | cmp _ _ _ => cases hk
  | two o _ _ => cases o <;> cases hk
theorem ok_pa_bsure (T : Txt K mg A) {n ks : Nat} (ih : SOk P w K mg base A n ks) : FnOk P w K mg base CX0 (ks + 1) A.f_c_Pair_both_sure A.d_c_Pair_both_sure ["self", "look"] (spB A K n) := by
  refine T.F_c_Pair_both_sure.ok sc_c_Pair_both_sure (fun vs H Q E h => ?_) (fun cdv A0 outer s H vs Q E hr h => ?_)
  · obtain ⟨x, p, d, o, s, t, S, zs, rfl, _⟩ := h
    rfl
  obtain ⟨x, p, d, o, t1, t2, S, zs, rfl, hs, hd1, hd2, hok1, hok2, hlam, hr', q⟩ := h
  refine ⟨_, (pss_one (ps_ret (pe_tup (pa_cons (pe_methG (CX := CX0) (k := ks) (hr.mono (by first | decide | omega)) pass0 (pe_fld (pv 0) rfl) (pa_cons (pv 1) pa_nil)) (pa_cons (pe_methG (CX := CX0) (k := ks) (hr.mono (by first | decide | omega)) pass0 (pe_fld (pv 0) rfl) (pa_cons (pv 1) pa_nil)) pa_nil))))), ?_⟩
  obtain ⟨a, dx, y, z, rfl, h, hs1, hs2⟩ := hs
  have cl : Cls K (cT A o) ∧ NoAttr K (cT A o) "one" ∧ NoAttr K (cT A o) "other" := by
    cases o
    · exact ⟨T.cl_Both, T.no_Both_one, T.no_Both_other⟩
    · exact ⟨T.cl_Either, T.no_Either_one, T.no_Either_other⟩
  obtain ⟨a1, C1, dx1, fs1, M, ey, h1, hl, hdv, hsp⟩ := sure_of T ih hs1
  refine ⟨_, rfl, a, _, dx, _, _, rfl, h, cl.1, cl.2.1, rfl, a1, C1, dx1, fs1, M, ey, h1, hl, _, rfl, ?_⟩
  rw [hdv, hsp]
  refine ⟨y, p, d, t1, S, zs, rfl, hs1, hd1, rfl, hok1, hlam, hr', fun H1 s1 => ?_⟩
  have n1 := SameN.of s1
  have hs2' := n1.sy hs2
  obtain ⟨a2, C2, dx2, fs2, M2, ez, h2, hl2, hdv2, hsp2⟩ := sure_of T ih hs2'
  refine ⟨_, rfl, a, _, dx, _, _, rfl, s1 _ _ h, cl.1, cl.2.2, rfl, a2, C2, dx2, fs2, M2, ez, h2, hl2, _, rfl, ?_⟩
  rw [hdv2, hsp2]
  refine ⟨z, p, d, t2, S, zs, rfl, hs2', hd2, rfl, hok2, n1.lam hlam, n1.ds hr', fun H2 s2 => ⟨(by show 2 ≤ sizeLine; decide), fun pt hpt => ?_⟩⟩
  exact q pt _ (s1.trans (s2.trans (same_new hpt _))) (SqT.of upd_same)
theorem in_tv (o : Bool) (a b : Option Bool) : inV (.bl o) [tv a, tv b] = decide (a = some o ∨ b = some o) := by
  cases o <;> rcases a with _ | _ | _ <;> rcases b with _ | _ | _ <;> rfl
theorem in_non (a b : Option Bool) : inV .non [tv a, tv b] = decide (a = none ∨ b = none) := by
  rcases a with _ | _ | _ <;> rcases b with _ | _ | _ <;> rfl
theorem flat_tv (a : Option Bool) : flatV (tv a) = true := by rcases a with _ | _ | _ <;> rfl
theorem flat_tv2 (a b : Option Bool) : [tv a, tv b].all flatV = true := by rw [List.all_cons, List.all_cons, flat_tv, flat_tv]; rfl
theorem ok_bo_sure (T : Txt K mg A) {n kb : Nat} (ih : FnOk P w K mg base CX0 kb A.f_c_Pair_both_sure A.d_c_Pair_both_sure ["self", "look"] (spB A K n)) : FnOk P w K mg base CX0 (kb + 1) A.f_c_Both_sure A.d_c_Both_sure ["self", "look"] (spS A K 3 (n + 1)) := by
  refine T.F_c_Both_sure.ok sc_c_Both_sure (fun vs H Q E h => ?_) (fun cdv A0 outer s H vs Q E hr h => ?_)
  · obtain ⟨x, p, d, t, S, zs, rfl, _⟩ := h
    rfl
  obtain ⟨x, p, d, t, S, zs, rfl, hs, hd, hk, hok, hlam, hr', q⟩ := h
  refine ⟨_, (pss_cons (ps_set (i := 2) sc_c_Both_sure.nd rfl (by first | exact Or.inl rfl | exact Or.inr rfl) (pe_methG (CX := CX0) (k := kb) (hr.mono (by first | decide | omega)) pass0 (pv 0) (pa_cons (pv 1) pa_nil)))
      (pss_cons (ps_if (pt_cmpR op_in_seq pe_bl (pv 2) (by rfl)) (pss_one (ps_ret pe_bl)) pss_nil)
      (pss_one (ps_ret (pe_ifExp (pt_cmpR op_in_seq pe_non (pv 2) (by rfl)) pe_non pe_bl))))), ?_⟩
  cases t with
  | two o t1 t2 =>
    cases o with
    | true => cases hk
    | false =>
      have hd' : 1 + max t1.depth t2.depth < n + 1 := hd
      obtain ⟨a1, C1, dx1, fs1, M, ey, h1, hl, hdv, hsp⟩ := bsure_of T ih hs
      refine ⟨_, rfl, a1, C1, dx1, fs1, M, ey, h1, hl, _, rfl, ?_⟩
      rw [hdv, hsp]
      refine ⟨x, p, d, false, t1, t2, S, zs, rfl, hs, by omega, by omega, hok.1, hok.2, hlam, hr', fun a H1 s1 ha => ?_⟩
      have q' : Q (tv (two3 false (suT S t1) (suT S t2))) H1 := q H1 s1
      refine ⟨_, rfl, a, _, rfl, .inr ha, rfl, flat_tv2 _ _, _, rfl, ?_⟩
      rw [show (if false = true then !inV (.bl false) [tv (suT S t1), tv (suT S t2)] else inV (.bl false) [tv (suT S t1), tv (suT S t2)]) = decide (suT S t1 = some false ∨ suT S t2 = some false) from in_tv _ _ _]
      unfold two3 at q'
      refine ite2 (fun c => ?_) (fun c => ?_)
      · rw [if_pos (of_decide_eq_true c)] at q'; exact q'
      rw [if_neg (fun e => c (decide_eq_true e))] at q'
      refine ⟨_, rfl, a, _, rfl, .inr ha, rfl, flat_tv2 _ _, _, rfl, ?_⟩
      rw [show (if false = true then !inV .non [tv (suT S t1), tv (suT S t2)] else inV .non [tv (suT S t1), tv (suT S t2)]) = decide (suT S t1 = none ∨ suT S t2 = none) from in_non _ _]
      refine ite2 (fun c => ?_) (fun c => ?_)
      · rw [if_pos (of_decide_eq_true c)] at q'; exact q'
      · rw [if_neg (fun e => c (decide_eq_true e))] at q'; exact q'
  | is _ _ => cases hk
  | cmp _ _ _ => cases hk
  | neg _ => cases hk
theorem ok_ei_sure (T : Txt K mg A) {n kb : Nat} (ih : FnOk P w K mg base CX0 kb A.f_c_Pair_both_sure A.d_c_Pair_both_sure ["self", "look"] (spB A K n)) : FnOk P w K mg base CX0 (kb + 1) A.f_c_Either_sure A.d_c_Either_sure ["self", "look"] (spS A K 4 (n + 1)) := by
  refine T.F_c_Either_sure.ok sc_c_Either_sure (fun vs H Q E h => ?_) (fun cdv A0 outer s H vs Q E hr h => ?_)
  · obtain ⟨x, p, d, t, S, zs, rfl, _⟩ := h
    rfl
  obtain ⟨x, p, d, t, S, zs, rfl, hs, hd, hk, hok, hlam, hr', q⟩ := h
  refine ⟨_, (pss_cons (ps_set (i := 2) sc_c_Either_sure.nd rfl (by first | exact Or.inl rfl | exact Or.inr rfl) (pe_methG (CX := CX0) (k := kb) (hr.mono (by first | decide | omega)) pass0 (pv 0) (pa_cons (pv 1) pa_nil)))
      (pss_cons (ps_if (pt_cmpR op_in_seq pe_bl (pv 2) (by rfl)) (pss_one (ps_ret pe_bl)) pss_nil)
      (pss_one (ps_ret (pe_ifExp (pt_cmpR op_in_seq pe_non (pv 2) (by rfl)) pe_non pe_bl))))), ?_⟩
  cases t with
  | two o t1 t2 =>
    cases o with
    | false => cases hk
    | true =>
      have hd' : 1 + max t1.depth t2.depth < n + 1 := hd
      obtain ⟨a1, C1, dx1, fs1, M, ey, h1, hl, hdv, hsp⟩ := bsure_of T ih hs
      refine ⟨_, rfl, a1, C1, dx1, fs1, M, ey, h1, hl, _, rfl, ?_⟩
      rw [hdv, hsp]
      refine ⟨x, p, d, true, t1, t2, S, zs, rfl, hs, by omega, by omega, hok.1, hok.2, hlam, hr', fun a H1 s1 ha => ?_⟩
      have q' : Q (tv (two3 true (suT S t1) (suT S t2))) H1 := q H1 s1
      refine ⟨_, rfl, a, _, rfl, .inr ha, rfl, flat_tv2 _ _, _, rfl, ?_⟩
      rw [show (if false = true then !inV (.bl true) [tv (suT S t1), tv (suT S t2)] else inV (.bl true) [tv (suT S t1), tv (suT S t2)]) = decide (suT S t1 = some true ∨ suT S t2 = some true) from in_tv _ _ _]
      unfold two3 at q'
      refine ite2 (fun c => ?_) (fun c => ?_)
      · rw [if_pos (of_decide_eq_true c)] at q'; exact q'
      rw [if_neg (fun e => c (decide_eq_true e))] at q'
      refine ⟨_, rfl, a, _, rfl, .inr ha, rfl, flat_tv2 _ _, _, rfl, ?_⟩
      rw [show (if false = true then !inV .non [tv (suT S t1), tv (suT S t2)] else inV .non [tv (suT S t1), tv (suT S t2)]) = decide (suT S t1 = none ∨ suT S t2 = none) from in_non _ _]
      refine ite2 (fun c => ?_) (fun c => ?_)
      · rw [if_pos (of_decide_eq_true c)] at q'; exact q'
      · rw [if_neg (fun e => c (decide_eq_true e))] at q'; exact q'
  | is _ _ => cases hk
  | cmp _ _ _ => cases hk
  | neg _ => cases hk
theorem ok_sure (T : Txt K mg A) : ∀ n : Nat, SOk P w K mg base A n (2 * n + 1)
  | 0 => by
    have len : ∀ (j : Nat) (vs : List V) (H : Hp) (Q : VK) (E : XK), spS A K j 0 vs H Q E → False := fun j vs H Q E h => by
      obtain ⟨x, p, d, t, S, zs, rfl, _, hd, _⟩ := h
      exact absurd hd (by omega)
    exact ⟨⟨fun vs H Q E h => (len _ _ _ _ _ h).elim, fun _ _ _ _ _ _ _ _ _ _ _ _ _ h => (len _ _ _ _ _ h).elim⟩, ⟨fun vs H Q E h => (len _ _ _ _ _ h).elim, fun _ _ _ _ _ _ _ _ _ _ _ _ _ h => (len _ _ _ _ _ h).elim⟩, ⟨fun vs H Q E h => (len _ _ _ _ _ h).elim, fun _ _ _ _ _ _ _ _ _ _ _ _ _ h => (len _ _ _ _ _ h).elim⟩, ⟨fun vs H Q E h => (len _ _ _ _ _ h).elim, fun _ _ _ _ _ _ _ _ _ _ _ _ _ h => (len _ _ _ _ _ h).elim⟩, ⟨fun vs H Q E h => (len _ _ _ _ _ h).elim, fun _ _ _ _ _ _ _ _ _ _ _ _ _ h => (len _ _ _ _ _ h).elim⟩⟩
  | n + 1 =>
    have ih := ok_sure T n
    have bs := ok_pa_bsure T ih
    ⟨ok_is_sure (k := 2 * n + 2) T (by omega), ok_co_sure (k := 2 * n + 2) T (by omega), ok_no_sure (k := 2 * n + 2) T (by omega) ih, ok_bo_sure T bs, ok_ei_sure T bs⟩
end
end K18
set_option maxHeartbeats 4000000
namespace K18
open PySem L2
seal PE PT PW PA PS PSs PG PGs PI PO PSet OpR UnR CallR TruR IxR SlR PC PPs
local macro_rules | `(tactic| walk_at "rd1") => `(tactic| first
  | (refine And.intro rfl ?_)
  | (refine And.intro (by assumption) ?_)
  | (refine And.intro (fun _ e => e) ?_)
  | (refine And.intro (TyOf.str _) ?_) | (refine And.intro (TyOf.int _) ?_) | (refine And.intro (TyOf.bl _) ?_) | (refine And.intro TyOf.non ?_)
  | (refine iteT ?_) | (refine iteF ?_)
  | (apply Exists.intro))
local macro_rules | `(tactic| walk_at "rd") => `(tactic| repeat (walk_at "rd1"))

/-! atoms, and the first open one -/
def atT : Tr → List Tr
  | .is n v => [.is n v]
  | .cmp n h m => [.cmp n h m]
  | .neg t => atT t
  | .two _ s t => atT s ++ atT t
def IsAt : Tr → Prop
  | .is _ _ => True
  | .cmp _ _ _ => True
  | _ => False
theorem atT_len : ∀ t : Tr, (atT t).length = t.size
  | .is _ _ => rfl
  | .cmp _ _ _ => rfl
  | .neg t => atT_len t
  | .two _ s t => by show (atT s ++ atT t).length = s.size + t.size; rw [List.length_append, atT_len s, atT_len t]
theorem atT_mem {zs : List Str} : ∀ {t : Tr}, t.Ok zs → ∀ a ∈ atT t, IsAt a ∧ a.Ok zs ∧ a.depth = 1
  | .is n v, h, a, ha => by rw [List.mem_singleton.mp ha]; exact ⟨trivial, h, rfl⟩
  | .cmp n x m, h, a, ha => by rw [List.mem_singleton.mp ha]; exact ⟨trivial, h, rfl⟩
  | .neg t, h, a, ha => atT_mem (t := t) h a ha
  | .two _ s t, h, a, ha => by
    rcases List.mem_append.mp ha with e | e
    · exact atT_mem h.1 a e
    · exact atT_mem h.2 a e
theorem paired_mono {α β : Type} {R R' : α → β → Prop} (h : ∀ a b, R a b → R' a b) {as : List α} {bs : List β} (k : Paired R as bs) : Paired R' as bs := by
  induction k with
  | nil => exact .nil
  | cons r _ ih => exact .cons (h _ _ r) ih
theorem paired_at {α β : Type} {R : α → β → Prop} {as : List α} {bs : List β} (h : Paired R as bs) : ∀ {i : Nat} {x : α}, as[i]? = some x → ∃ b, bs[i]? = some b ∧ R x b := by
  induction h with
  | nil => intro i x e; simp at e
  | cons a _ ih =>
    intro i x e
    cases i with
    | zero => cases e; exact ⟨_, rfl, a⟩
    | succ j => exact ih e
theorem paired_len {α β : Type} {R : α → β → Prop} {as : List α} {bs : List β} (h : Paired R as bs) : as.length = bs.length := by
  induction h with
  | nil => rfl
  | cons _ _ ih => rw [List.length_cons, List.length_cons, ih]
/-- the first of them that is open -/
def fo (S : Str → Spn) (ts : List Tr) : Option Tr := ts.find? fun a => (suT S a).isNone
theorem fo_take {S : Str → Spn} {ts : List Tr} {i : Nat} {a : Tr} (hi : ts[i]? = some a) (h : fo S (ts.take i) = none) : (suT S a = none → fo S ts = some a) ∧ (suT S a ≠ none → fo S (ts.take (i + 1)) = none) := by
  unfold fo at h ⊢
  have e : ts = ts.take i ++ a :: ts.drop (i + 1) := by
    obtain ⟨hlt, rfl⟩ := List.getElem?_eq_some_iff.mp hi
    rw [List.getElem_cons_drop, List.take_append_drop]
  constructor
  · intro n
    rw [e, List.find?_append, h, Option.none_or, List.find?_cons_of_pos (by rw [n]; rfl)]
  · intro n
    rw [List.take_succ, hi, List.find?_append, h, Option.none_or]
    show List.find? _ [a] = none
    rw [List.find?_cons_of_neg (by cases e2 : suT S a with | none => exact absurd e2 n | some b => simp)]
    rfl
def FoR (A : Adr) (H : Hp) : Option Tr → V → Prop
  | none, y => y = .non
  | some a, y => SyR A H a y
def spA (A : Adr) (j n : Nat) : Sp := fun vs H Q _ => ∃ (x : V) (t : Tr), vs = [x] ∧ SyR A H t x ∧ t.depth < n ∧ t.size ≤ 1000 ∧ kd t = j ∧ ∀ a ys H', Same H H' → H' a = some (.lst ys) → Paired (fun y u => SyR A H' u y) ys (atT t) → Q (.ref a) H'
def spAP (A : Adr) (n : Nat) : Sp := fun vs H Q _ => ∃ (x : V) (o : Bool) (s t : Tr), vs = [x] ∧ SyR A H (.two o s t) x ∧ 1 + max s.depth t.depth < n ∧ s.size + t.size ≤ 1000 ∧ ∀ a ys H', Same H H' → H' a = some (.lst ys) → Paired (fun y u => SyR A H' u y) ys (atT s ++ atT t) → Q (.ref a) H'
def spFO (A : Adr) (K : PySem.W.Frag) (n : Nat) : Sp := fun vs H Q _ => ∃ (x : V) (p d : Addr) (t : Tr) (S : Str → Spn) (zs : List Str), vs = [x, .ref p] ∧ SyR A H t x ∧ t.depth < n ∧ t.size ≤ 1000 ∧ t.Ok zs ∧ LamAt DL H p (.ref d) ∧ DS K H d S zs ∧ ∀ y H', Same H H' → FoR A H' (fo S (atT t)) y → Q y H'
structure AOk (P : Program) (w : World) (K : PySem.W.Frag) (mg : Str → Option Value) (base : Heap) (A : Adr) (n k : Nat) : Prop where
  a : FnOk P w K mg base CX0 k A.f_c_Is_atoms A.d_c_Is_atoms ["self"] (spA A 0 n)
  b : FnOk P w K mg base CX0 k A.f_c_Compare_atoms A.d_c_Compare_atoms ["self"] (spA A 1 n)
  c : FnOk P w K mg base CX0 k A.f_c_Not_atoms A.d_c_Not_atoms ["self"] (spA A 2 n)
  d : FnOk P w K mg base CX0 k A.f_c_Pair_atoms A.d_c_Pair_atoms ["self"] (spAP A n)
section
variable {P : Program} {w : World} {K : PySem.W.Frag} {mg : Str → Option Value} {base : Heap} {A : Adr}
theorem atoms_of (T : Txt K mg A) {n k : Nat} (ih : AOk P w K mg base A n k) {t : Tr} {x : V} {H : Hp} (hs : SyR A H t x) :
    ∃ (a C dx : Addr) (fs : List (Str × V)) (M : MethJ P w K mg base CX0 k C "atoms"), x = .ref a ∧ H a = some (.ins C dx fs) ∧ fs.lookup (Str.ofString "atoms") = none ∧ M.dvs = [] ∧ 
      ∀ Q E, (t.depth < n ∧ t.size ≤ 1000 ∧ ∀ a ys H', Same H H' → H' a = some (.lst ys) → Paired (fun y u => SyR A H' u y) ys (atT t) → Q (.ref a) H') → M.sp [x] H Q E := by
  cases t with
  | is nm v =>
    obtain ⟨a, dx, rfl, h⟩ := id hs
    exact ⟨a, _, dx, _, ⟨A.f_c_Is_atoms, A.d_c_Is_atoms, ["self"], spA A 0 n, [], [], T.cl_Is, T.me_Is_atoms, ih.a, T.b_c_Is_atoms, .nil⟩, rfl, h, rfl, rfl, fun Q E ⟨h1, h2, h3⟩ => ⟨_, _, rfl, hs, h1, h2, rfl, h3⟩⟩
  | cmp nm h m =>
    obtain ⟨a, dx, rfl, h⟩ := id hs
    exact ⟨a, _, dx, _, ⟨A.f_c_Compare_atoms, A.d_c_Compare_atoms, ["self"], spA A 1 n, [], [], T.cl_Compare, T.me_Compare_atoms, ih.b, T.b_c_Compare_atoms, .nil⟩, rfl, h, rfl, rfl, fun Q E ⟨h1, h2, h3⟩ => ⟨_, _, rfl, hs, h1, h2, rfl, h3⟩⟩
  | neg t =>
    obtain ⟨a, dx, y, rfl, h, _⟩ := id hs
    exact ⟨a, _, dx, _, ⟨A.f_c_Not_atoms, A.d_c_Not_atoms, ["self"], spA A 2 n, [], [], T.cl_Not, T.me_Not_atoms, ih.c, T.b_c_Not_atoms, .nil⟩, rfl, h, rfl, rfl, fun Q E ⟨h1, h2, h3⟩ => ⟨_, _, rfl, hs, h1, h2, rfl, h3⟩⟩
  | two o s t =>
    obtain ⟨a, dx, y, z, rfl, h, _⟩ := id hs
    have key : ∀ Q E, ((Tr.two o s t).depth < n ∧ (Tr.two o s t).size ≤ 1000 ∧ ∀ a ys H', Same H H' → H' a = some (.lst ys) → Paired (fun y u => SyR A H' u y) ys (atT (.two o s t)) → Q (.ref a) H') → spAP A n [.ref a] H Q E := fun Q E ⟨h1, h2, h3⟩ => by
      exact ⟨_, o, s, t, rfl, hs, h1, h2, h3⟩
    cases o with
    | false => exact ⟨a, _, dx, _, ⟨A.f_c_Pair_atoms, A.d_c_Pair_atoms, ["self"], spAP A n, [], [], T.cl_Both, T.me_Both_atoms, ih.d, T.b_c_Pair_atoms, .nil⟩, rfl, h, rfl, rfl, key⟩
    | true => exact ⟨a, _, dx, _, ⟨A.f_c_Pair_atoms, A.d_c_Pair_atoms, ["self"], spAP A n, [], [], T.cl_Either, T.me_Either_atoms, ih.d, T.b_c_Pair_atoms, .nil⟩, rfl, h, rfl, rfl, key⟩
theorem ok_is_atoms (T : Txt K mg A) {n k : Nat} : FnOk P w K mg base CX0 (k + 1) A.f_c_Is_atoms A.d_c_Is_atoms ["self"] (spA A 0 n) := by
  refine T.F_c_Is_atoms.ok sc_c_Is_atoms (fun vs H Q E h => ?_) (fun cdv A0 outer s H vs Q E hr h => ?_)
  · obtain ⟨x, t, rfl, _⟩ := h
    rfl
  obtain ⟨x, t, rfl, hs, _, _, hk, q⟩ := h
  refine ⟨_, (pss_one (ps_ret (pe_lst (pa_cons (pv 0) pa_nil)))), ?_⟩
  cases t with
  | is nm v =>
    refine ⟨_, rfl, (by show 1 ≤ sizeLine; decide), fun p hp => ?_⟩
    have sp := same_new hp (.lst [x])
    exact q p [x] _ sp upd_same (.cons (hs.same sp) .nil)
  | cmp _ _ _ => cases hk
  | neg _ => cases hk
  | two o _ _ => cases o <;> cases hk
theorem ok_co_atoms (T : Txt K mg A) {n k : Nat} : FnOk P w K mg base CX0 (k + 1) A.f_c_Compare_atoms A.d_c_Compare_atoms ["self"] (spA A 1 n) := by
  refine T.F_c_Compare_atoms.ok sc_c_Compare_atoms (fun vs H Q E h => ?_) (fun cdv A0 outer s H vs Q E hr h => ?_)
  · obtain ⟨x, t, rfl, _⟩ := h
    rfl
  obtain ⟨x, t, rfl, hs, _, _, hk, q⟩ := h
  refine ⟨_, (pss_one (ps_ret (pe_lst (pa_cons (pv 0) pa_nil)))), ?_⟩
  cases t with
  | cmp nm h m =>
    refine ⟨_, rfl, (by show 1 ≤ sizeLine; decide), fun p hp => ?_⟩
    have sp := same_new hp (.lst [x])
    exact q p [x] _ sp upd_same (.cons (hs.same sp) .nil)
  | is _ _ => cases hk
  | neg _ => cases hk
  | two o _ _ => cases o <;> cases hk
theorem ok_no_atoms (T : Txt K mg A) {n ka : Nat} (ih : AOk P w K mg base A n ka) : FnOk P w K mg base CX0 (ka + 1) A.f_c_Not_atoms A.d_c_Not_atoms ["self"] (spA A 2 (n + 1)) := by
  refine T.F_c_Not_atoms.ok sc_c_Not_atoms (fun vs H Q E h => ?_) (fun cdv A0 outer s H vs Q E hr h => ?_)
  · obtain ⟨x, t, rfl, _⟩ := h
    rfl
  obtain ⟨x, t, rfl, hs, hd, hz, hk, q⟩ := h
  refine ⟨_, (pss_one (ps_ret (pe_methG0 (CX := CX0) (k := ka) (hr.mono (by first | decide | omega)) pass0 (pe_fld (pv 0) rfl)))), ?_⟩
  cases t with
  | neg t =>
    obtain ⟨a, dx, y, rfl, h, hs1⟩ := hs
    have hd' : t.depth + 1 < n + 1 := hd
    obtain ⟨a1, C1, dx1, fs1, M, ey, h1, hl, hdv, hsp⟩ := atoms_of T ih hs1
    refine ⟨_, rfl, a, _, dx, _, _, rfl, h, T.cl_Not, T.no_Not_test, rfl, a1, C1, dx1, fs1, M, ey, h1, hl, ?_⟩
    dsimp only [tNil]
    rw [hdv]
    exact hsp _ _ ⟨by omega, hz, q⟩
  | is _ _ => cases hk
  | cmp _ _ _ => cases hk
  | two o _ _ => cases o <;> cases hk
theorem ok_pa_atoms (T : Txt K mg A) {n ka : Nat} (ih : AOk P w K mg base A n ka) : FnOk P w K mg base CX0 (ka + 1) A.f_c_Pair_atoms A.d_c_Pair_atoms ["self"] (spAP A (n + 1)) := by
  refine T.F_c_Pair_atoms.ok sc_c_Pair_atoms (fun vs H Q E h => ?_) (fun cdv A0 outer s H vs Q E hr h => ?_)
  · obtain ⟨x, o, s, t, rfl, _⟩ := h
    rfl
  obtain ⟨x, o, t1, t2, rfl, hs, hd, hz, q⟩ := h
  refine ⟨_, (pss_one (ps_ret (pe_op op_cat (pe_methG0 (CX := CX0) (k := ka) (hr.mono (by first | decide | omega)) pass0 (pe_fld (pv 0) rfl)) (pe_methG0 (CX := CX0) (k := ka) (hr.mono (by first | decide | omega)) pass0 (pe_fld (pv 0) rfl))))), ?_⟩
  obtain ⟨a, dx, y, z, rfl, h, hs1, hs2⟩ := hs
  have cl : Cls K (cT A o) ∧ NoAttr K (cT A o) "one" ∧ NoAttr K (cT A o) "other" := by
    cases o
    · exact ⟨T.cl_Both, T.no_Both_one, T.no_Both_other⟩
    · exact ⟨T.cl_Either, T.no_Either_one, T.no_Either_other⟩
  obtain ⟨a1, C1, dx1, fs1, M, ey, h1, hl, hdv, hsp⟩ := atoms_of T ih hs1
  refine ⟨_, rfl, a, _, dx, _, _, rfl, h, cl.1, cl.2.1, rfl, a1, C1, dx1, fs1, M, ey, h1, hl, ?_⟩
  dsimp only [tNil]
  rw [hdv]
  refine hsp _ _ ⟨by omega, by omega, fun l1 ys1 H1 s1 e1 p1 => ?_⟩
  have hs2' := hs2.same s1
  obtain ⟨a2, C2, dx2, fs2, M2, ez, h2, hl2, hdv2, hsp2⟩ := atoms_of T ih hs2'
  refine ⟨_, rfl, a, _, dx, _, _, rfl, s1 _ _ h, cl.1, cl.2.2, rfl, a2, C2, dx2, fs2, M2, ez, h2, hl2, ?_⟩
  dsimp only [tNil]
  rw [hdv2]
  refine hsp2 _ _ ⟨by omega, by omega, fun l2 ys2 H2 s2 e2 p2 => ?_⟩
  refine ⟨l1, l2, ys1, ys2, rfl, rfl, s2 _ _ e1, e2, ?_, fun p hp => ?_⟩
  · rw [paired_len p1, paired_len p2, atT_len, atT_len]; exact Nat.le_trans hz (by decide)
  have s3 := same_new hp (.lst (ys1 ++ ys2))
  exact q p _ _ (s1.trans (s2.trans s3)) upd_same (paired_app (paired_mono (fun y u r => SyR.same (s2.trans s3) r) p1) (paired_mono (fun y u r => SyR.same s3 r) p2))
theorem ok_atoms (T : Txt K mg A) : ∀ n : Nat, AOk P w K mg base A n (n + 1)
  | 0 => by
    have len : ∀ (j : Nat) (vs : List V) (H : Hp) (Q : VK) (E : XK), spA A j 0 vs H Q E → False := fun j vs H Q E h => by
      obtain ⟨x, t, rfl, _, hd, _⟩ := h
      exact absurd hd (by omega)
    have len2 : ∀ (vs : List V) (H : Hp) (Q : VK) (E : XK), spAP A 0 vs H Q E → False := fun vs H Q E h => by
      obtain ⟨x, o, s, t, rfl, _, hd, _⟩ := h
      exact absurd hd (by omega)
    exact ⟨⟨fun vs H Q E h => (len _ _ _ _ _ h).elim, fun _ _ _ _ _ _ _ _ _ _ _ _ _ h => (len _ _ _ _ _ h).elim⟩, ⟨fun vs H Q E h => (len _ _ _ _ _ h).elim, fun _ _ _ _ _ _ _ _ _ _ _ _ _ h => (len _ _ _ _ _ h).elim⟩, ⟨fun vs H Q E h => (len _ _ _ _ _ h).elim, fun _ _ _ _ _ _ _ _ _ _ _ _ _ h => (len _ _ _ _ _ h).elim⟩, ⟨fun vs H Q E h => (len2 _ _ _ _ h).elim, fun _ _ _ _ _ _ _ _ _ _ _ _ _ h => (len2 _ _ _ _ h).elim⟩⟩
  | n + 1 =>
    have ih := ok_atoms T n
    ⟨ok_is_atoms T, ok_co_atoms T, ok_no_atoms T ih, ok_pa_atoms T ih⟩
end
end K18
set_option maxHeartbeats 4000000
namespace K18
open PySem L2
seal PE PT PW PA PS PSs PG PGs PI PO PSet OpR UnR CallR TruR IxR SlR PC PPs
local macro_rules | `(tactic| walk_at "rd1") => `(tactic| first
  | (refine And.intro rfl ?_)
  | (refine And.intro (by assumption) ?_)
  | (refine And.intro (fun _ e => e) ?_)
  | (refine And.intro (TyOf.str _) ?_) | (refine And.intro (TyOf.int _) ?_) | (refine And.intro (TyOf.bl _) ?_) | (refine And.intro TyOf.non ?_)
  | (refine iteT ?_) | (refine iteF ?_)
  | (apply Exists.intro))
local macro_rules | `(tactic| walk_at "rd") => `(tactic| repeat (walk_at "rd1"))

section
variable {P : Program} {w : World} {K : PySem.W.Frag} {mg : Str → Option Value} {base : Heap} {A : Adr}
theorem ok_first_open (T : Txt K mg A) {n ka ks k : Nat} (ga : ka ≤ k) (gs : ks ≤ k) (iha : AOk P w K mg base A n ka) (ihs : SOk P w K mg base A n ks) : FnOk P w K mg base CX0 (k + 1) A.f_c_Saying_first_open A.d_c_Saying_first_open ["self", "look"] (spFO A K n) := by
  refine T.F_c_Saying_first_open.ok sc_c_Saying_first_open (fun vs H Q E h => ?_) (fun cdv A0 outer s H vs Q E hr h => ?_)
  · obtain ⟨x, p, d, t, S, zs, rfl, _⟩ := h
    rfl
  obtain ⟨x, p, d, t, S, zs, rfl, hs, hd, hz, hok, hlam, hr', q⟩ := h
  refine ⟨_, (pss_cons (ps_forR PassesOwn.never rfl (pi_list (pe_methG0 (CX := CX0) (k := ka) (hr.mono (by first | decide | omega)) pass0 (pv 0))) (pg_name (i := 2) sc_c_Saying_first_open.nd rfl (by first | exact Or.inl rfl | exact Or.inr rfl)) (pss_one (ps_if (pt_cmpR op_isN (pe_methG (CX := CX0) (k := ks) (hr.mono (by first | decide | omega)) pass0 (pv 2) (pa_cons (pv 1) pa_nil)) pe_non (nomark _)) (pss_one (ps_ret (pv 2))) pss_nil)))
      (pss_one (ps_ret pe_non))), ?_⟩
  obtain ⟨a1, C1, dx1, fs1, M, ey, h1, hl, hdv, hsp⟩ := atoms_of T iha hs
  refine ⟨_, rfl, a1, C1, dx1, fs1, M, ey, h1, hl, ?_⟩
  dsimp only [tNil]
  rw [hdv]
  refine hsp _ _ ⟨hd, hz, fun la ys H1 s1 e1 p1 => ?_⟩
  refine ⟨la, rfl, ⟨_, SqL.of e1⟩, ?_⟩
  refine for_listR (xs := ys) (fun i σ G => Same H1 G ∧ (∃ u, σ = [some x, some (.ref p), u]) ∧ fo S ((atT t).take i) = none) ⟨Same.refl _, ⟨_, rfl⟩, rfl⟩ (fun i σ G _ hh => SqL.of (hh.1 _ _ e1)) (fun i y σ G hy hw => ?_) (fun σ G hw => ?_)
  · obtain ⟨sG, ⟨u, rfl⟩, hf⟩ := hw
    obtain ⟨b, hb, hyb⟩ := paired_at p1 hy
    obtain ⟨at1, at2, at3⟩ := atT_mem hok b (List.mem_of_getElem? hb)
    have hyb' : SyR A G b y := hyb.same sG
    have n1 := SameN.of (s1.trans sG)
    have hdp : b.depth < n := by have := t.depth_pos; omega
    obtain ⟨a2, C2, dx2, fs2, M2, ey2, h2, hl2, hdv2, hsp2⟩ := sure_of T ihs hyb'
    refine ⟨_, rfl, a2, C2, dx2, fs2, M2, ey2, h2, hl2, _, rfl, ?_⟩
    rw [hdv2, hsp2]
    refine ⟨y, p, d, b, S, zs, rfl, hyb', hdp, rfl, at2, n1.lam hlam, n1.ds hr', fun H2 s2 => ?_⟩
    obtain ⟨f1, f2⟩ := fo_take hb hf
    cases e : suT S b with
    | none =>
      refine ⟨rfl, _, rfl, iteT ⟨_, rfl, q _ _ (s1.trans (sG.trans s2)) ?_⟩⟩
      rw [f1 e]
      exact hyb'.same s2
    | some v =>
      exact ⟨rfl, _, rfl, iteF ⟨sG.trans s2, ⟨_, rfl⟩, f2 (by rw [e]; simp)⟩⟩
  · obtain ⟨sG, ⟨u, rfl⟩, hf⟩ := hw
    rw [paired_len p1, List.take_length] at hf
    refine q _ _ (s1.trans sG) ?_
    rw [hf]; rfl
theorem fopen_of (T : Txt K mg A) {n k : Nat} (ih : FnOk P w K mg base CX0 k A.f_c_Saying_first_open A.d_c_Saying_first_open ["self", "look"] (spFO A K n)) {t : Tr} {x : V} {H : Hp} (hs : SyR A H t x) :
    ∃ (a C dx : Addr) (fs : List (Str × V)) (M : MethJ P w K mg base CX0 k C "first_open"), x = .ref a ∧ H a = some (.ins C dx fs) ∧ fs.lookup (Str.ofString "first_open") = none ∧ M.dvs = [] ∧ M.sp = spFO A K n := by
  cases t with
  | is nm v =>
    obtain ⟨a, dx, rfl, h⟩ := hs
    exact ⟨a, _, dx, _, ⟨A.f_c_Saying_first_open, A.d_c_Saying_first_open, ["self", "look"], spFO A K n, [], [], T.cl_Is, T.me_Is_first_open, ih, T.b_c_Saying_first_open, .nil⟩, rfl, h, rfl, rfl, rfl⟩
  | cmp nm h m =>
    obtain ⟨a, dx, rfl, h⟩ := hs
    exact ⟨a, _, dx, _, ⟨A.f_c_Saying_first_open, A.d_c_Saying_first_open, ["self", "look"], spFO A K n, [], [], T.cl_Compare, T.me_Compare_first_open, ih, T.b_c_Saying_first_open, .nil⟩, rfl, h, rfl, rfl, rfl⟩
  | neg t =>
    obtain ⟨a, dx, y, rfl, h, _⟩ := hs
    exact ⟨a, _, dx, _, ⟨A.f_c_Saying_first_open, A.d_c_Saying_first_open, ["self", "look"], spFO A K n, [], [], T.cl_Not, T.me_Not_first_open, ih, T.b_c_Saying_first_open, .nil⟩, rfl, h, rfl, rfl, rfl⟩
  | two o s t =>
    obtain ⟨a, dx, y, z, rfl, h, _⟩ := hs
    cases o with
    | false => exact ⟨a, _, dx, _, ⟨A.f_c_Saying_first_open, A.d_c_Saying_first_open, ["self", "look"], spFO A K n, [], [], T.cl_Both, T.me_Both_first_open, ih, T.b_c_Saying_first_open, .nil⟩, rfl, h, rfl, rfl, rfl⟩
    | true => exact ⟨a, _, dx, _, ⟨A.f_c_Saying_first_open, A.d_c_Saying_first_open, ["self", "look"], spFO A K n, [], [], T.cl_Either, T.me_Either_first_open, ih, T.b_c_Saying_first_open, .nil⟩, rfl, h, rfl, rfl, rfl⟩
end
end K18
set_option maxHeartbeats 4000000
namespace K18
open PySem L2
seal PE PT PW PA PS PSs PG PGs PI PO PSet OpR UnR CallR TruR IxR SlR PC PPs
local macro_rules | `(tactic| walk_at "rd1") => `(tactic| first
  | (refine And.intro rfl ?_)
  | (refine And.intro (by assumption) ?_)
  | (refine And.intro (fun _ e => e) ?_)
  | (refine And.intro (TyOf.str _) ?_) | (refine And.intro (TyOf.int _) ?_) | (refine And.intro (TyOf.bl _) ?_) | (refine And.intro TyOf.non ?_)
  | (refine iteT ?_) | (refine iteF ?_)
  | (apply Exists.intro))
local macro_rules | `(tactic| walk_at "rd") => `(tactic| repeat (walk_at "rd1"))

/-! the law's own walk -/
def spLA (K : PySem.W.Frag) (n : Nat) : Sp := fun vs H Q _ => ∃ (x : V) (t : Tr), vs = [x] ∧ TrR K H t x ∧ t.depth < n ∧ t.size ≤ 1000 ∧ ∀ a ys H', Same H H' → H' a = some (.lst ys) → Paired (fun y u => TrR K H' u y) ys (atT t) → Q (.ref a) H'
def spLS (K : PySem.W.Frag) (n : Nat) : Sp := fun vs H Q _ => ∃ (x : V) (d : Addr) (t : Tr) (S : Str → Spn) (zs : List Str), vs = [x, .ref d] ∧ TrR K H t x ∧ t.depth < n ∧ t.Ok zs ∧ DS K H d S zs ∧ ∀ H', Same H H' → Q (tv (suT S t)) H'
def sp3 : Sp := fun vs H Q _ => ∃ a b : Option Bool, vs = [tv a, tv b] ∧ Q (.bl (decide (a = b))) H
def spW : Sp := fun vs H Q _ => ∃ a : Str, vs = [.str a, .str a] ∧ Q (.bl true) H
def spSm (A : Adr) (K : PySem.W.Frag) : Sp := fun vs H Q _ => ∃ (y x : V) (t : Tr) (zs : List Str), vs = [y, x] ∧ SyR A H t y ∧ TrR K H t x ∧ IsAt t ∧ t.Ok zs ∧ Q (.bl true) H
section
variable {P : Program} {w : World} {K : PySem.W.Frag} {mg : Str → Option Value} {base : Heap} {A : Adr}
theorem ok_law_atoms (T : Txt K mg A) : ∀ n : Nat, FnOk P w K mg base CX0 n A.f_law_atoms A.d_law_atoms ["_law_tree_here"] (spLA K n)
  | 0 => by
    have len : ∀ (vs : List V) (H : Hp) (Q : VK) (E : XK), spLA K 0 vs H Q E → False := fun vs H Q E h => by
      obtain ⟨x, t, rfl, _, hd, _⟩ := h
      exact absurd hd (by omega)
    exact ⟨fun vs H Q E h => (len _ _ _ _ h).elim, fun _ _ _ _ _ _ _ _ _ _ _ _ _ h => (len _ _ _ _ h).elim⟩
  | n + 1 => by
    have G_law_atoms := ok_law_atoms T n
    refine T.F_law_atoms.ok sc_law_atoms (fun vs H Q E h => ?_) (fun cdv A0 outer s H vs Q E hr h => ?_)
    · obtain ⟨x, t, rfl, _⟩ := h
      rfl
    obtain ⟨x, t, rfl, htr, hd, hz, q⟩ := h
    refine ⟨_, (pss_cons (ps_if (pt_cmpR op_in_seq (pe_ix ix_tup (pv 0) pe_int (fun _ _ => rfl)) (pe_tup (pa_cons pe_str (pa_cons pe_str pa_nil))) (by rfl)) (pss_one (ps_ret (pe_lst (pa_cons (pv 0) pa_nil)))) pss_nil)
      (pss_cons (ps_if (pt_cmpR op_eq (pe_ix ix_tup (pv 0) pe_int (fun _ _ => rfl)) pe_str (nomark _)) (pss_one (ps_ret (pe_call G_law_atoms (hr.mono (by first | decide | omega)) rfl T.m_law_atoms T.k_law_atoms T.b_law_atoms .nil pass0 (pa_cons (pe_ix ix_tup (pv 0) pe_int (fun _ _ => rfl)) pa_nil)))) pss_nil)
      (pss_one (ps_ret (pe_op op_cat (pe_call G_law_atoms (hr.mono (by first | decide | omega)) rfl T.m_law_atoms T.k_law_atoms T.b_law_atoms .nil pass0 (pa_cons (pe_ix ix_tup (pv 0) pe_int (fun _ _ => rfl)) pa_nil)) (pe_call G_law_atoms (hr.mono (by first | decide | omega)) rfl T.m_law_atoms T.k_law_atoms T.b_law_atoms .nil pass0 (pa_cons (pe_ix ix_tup (pv 0) pe_int (fun _ _ => rfl)) pa_nil))))))), ?_⟩
    have flat2 : ∀ {z : Str}, ([V.str (Str.ofString "is"), V.str (Str.ofString "compare")] : List V).all flatV = true := rfl
    cases t with
    | is nm v =>
      obtain ⟨a, rfl, ha⟩ := htr
      have b0 : atI [V.str "is", V.str nm, v] ((0 : Nat) : Int) = some (.str "is") := atI_nat rfl
      refine ⟨_, rfl, a, _, _, _, rfl, rfl, ha, b0, (by show 2 ≤ sizeLine; decide), fun pt hpt => ⟨pt, _, rfl, .inr (SqT.of upd_same), rfl, rfl, _, rfl, iteT ?_⟩⟩
      have s1 := same_new hpt (.tup [.str "is", .str "compare"])
      refine ⟨_, rfl, (by show 1 ≤ sizeLine; decide), fun pl hpl => ?_⟩
      have s2 := same_new hpl (.lst [.ref a])
      exact q pl _ _ (s1.trans s2) upd_same (.cons ⟨a, rfl, (s1.trans s2).seqT ha⟩ .nil)
    | cmp nm h m =>
      obtain ⟨a, rfl, ha⟩ := htr
      have b0 : atI [V.str "compare", V.str nm, .str h, .int m] ((0 : Nat) : Int) = some (.str "compare") := atI_nat rfl
      refine ⟨_, rfl, a, _, _, _, rfl, rfl, ha, b0, (by show 2 ≤ sizeLine; decide), fun pt hpt => ⟨pt, _, rfl, .inr (SqT.of upd_same), rfl, rfl, _, rfl, iteT ?_⟩⟩
      have s1 := same_new hpt (.tup [.str "is", .str "compare"])
      refine ⟨_, rfl, (by show 1 ≤ sizeLine; decide), fun pl hpl => ?_⟩
      have s2 := same_new hpl (.lst [.ref a])
      exact q pl _ _ (s1.trans s2) upd_same (.cons ⟨a, rfl, (s1.trans s2).seqT ha⟩ .nil)
    | neg t =>
      obtain ⟨a, y, rfl, ha, ht⟩ := htr
      have b0 : atI [V.str "not", y] ((0 : Nat) : Int) = some (.str "not") := atI_nat rfl
      have b1 : atI [V.str "not", y] ((1 : Nat) : Int) = some y := atI_nat rfl
      have hd' : t.depth + 1 < n + 1 := hd
      refine ⟨_, rfl, a, _, _, _, rfl, rfl, ha, b0, (by show 2 ≤ sizeLine; decide), fun pt hpt => ⟨pt, _, rfl, .inr (SqT.of upd_same), rfl, rfl, _, rfl, iteF ?_⟩⟩
      have s1 := same_new hpt (.tup [.str "is", .str "compare"])
      have k1 := KT.of s1
      refine ⟨_, rfl, a, _, _, _, rfl, rfl, k1.sqT ha, b0, rfl, _, rfl, eqS rfl ?_⟩
      exact ⟨_, rfl, a, _, _, _, rfl, rfl, k1.sqT ha, b1, y, t, rfl, k1.tr ht, by omega, hz, fun l ys H' s2 e p => q l ys H' (s1.trans s2) e p⟩
    | two o t1 t2 =>
      obtain ⟨a, y, z, rfl, ha, ht1, ht2⟩ := htr
      have hd' : 1 + max t1.depth t2.depth < n + 1 := hd
      have hz' : t1.size + t2.size ≤ 1000 := hz
      have b1 : atI [V.str (hw o), y, z] ((1 : Nat) : Int) = some y := atI_nat rfl
      have b2 : atI [V.str (hw o), y, z] ((2 : Nat) : Int) = some z := atI_nat rfl
      have b0 : atI [V.str (hw o), y, z] ((0 : Nat) : Int) = some (.str (hw o)) := atI_nat rfl
      have ein : inV (.str (hw o)) [.str (Str.ofString "is"), .str (Str.ofString "compare")] = false := by cases o <;> decide +kernel
      have enot : hw o ≠ "not" := by cases o <;> decide
      refine ⟨_, rfl, a, _, _, _, rfl, rfl, ha, b0, (by show 2 ≤ sizeLine; decide), fun pt hpt => ⟨pt, _, rfl, .inr (SqT.of upd_same), rfl, rfl, _, rfl, ?_⟩⟩
      rw [show (if false = true then !inV (.str (hw o)) [.str (Str.ofString "is"), .str (Str.ofString "compare")] else inV (.str (hw o)) [.str (Str.ofString "is"), .str (Str.ofString "compare")]) = false from ein]
      refine iteF ?_
      have s1 := same_new hpt (.tup [.str (Str.ofString "is"), .str (Str.ofString "compare")])
      have k1 := KT.of s1
      refine ⟨_, rfl, a, _, _, _, rfl, rfl, k1.sqT ha, b0, rfl, _, rfl, neS enot ?_⟩
      refine ⟨_, rfl, a, _, _, _, rfl, rfl, k1.sqT ha, b1, y, t1, rfl, k1.tr ht1, by omega, by omega, fun l1 ys1 H1 s2 e1 p1 => ?_⟩
      have k2 := KT.of (s1.trans s2)
      refine ⟨_, rfl, a, _, _, _, rfl, rfl, k2.sqT ha, b2, z, t2, rfl, k2.tr ht2, by omega, by omega, fun l2 ys2 H2 s3 e2 p2 => ?_⟩
      refine ⟨l1, l2, ys1, ys2, rfl, rfl, s3 _ _ e1, e2, ?_, fun p hp => ?_⟩
      · rw [paired_len p1, paired_len p2, atT_len, atT_len]; exact Nat.le_trans hz' (by decide)
      have s4 := same_new hp (.lst (ys1 ++ ys2))
      exact q p _ _ (s1.trans (s2.trans (s3.trans s4))) upd_same (paired_app (paired_mono (fun y u r => (KT.of (s3.trans s4)).tr r) p1) (paired_mono (fun y u r => (KT.of s4).tr r) p2))
end
end K18
set_option maxHeartbeats 4000000
namespace K18
open PySem L2
seal PE PT PW PA PS PSs PG PGs PI PO PSet OpR UnR CallR TruR IxR SlR PC PPs
local macro_rules | `(tactic| walk_at "rd1") => `(tactic| first
  | (refine And.intro rfl ?_)
  | (refine And.intro (by assumption) ?_)
  | (refine And.intro (fun _ e => e) ?_)
  | (refine And.intro (TyOf.str _) ?_) | (refine And.intro (TyOf.int _) ?_) | (refine And.intro (TyOf.bl _) ?_) | (refine And.intro TyOf.non ?_)
  | (refine iteT ?_) | (refine iteF ?_)
  | (apply Exists.intro))
local macro_rules | `(tactic| walk_at "rd") => `(tactic| repeat (walk_at "rd1"))

/-- an atom as a tuple: how, and the number -/
def AtV (K : PySem.W.Frag) (H : Hp) (x : V) (h : Str) (m : Int) : Prop := (∃ a nm, x = .ref a ∧ SqT K H a [.str "is", .str nm, .int m] ∧ h = "=") ∨ (∃ a nm, x = .ref a ∧ SqT K H a [.str "compare", .str nm, .str h, .int m])
def spAS (K : PySem.W.Frag) : Sp := fun vs H Q _ => ∃ (x v : V) (h : Str) (m : Int) (s : Spn), vs = [x, v] ∧ AtV K H x h m ∧ (h = "<" ∨ h = "=" ∨ h = ">") ∧ SGood s ∧ SvR K H s v ∧ Q (tv (surB s h m)) H
theorem neNe {a b : Str} {X Y : Prop} (h : a ≠ b) (k : X) : if (!decide (V.str a = V.str b)) = true then X else Y := by
  rw [show decide (V.str a = V.str b) = false from decide_eq_false fun e => h (V.str.inj e)]; exact k
theorem neEq {a b : Str} {X Y : Prop} (h : a = b) (k : Y) : if (!decide (V.str a = V.str b)) = true then X else Y := by
  rw [show decide (V.str a = V.str b) = true from decide_eq_true (by rw [h])]; exact k
section
variable {P : Program} {w : World} {K : PySem.W.Frag} {mg : Str → Option Value} {base : Heap} {A : Adr}
theorem ok_law_whole (T : Txt K mg A) : FnOk P w K mg base CX0 1 A.f_law_whole A.d_law_whole ["_law_found"] (spIsWhole K) := by
  refine T.F_law_whole.ok sc_law_whole (fun vs H Q E h => ?_) (fun cdv A0 outer s H vs Q E hr h => ?_)
  · obtain ⟨x, _, _, _, rfl, _⟩ := h
    rfl
  obtain ⟨x, t, bi, bb, rfl, ty, k1, k2, q⟩ := h
  refine ⟨_, (pss_one (ps_ret (pe_and (pe_callB call_isi (by rfl) T.n_isinstance Bt.isinstance (pa_cons (pv 0) (pa_cons (pe_bltn (v := .ty "int") rfl T.n_int Bt.int rfl) pa_nil))) (pe_one (pe_not (pe_callB call_isi (by rfl) T.n_isinstance Bt.isinstance (pa_cons (pv 0) (pa_cons (pe_bltn (v := .ty "bool") rfl T.n_bool Bt.bool rfl) pa_nil)))))))), ?_⟩
  refine ⟨_, rfl, _, _, _, _, rfl, rfl, ty, k1, _, rfl, ?_⟩
  cases bi with
  | false => exact iteF q
  | true => exact iteT ⟨_, rfl, _, _, _, _, rfl, rfl, ty, k2, _, rfl, q⟩
theorem ok_law_atom_sure (T : Txt K mg A) : FnOk P w K mg base CX0 1 A.f_law_atom_sure A.d_law_atom_sure ["_law_atom_here", "_law_span"] (spAS K) := by
  refine T.F_law_atom_sure.ok sc_law_atom_sure (fun vs H Q E h => ?_) (fun cdv A0 outer s H vs Q E hr h => ?_)
  · obtain ⟨x, v, h, m, s, rfl, _⟩ := h
    rfl
  obtain ⟨x, v, h, m, s, rfl, hat, hh, hg, hv, q⟩ := h
  refine ⟨_, (pss_cons (ps_if (pt_cmpR op_isN (pv 1) pe_non (nomark _)) (pss_one (ps_ret pe_bl)) pss_nil)
      (pss_cons (ps_set (i := 2) sc_law_atom_sure.nd rfl (by first | exact Or.inl rfl | exact Or.inr rfl) pe_str)
      (pss_cons (ps_if (pt_cmpR op_eq (pe_ix ix_tup (pv 0) pe_int (fun _ _ => rfl)) pe_str (nomark _)) (pss_one (ps_set (i := 2) sc_law_atom_sure.nd rfl (by first | exact Or.inl rfl | exact Or.inr rfl) (pe_ix ix_tup (pv 0) pe_int (fun _ _ => rfl)))) pss_nil)
      (pss_cons (ps_if (PW.pt (pw_or (PW.pt (pw_and (pt_cmpR op_eq (pv 2) pe_str (nomark _)) (pw_and1 (pt_cmpR op_lt (pe_ix ix_tup (pv 1) pe_int (fun _ _ => rfl)) (pe_ix ix_tup (pv 0) (pe_un un_neg pe_int) (fun _ _ => rfl)) (nomark _))))) (pw_or1 (PW.pt (pw_and (pt_cmpR op_eq (pv 2) pe_str (nomark _)) (pw_and1 (pt_cmpR op_gt (pe_ix ix_tup (pv 1) pe_int (fun _ _ => rfl)) (pe_ix ix_tup (pv 0) (pe_un un_neg pe_int) (fun _ _ => rfl)) (nomark _)))))))) (pss_one (ps_ret pe_bl)) pss_nil)
      (pss_cons (ps_if (PW.pt (pw_and (pt_cmpR op_eq (pv 2) pe_str (nomark _)) (pw_and (pt_cmpR op_eq (pe_ix ix_tup (pv 1) pe_int (fun _ _ => rfl)) (pe_ix ix_tup (pv 0) (pe_un un_neg pe_int) (fun _ _ => rfl)) (nomark _)) (pw_and1 (pt_cmpR op_eq (pe_ix ix_tup (pv 1) pe_int (fun _ _ => rfl)) (pe_ix ix_tup (pv 0) (pe_un un_neg pe_int) (fun _ _ => rfl)) (nomark _)))))) (pss_one (ps_ret pe_bl)) pss_nil)
      (pss_cons (ps_if (PW.pt (pw_or (PW.pt (pw_and (pt_cmpR op_ne (pv 2) pe_str (nomark _)) (pw_and1 (pt_cmpR op_gt (pe_ix ix_tup (pv 1) pe_int (fun _ _ => rfl)) (pe_ix ix_tup (pv 0) (pe_un un_neg pe_int) (fun _ _ => rfl)) (nomark _))))) (pw_or1 (PW.pt (pw_and (pt_cmpR op_ne (pv 2) pe_str (nomark _)) (pw_and1 (pt_cmpR op_lt (pe_ix ix_tup (pv 1) pe_int (fun _ _ => rfl)) (pe_ix ix_tup (pv 0) (pe_un un_neg pe_int) (fun _ _ => rfl)) (nomark _)))))))) (pss_one (ps_ret pe_bl)) pss_nil)
      (pss_cons (ps_if (PW.pt (pw_or (PW.pt (pw_and (pt_cmpR op_eq (pv 2) pe_str (nomark _)) (pw_and1 (pt_cmpR op_eq (pe_ix ix_tup (pv 1) pe_int (fun _ _ => rfl)) (pe_ix ix_tup (pv 0) (pe_un un_neg pe_int) (fun _ _ => rfl)) (nomark _))))) (pw_or1 (PW.pt (pw_and (pt_cmpR op_eq (pv 2) pe_str (nomark _)) (pw_and1 (pt_cmpR op_eq (pe_ix ix_tup (pv 1) pe_int (fun _ _ => rfl)) (pe_ix ix_tup (pv 0) (pe_un un_neg pe_int) (fun _ _ => rfl)) (nomark _)))))))) (pss_one (ps_ret pe_bl)) pss_nil)
      (pss_one (ps_ret pe_non))))))))), ?_⟩
  cases s with
  | none =>
    cases hv
    exact ⟨_, rfl, rfl, _, rfl, iteT q⟩
  | some p =>
  obtain ⟨lo, hi⟩ := p
  obtain ⟨sa, rfl, hs⟩ := hv
  have hg : lo ≤ hi := hg
  refine ⟨_, rfl, rfl, _, rfl, iteF ?_⟩
  dsimp only [tNext]
  refine seq_mid (fun σ' H' => H = H' ∧ σ' = [some x, some (.ref sa), some (.str "=")]) ?k1 ?m1
  case m1 =>
    intro key
    exact key _ _ ⟨rfl, rfl⟩
  case k1 =>
  rintro σ' H' ⟨rfl, rfl⟩
  refine seq_mid (fun σ' H' => H = H' ∧ σ' = [some x, some (.ref sa), some (.str h)]) ?kk ?mm
  case mm =>
    intro key
    rcases hat with ⟨a, nm, rfl, ha, rfl⟩ | ⟨a, nm, rfl, ha⟩
    · have b0 : atI [V.str "is", V.str nm, V.int m] ((0 : Nat) : Int) = some (.str "is") := atI_nat rfl
      exact ⟨_, rfl, a, _, _, _, rfl, rfl, ha, b0, rfl, _, rfl, neS (by decide) (key _ _ ⟨rfl, rfl⟩)⟩
    · have b0 : atI [V.str "compare", V.str nm, .str h, .int m] ((0 : Nat) : Int) = some (.str "compare") := atI_nat rfl
      have b2 : atI [V.str "compare", V.str nm, .str h, .int m] ((2 : Nat) : Int) = some (.str h) := atI_nat rfl
      exact ⟨_, rfl, a, _, _, _, rfl, rfl, ha, b0, rfl, _, rfl, eqS rfl ⟨_, rfl, a, _, _, _, rfl, rfl, ha, b2, key _ _ ⟨rfl, rfl⟩⟩⟩
  case kk =>
  rintro σ' H' ⟨rfl, rfl⟩
  obtain ⟨a, xs, rfl, ha, bm⟩ : ∃ a xs, x = .ref a ∧ SqT K H a xs ∧ atI xs (-(1 : Int)) = some (.int m) := by
    rcases hat with ⟨a, nm, rfl, ha, rfl⟩ | ⟨a, nm, rfl, ha⟩
    · exact ⟨a, _, rfl, ha, at_m1 (x0 := [V.str "is", V.str nm])⟩
    · exact ⟨a, _, rfl, ha, at_m1 (x0 := [V.str "compare", V.str nm, V.str h])⟩
  have b0 : atI [V.int lo, V.int hi] ((0 : Nat) : Int) = some (.int lo) := atI_nat rfl
  have b1 : atI [V.int lo, V.int hi] ((1 : Nat) : Int) = some (.int hi) := atI_nat rfl
  have q' : Q (tv (if (cmpB (some lo) h m && cmpB (some hi) h m) = true then some true else if (cmpB (some lo) h m || cmpB (some hi) h m || (decide (lo < m) && decide (m < hi))) = true then none else some false)) H := q
  rcases hh with rfl | rfl | rfl
  · have e0 : cmpB (some lo) "<" m = decide (lo < m) := rfl
    have e1 : cmpB (some hi) "<" m = decide (hi < m) := rfl
    rw [e0, e1] at q'
    refine ⟨_, rfl, rfl, _, rfl, eqS rfl ⟨_, rfl, sa, _, _, _, rfl, rfl, hs, b1, _, rfl, _, rfl, a, _, _, _, rfl, rfl, ha, bm, _, _, rfl, rfl, _, rfl, ite2 (fun d => iteT ?_) (fun d => ?_)⟩⟩
    · have d' : hi < m := of_decide_eq_true d
      rw [decide_eq_true d', decide_eq_true (show lo < m by omega)] at q'
      exact q'
    have d1 : ¬ hi < m := fun e => d (decide_eq_true e)
    refine ⟨_, rfl, rfl, _, rfl, neS (by decide) (iteF ?_)⟩
    refine ⟨_, rfl, rfl, _, rfl, neS (by decide) (iteF ?_)⟩
    refine ⟨_, rfl, rfl, _, rfl, neNe (by decide) ⟨_, rfl, sa, _, _, _, rfl, rfl, hs, b0, _, rfl, _, rfl, a, _, _, _, rfl, rfl, ha, bm, _, _, rfl, rfl, _, rfl, ite2 (fun d => iteT ?_) (fun d => ?_)⟩⟩
    · have d' : m < lo := of_decide_eq_true d
      rw [decide_eq_false d1, decide_eq_false (show ¬ lo < m by omega)] at q'
      exact q'
    have d2 : ¬ m < lo := fun e => d (decide_eq_true e)
    refine ⟨_, rfl, rfl, _, rfl, neEq rfl (iteF ?_)⟩
    refine ⟨_, rfl, rfl, _, rfl, eqS rfl ⟨_, rfl, sa, _, _, _, rfl, rfl, hs, b0, _, rfl, _, rfl, a, _, _, _, rfl, rfl, ha, bm, rfl, _, rfl, ite2 (fun d => iteT ?_) (fun d => ?_)⟩⟩
    · have d' : lo = m := V.int.inj (of_decide_eq_true d)
      rw [decide_eq_false d1, decide_eq_false (show ¬ lo < m by omega)] at q'
      exact q'
    have d3 : ¬ lo = m := fun e => d (decide_eq_true (by rw [e]))
    refine ⟨_, rfl, rfl, _, rfl, neS (by decide) (iteF ?_)⟩
    rw [decide_eq_false d1, decide_eq_true (show lo < m by omega)] at q'
    exact q'
  · have e0 : cmpB (some lo) "=" m = decide (lo = m) := rfl
    have e1 : cmpB (some hi) "=" m = decide (hi = m) := rfl
    rw [e0, e1] at q'
    refine ⟨_, rfl, rfl, _, rfl, neS (by decide) (iteF ?_)⟩
    refine ⟨_, rfl, rfl, _, rfl, neS (by decide) (iteF ?_)⟩
    dsimp only [tNext]
    refine seq_mid (fun σ' H' => H = H' ∧ σ' = [some (.ref a), some (.ref sa), some (.str "=")] ∧ ¬ (lo = m ∧ hi = m)) ?kk2 ?mm2
    case mm2 =>
      intro key
      refine ⟨_, rfl, rfl, _, rfl, eqS rfl ⟨_, rfl, sa, _, _, _, rfl, rfl, hs, b0, _, rfl, _, rfl, a, _, _, _, rfl, rfl, ha, bm, rfl, _, rfl, ite2 (fun d1 => ?_) (fun d1 => iteF (key _ _ ⟨rfl, rfl, fun z => d1 (decide_eq_true (by rw [z.1]))⟩))⟩⟩
      refine ⟨_, rfl, sa, _, _, _, rfl, rfl, hs, b1, _, rfl, _, rfl, a, _, _, _, rfl, rfl, ha, bm, rfl, _, rfl, ite2 (fun d2 => ?_) (fun d2 => key _ _ ⟨rfl, rfl, fun z => d2 (decide_eq_true (by rw [z.2]))⟩)⟩
      have d1' : lo = m := V.int.inj (of_decide_eq_true d1)
      have d2' : hi = m := V.int.inj (of_decide_eq_true d2)
      rw [decide_eq_true d1', decide_eq_true d2'] at q'
      exact q'
    case kk2 =>
    rintro σ' H' ⟨rfl, rfl, hne⟩
    refine ⟨_, rfl, rfl, _, rfl, neNe (by decide) ⟨_, rfl, sa, _, _, _, rfl, rfl, hs, b0, _, rfl, _, rfl, a, _, _, _, rfl, rfl, ha, bm, _, _, rfl, rfl, _, rfl, ite2 (fun d => iteT ?_) (fun d => ?_)⟩⟩
    · have d' : m < lo := of_decide_eq_true d
      rw [decide_eq_false (show ¬ lo = m by omega), decide_eq_false (show ¬ hi = m by omega), decide_eq_false (show ¬ lo < m by omega)] at q'
      exact q'
    have d1 : ¬ m < lo := fun e => d (decide_eq_true e)
    refine ⟨_, rfl, rfl, _, rfl, neNe (by decide) ⟨_, rfl, sa, _, _, _, rfl, rfl, hs, b1, _, rfl, _, rfl, a, _, _, _, rfl, rfl, ha, bm, _, _, rfl, rfl, _, rfl, ite2 (fun d => ?_) (fun d => ?_)⟩⟩
    · have d' : hi < m := of_decide_eq_true d
      rw [decide_eq_false (show ¬ lo = m by omega), decide_eq_false (show ¬ hi = m by omega), decide_eq_false (show ¬ m < hi by omega)] at q'
      generalize decide (lo < m) = bb at q'
      cases bb <;> exact q'
    have d2 : ¬ hi < m := fun e => d (decide_eq_true e)
    refine ⟨_, rfl, rfl, _, rfl, neS (by decide) (iteF ?_)⟩
    refine ⟨_, rfl, rfl, _, rfl, neS (by decide) (iteF ?_)⟩
    rw [if_neg (by rw [Bool.and_eq_true, decide_eq_true_iff, decide_eq_true_iff]; exact hne), if_pos (by
      rw [Bool.or_eq_true, Bool.or_eq_true, Bool.and_eq_true, decide_eq_true_iff, decide_eq_true_iff, decide_eq_true_iff, decide_eq_true_iff]; omega)] at q'
    exact q'
  · have e0 : cmpB (some lo) ">" m = decide (m < lo) := rfl
    have e1 : cmpB (some hi) ">" m = decide (m < hi) := rfl
    rw [e0, e1] at q'
    refine ⟨_, rfl, rfl, _, rfl, neS (by decide) (iteF ?_)⟩
    refine ⟨_, rfl, rfl, _, rfl, eqS rfl ⟨_, rfl, sa, _, _, _, rfl, rfl, hs, b0, _, rfl, _, rfl, a, _, _, _, rfl, rfl, ha, bm, _, _, rfl, rfl, _, rfl, ite2 (fun d => ?_) (fun d => ?_)⟩⟩
    · have d' : m < lo := of_decide_eq_true d
      rw [decide_eq_true d', decide_eq_true (show m < hi by omega)] at q'
      exact q'
    have d1 : ¬ m < lo := fun e => d (decide_eq_true e)
    refine ⟨_, rfl, rfl, _, rfl, neS (by decide) (iteF ?_)⟩
    refine ⟨_, rfl, rfl, _, rfl, neEq rfl (iteF ?_)⟩
    refine ⟨_, rfl, rfl, _, rfl, neNe (by decide) ⟨_, rfl, sa, _, _, _, rfl, rfl, hs, b1, _, rfl, _, rfl, a, _, _, _, rfl, rfl, ha, bm, _, _, rfl, rfl, _, rfl, ite2 (fun d => ?_) (fun d => ?_)⟩⟩
    · have d' : hi < m := of_decide_eq_true d
      rw [decide_eq_false d1, decide_eq_false (show ¬ m < hi by omega)] at q'
      generalize decide (lo < m) = bb at q'
      cases bb <;> exact q'
    have d2 : ¬ hi < m := fun e => d (decide_eq_true e)
    refine ⟨_, rfl, rfl, _, rfl, neS (by decide) (iteF ?_)⟩
    refine ⟨_, rfl, rfl, _, rfl, eqS rfl ⟨_, rfl, sa, _, _, _, rfl, rfl, hs, b1, _, rfl, _, rfl, a, _, _, _, rfl, rfl, ha, bm, rfl, _, rfl, ite2 (fun d => ?_) (fun d => ?_)⟩⟩
    · have d' : hi = m := V.int.inj (of_decide_eq_true d)
      rw [decide_eq_false d1, decide_eq_false (show ¬ m < hi by omega)] at q'
      generalize decide (lo < m) = bb at q'
      cases bb <;> exact q'
    have d3 : ¬ hi = m := fun e => d (decide_eq_true (by rw [e]))
    rw [decide_eq_false d1, decide_eq_true (show m < hi by omega)] at q'
    exact q'
theorem ok_law_three (T : Txt K mg A) : FnOk P w K mg base CX0 1 A.f_law_three A.d_law_three ["_law_found", "_law_due"] sp3 := by
  refine T.F_law_three.ok sc_law_three (fun vs H Q E h => ?_) (fun cdv A0 outer s H vs Q E hr h => ?_)
  · obtain ⟨a, b, rfl, _⟩ := h
    rfl
  obtain ⟨a, b, rfl, q⟩ := h
  refine ⟨_, (pss_cons (ps_if (pt_cmpR op_isN (pv 1) pe_non (nomark _)) (pss_one (ps_ret (pe_cmpR op_isN (pv 0) pe_non (nomark _)))) pss_nil)
      (pss_one (ps_ret (pe_and (pe_callB call_isi (by rfl) T.n_isinstance Bt.isinstance (pa_cons (pv 0) (pa_cons (pe_bltn (v := .ty "bool") rfl T.n_bool Bt.bool rfl) pa_nil))) (pe_one (pe_cmpR op_eq (pv 0) (pv 1) (nomark _))))))), ?_⟩
  cases b with
  | none =>
    refine ⟨_, rfl, rfl, _, rfl, iteT ?_⟩
    cases a with
    | none => exact ⟨_, rfl, rfl, q⟩
    | some v => exact ⟨_, rfl, rfl, q⟩
  | some u =>
    refine ⟨_, rfl, rfl, _, rfl, iteF ?_⟩
    cases a with
    | none => exact ⟨_, rfl, _, _, _, _, rfl, rfl, .old .non, T.i_NoneType_bool, _, rfl, iteF q⟩
    | some v =>
      refine ⟨_, rfl, _, _, _, _, rfl, rfl, .old (.bl v), T.i_bool_bool, _, rfl, iteT ⟨_, rfl, _, rfl, rfl, ?_⟩⟩
      rw [show decide (tv (some v) = tv (some u)) = decide (some v = some u) by cases v <;> cases u <;> rfl]
      exact q
theorem ok_law_word (T : Txt K mg A) : FnOk P w K mg base CX0 1 A.f_law_word A.d_law_word ["_law_found", "_law_due"] spW := by
  refine T.F_law_word.ok sc_law_word (fun vs H Q E h => ?_) (fun cdv A0 outer s H vs Q E hr h => ?_)
  · obtain ⟨a, rfl, _⟩ := h
    rfl
  obtain ⟨a, rfl, q⟩ := h
  refine ⟨_, (pss_one (ps_ret (pe_and (pe_callB call_isi (by rfl) T.n_isinstance Bt.isinstance (pa_cons (pv 0) (pa_cons (pe_bltn (v := .ty "str") rfl T.n_str Bt.str rfl) pa_nil))) (pe_one (pe_cmpR op_eq (pv 0) (pv 1) (nomark _)))))), ?_⟩
  refine ⟨_, rfl, _, _, _, _, rfl, rfl, .old (.str a), T.i_str_str, _, rfl, iteT ⟨_, rfl, _, rfl, rfl, ?_⟩⟩
  rw [decide_eq_true rfl]
  exact q
theorem ok_law_same (T : Txt K mg A) : FnOk P w K mg base CX0 2 A.f_law_same A.d_law_same ["_law_found", "_law_atom_here"] (spSm A K) := by
  have G_law_whole := ok_law_whole (P := P) (w := w) (base := base) T
  have G_law_word := ok_law_word (P := P) (w := w) (base := base) T
  refine T.F_law_same.ok sc_law_same (fun vs H Q E h => ?_) (fun cdv A0 outer s H vs Q E hr h => ?_)
  · obtain ⟨y, x, t, zs, rfl, _⟩ := h
    rfl
  obtain ⟨y, x, t, zs, rfl, hsy, htr, hat, hok, q⟩ := h
  refine ⟨_, (pss_cons (ps_if (pt_cmpR op_eq (pe_ix ix_tup (pv 1) pe_int (fun _ _ => rfl)) pe_str (nomark _)) (pss_cons (ps_if (PW.pt (pw_or (pt_not (pt_val (pe_callB call_isi (by rfl) T.n_isinstance Bt.isinstance (pa_cons (pv 0) (pa_cons (pe_gv rfl T.v_Is) pa_nil))))) (pw_or (pt_not (pt_val (pe_call G_law_whole (hr.mono (by first | decide | omega)) rfl T.m_law_whole T.k_law_whole T.b_law_whole .nil pass0 (pa_cons (pe_fld (pv 0) rfl) pa_nil)))) (pw_or1 (pt_cmpR op_ne (pe_fld (pv 0) rfl) (pe_ix ix_tup (pv 1) pe_int (fun _ _ => rfl)) (nomark _)))))) (pss_one (ps_ret pe_bl)) pss_nil)
      (pss_one (ps_ret (pe_call G_law_word (hr.mono (by first | decide | omega)) rfl T.m_law_word T.k_law_word T.b_law_word .nil pass0 (pa_cons (pe_fld (pv 0) rfl) (pa_cons (pe_ix ix_tup (pv 1) pe_int (fun _ _ => rfl)) pa_nil)))))) pss_nil)
      (pss_cons (ps_if (PW.pt (pw_or (pt_not (pt_val (pe_callB call_isi (by rfl) T.n_isinstance Bt.isinstance (pa_cons (pv 0) (pa_cons (pe_gv rfl T.v_Compare) pa_nil))))) (pw_or (pt_not (pt_val (pe_call G_law_whole (hr.mono (by first | decide | omega)) rfl T.m_law_whole T.k_law_whole T.b_law_whole .nil pass0 (pa_cons (pe_fld (pv 0) rfl) pa_nil)))) (pw_or1 (pt_cmpR op_ne (pe_fld (pv 0) rfl) (pe_ix ix_tup (pv 1) pe_int (fun _ _ => rfl)) (nomark _)))))) (pss_one (ps_ret pe_bl)) pss_nil)
      (pss_one (ps_ret (pe_and (pe_call G_law_word (hr.mono (by first | decide | omega)) rfl T.m_law_word T.k_law_word T.b_law_word .nil pass0 (pa_cons (pe_fld (pv 0) rfl) (pa_cons (pe_ix ix_tup (pv 1) pe_int (fun _ _ => rfl)) pa_nil))) (pe_one (pe_call G_law_word (hr.mono (by first | decide | omega)) rfl T.m_law_word T.k_law_word T.b_law_word .nil pass0 (pa_cons (pe_fld (pv 0) rfl) (pa_cons (pe_ix ix_tup (pv 1) pe_int (fun _ _ => rfl)) pa_nil))))))))), ?_⟩
  cases t with
  | is nm v =>
    obtain ⟨a, rfl, ha⟩ := htr
    obtain ⟨o, dx, rfl, ho⟩ := hsy
    obtain ⟨hz, k, rfl, _⟩ := hok
    have b0 : atI [V.str "is", V.str nm, V.int k] ((0 : Nat) : Int) = some (.str "is") := atI_nat rfl
    have b1 : atI [V.str "is", V.str nm, V.int k] ((1 : Nat) : Int) = some (.str nm) := atI_nat rfl
    have b2 : atI [V.str "is", V.str nm, V.int k] ((2 : Nat) : Int) = some (.int k) := atI_nat rfl
    refine ⟨_, rfl, a, _, _, _, rfl, rfl, ha, b0, rfl, _, rfl, eqS rfl ?_⟩
    refine ⟨_, rfl, _, _, _, _, rfl, rfl, .old (T.ty_Is _ _ _ _ ho), T.kr_Is_Is, _, rfl, iteF ?_⟩
    refine ⟨_, rfl, o, _, dx, _, _, rfl, ho, T.cl_Is, T.no_Is_place, rfl, _, _, _, _, rfl, .old (.int k), T.i_int_int, T.i_int_bool, _, rfl, iteF ?_⟩
    refine ⟨_, rfl, o, _, dx, _, _, rfl, ho, T.cl_Is, T.no_Is_place, rfl, _, rfl, a, _, _, _, rfl, rfl, ha, b2, rfl, _, rfl, ?_⟩
    rw [decide_eq_true rfl]
    refine iteF ?_
    exact ⟨_, rfl, o, _, dx, _, _, rfl, ho, T.cl_Is, T.no_Is_name, rfl, _, rfl, a, _, _, _, rfl, rfl, ha, b1, nm, rfl, q⟩
  | cmp nm h m =>
    obtain ⟨a, rfl, ha⟩ := htr
    obtain ⟨o, dx, rfl, ho⟩ := hsy
    have b0 : atI [V.str "compare", V.str nm, .str h, .int m] ((0 : Nat) : Int) = some (.str "compare") := atI_nat rfl
    have b1 : atI [V.str "compare", V.str nm, .str h, .int m] ((1 : Nat) : Int) = some (.str nm) := atI_nat rfl
    have b2 : atI [V.str "compare", V.str nm, .str h, .int m] ((2 : Nat) : Int) = some (.str h) := atI_nat rfl
    have b3 : atI [V.str "compare", V.str nm, .str h, .int m] ((3 : Nat) : Int) = some (.int m) := atI_nat rfl
    refine ⟨_, rfl, a, _, _, _, rfl, rfl, ha, b0, rfl, _, rfl, neS (by decide) ?_⟩
    refine ⟨_, rfl, _, _, _, _, rfl, rfl, .old (T.ty_Compare _ _ _ _ ho), T.kr_Compare_Compare, _, rfl, iteF ?_⟩
    refine ⟨_, rfl, o, _, dx, _, _, rfl, ho, T.cl_Compare, T.no_Compare_number, rfl, _, _, _, _, rfl, .old (.int m), T.i_int_int, T.i_int_bool, _, rfl, iteF ?_⟩
    refine ⟨_, rfl, o, _, dx, _, _, rfl, ho, T.cl_Compare, T.no_Compare_number, rfl, _, rfl, a, _, _, _, rfl, rfl, ha, b3, rfl, _, rfl, ?_⟩
    rw [decide_eq_true rfl]
    refine iteF ?_
    refine ⟨_, rfl, o, _, dx, _, _, rfl, ho, T.cl_Compare, T.no_Compare_name, rfl, _, rfl, a, _, _, _, rfl, rfl, ha, b1, nm, rfl, _, rfl, iteT ?_⟩
    exact ⟨_, rfl, o, _, dx, _, _, rfl, ho, T.cl_Compare, T.no_Compare_how, rfl, _, rfl, a, _, _, _, rfl, rfl, ha, b2, h, rfl, q⟩
  | neg _ => exact hat.elim
  | two _ _ _ => exact hat.elim
theorem scTv (a : Option Bool) (o : Bool) : scal (tv a) (.bl o) = true := by rcases a with _ | _ | _ <;> rfl
theorem ok_law_sure (T : Txt K mg A) : ∀ n : Nat, FnOk P w K mg base CX0 (n + 1) A.f_law_sure A.d_law_sure ["_law_tree_here", "_law_spans"] (spLS K n)
  | 0 => by
    have len : ∀ (vs : List V) (H : Hp) (Q : VK) (E : XK), spLS K 0 vs H Q E → False := fun vs H Q E h => by
      obtain ⟨x, d, t, S, zs, rfl, _, hd, _⟩ := h
      exact absurd hd (by omega)
    exact ⟨fun vs H Q E h => (len _ _ _ _ h).elim, fun _ _ _ _ _ _ _ _ _ _ _ _ _ h => (len _ _ _ _ h).elim⟩
  | n + 1 => by
    have G_law_sure := ok_law_sure T n
    have G_law_atom_sure := ok_law_atom_sure (P := P) (w := w) (base := base) T
    refine T.F_law_sure.ok sc_law_sure (fun vs H Q E h => ?_) (fun cdv A0 outer s H vs Q E hr h => ?_)
    · obtain ⟨x, d, t, S, zs, rfl, _⟩ := h
      rfl
    obtain ⟨x, d, t, S, zs, rfl, htr, hd, hok, hr', q⟩ := h
    refine ⟨_, (pss_cons (ps_if (pt_cmpR op_in_seq (pe_ix ix_tup (pv 0) pe_int (fun _ _ => rfl)) (pe_tup (pa_cons pe_str (pa_cons pe_str pa_nil))) (by rfl)) (pss_one (ps_ret (pe_call G_law_atom_sure (hr.mono (by first | decide | omega)) rfl T.m_law_atom_sure T.k_law_atom_sure T.b_law_atom_sure .nil pass0 (pa_cons (pv 0) (pa_cons (pe_dget (hu_of hr) (pv 1) (pe_ix ix_tup (pv 0) pe_int (fun _ _ => rfl)) (fun _ _ => rfl)) pa_nil))))) pss_nil)
      (pss_cons (ps_set (i := 2) sc_law_sure.nd rfl (by first | exact Or.inl rfl | exact Or.inr rfl) (pe_call G_law_sure (hr.mono (by first | decide | omega)) rfl T.m_law_sure T.k_law_sure T.b_law_sure .nil pass0 (pa_cons (pe_ix ix_tup (pv 0) pe_int (fun _ _ => rfl)) (pa_cons (pv 1) pa_nil))))
      (pss_cons (ps_if (pt_cmpR op_eq (pe_ix ix_tup (pv 0) pe_int (fun _ _ => rfl)) pe_str (nomark _)) (pss_one (ps_ret (pe_ix ix_list (pe_lst (pa_cons (pe_notN (pv 2)) (pa_cons pe_non pa_nil))) (pe_callTy call_int1 (by rfl) T.n_int Bt.int (pa_cons (pe_cmpR op_isN (pv 2) pe_non (nomark _)) pa_nil)) (fun _ _ => rfl)))) pss_nil)
      (pss_cons (ps_set (i := 3) sc_law_sure.nd rfl (by first | exact Or.inl rfl | exact Or.inr rfl) (pe_call G_law_sure (hr.mono (by first | decide | omega)) rfl T.m_law_sure T.k_law_sure T.b_law_sure .nil pass0 (pa_cons (pe_ix ix_tup (pv 0) pe_int (fun _ _ => rfl)) (pa_cons (pv 1) pa_nil))))
      (pss_cons (ps_set (i := 4) sc_law_sure.nd rfl (by first | exact Or.inl rfl | exact Or.inr rfl) (pe_cmpR op_eq (pe_ix ix_tup (pv 0) pe_int (fun _ _ => rfl)) pe_str (nomark _)))
      (pss_cons (ps_if (PW.pt (pw_or (pt_cmpR op_eq (pv 2) (pv 4) (nomark _)) (pw_or1 (pt_cmpR op_eq (pv 3) (pv 4) (nomark _))))) (pss_one (ps_ret (pv 4))) pss_nil)
      (pss_cons (ps_if (PW.pt (pw_or (pt_cmpR op_isN (pv 2) pe_non (nomark _)) (pw_or1 (pt_cmpR op_isN (pv 3) pe_non (nomark _))))) (pss_one (ps_ret pe_non)) pss_nil)
      (pss_one (ps_ret (pe_not (pv 4))))))))))), ?_⟩
    obtain ⟨kvs, hkv, hv⟩ := id hr'
    cases t with
    | is nm v =>
      obtain ⟨a, rfl, ha⟩ := htr
      obtain ⟨hz, k, rfl, _⟩ := hok
      have b0 : atI [V.str "is", V.str nm, V.int k] ((0 : Nat) : Int) = some (.str "is") := atI_nat rfl
      have b1 : atI [V.str "is", V.str nm, V.int k] ((1 : Nat) : Int) = some (.str nm) := atI_nat rfl
      refine ⟨_, rfl, a, _, _, _, rfl, rfl, ha, b0, (by show 2 ≤ sizeLine; decide), fun pt hpt => ⟨pt, _, rfl, .inr (SqT.of upd_same), rfl, rfl, _, rfl, iteT ?_⟩⟩
      have s1 := same_new hpt (.tup [.str "is", .str "compare"])
      obtain ⟨g, sv, hx, hsv⟩ := hv nm hz
      have gd := DGet.k (k := Sum.inr nm) (s1 _ _ hkv)
      rw [hx] at gd
      exact ⟨_, rfl, _, rfl, _, rfl, a, _, _, _, rfl, rfl, s1.seqT ha, b1, d, sv, rfl, gd, _, _, "=", k, S nm, rfl, .inl ⟨a, nm, rfl, s1.seqT ha, rfl⟩, .inr (.inl rfl), g, hsv.sameN (SameN.of s1), q _ s1⟩
    | cmp nm h m =>
      obtain ⟨a, rfl, ha⟩ := htr
      obtain ⟨hz, hh, _⟩ := hok
      have b0 : atI [V.str "compare", V.str nm, .str h, .int m] ((0 : Nat) : Int) = some (.str "compare") := atI_nat rfl
      have b1 : atI [V.str "compare", V.str nm, .str h, .int m] ((1 : Nat) : Int) = some (.str nm) := atI_nat rfl
      refine ⟨_, rfl, a, _, _, _, rfl, rfl, ha, b0, (by show 2 ≤ sizeLine; decide), fun pt hpt => ⟨pt, _, rfl, .inr (SqT.of upd_same), rfl, rfl, _, rfl, iteT ?_⟩⟩
      have s1 := same_new hpt (.tup [.str "is", .str "compare"])
      obtain ⟨g, sv, hx, hsv⟩ := hv nm hz
      have gd := DGet.k (k := Sum.inr nm) (s1 _ _ hkv)
      rw [hx] at gd
      exact ⟨_, rfl, _, rfl, _, rfl, a, _, _, _, rfl, rfl, s1.seqT ha, b1, d, sv, rfl, gd, _, _, h, m, S nm, rfl, .inr ⟨a, nm, rfl, s1.seqT ha⟩, hh, g, hsv.sameN (SameN.of s1), q _ s1⟩
    | neg t =>
      obtain ⟨a, y, rfl, ha, ht⟩ := htr
      have b0 : atI [V.str "not", y] ((0 : Nat) : Int) = some (.str "not") := atI_nat rfl
      have b1 : atI [V.str "not", y] ((1 : Nat) : Int) = some y := atI_nat rfl
      have hd' : t.depth + 1 < n + 1 := hd
      refine ⟨_, rfl, a, _, _, _, rfl, rfl, ha, b0, (by show 2 ≤ sizeLine; decide), fun pt hpt => ⟨pt, _, rfl, .inr (SqT.of upd_same), rfl, rfl, _, rfl, iteF ?_⟩⟩
      have s1 := same_new hpt (.tup [.str "is", .str "compare"])
      have k1 := KT.of s1
      refine ⟨_, rfl, a, _, _, _, rfl, rfl, k1.sqT ha, b1, _, rfl, y, d, t, S, zs, rfl, k1.tr ht, by omega, hok, (SameN.of s1).ds hr', fun H2 s2 => ?_⟩
      have s12 := s1.trans s2
      refine ⟨_, rfl, a, _, _, _, rfl, rfl, s12.seqT ha, b0, rfl, _, rfl, eqS rfl ?_⟩
      have q' : ∀ H', Same H H' → Q (tv ((suT S t).map (!·))) H' := q
      cases e : suT S t with
      | none =>
        rw [e] at q'
        refine ⟨_, rfl, .inr ⟨rfl, (by show 2 ≤ sizeLine; decide), fun pl hpl => ?_⟩⟩
        exact ⟨_, rfl, rfl, .inr ⟨_, rfl, pl, _, _, _, rfl, rfl, SqL.of upd_same, atI_nat (j := 1) rfl, q' _ (s12.trans (same_new hpl _))⟩⟩
      | some b =>
        rw [e] at q'
        refine ⟨_, rfl, .inl ⟨b, rfl, (by show 2 ≤ sizeLine; decide), fun pl hpl => ?_⟩⟩
        exact ⟨_, rfl, rfl, .inr ⟨_, rfl, pl, _, _, _, rfl, rfl, SqL.of upd_same, atI_nat (j := 0) rfl, q' _ (s12.trans (same_new hpl _))⟩⟩
    | two o t1 t2 =>
      obtain ⟨a, y, z, rfl, ha, ht1, ht2⟩ := htr
      have hd' : 1 + max t1.depth t2.depth < n + 1 := hd
      have b1 : atI [V.str (hw o), y, z] ((1 : Nat) : Int) = some y := atI_nat rfl
      have b2 : atI [V.str (hw o), y, z] ((2 : Nat) : Int) = some z := atI_nat rfl
      have b0 : atI [V.str (hw o), y, z] ((0 : Nat) : Int) = some (.str (hw o)) := atI_nat rfl
      have ein : inV (.str (hw o)) [.str (Str.ofString "is"), .str (Str.ofString "compare")] = false := by cases o <;> decide +kernel
      have enot : hw o ≠ "not" := by cases o <;> decide
      refine ⟨_, rfl, a, _, _, _, rfl, rfl, ha, b0, (by show 2 ≤ sizeLine; decide), fun pt hpt => ⟨pt, _, rfl, .inr (SqT.of upd_same), rfl, rfl, _, rfl, ?_⟩⟩
      rw [show (if false = true then !inV (.str (hw o)) [.str (Str.ofString "is"), .str (Str.ofString "compare")] else inV (.str (hw o)) [.str (Str.ofString "is"), .str (Str.ofString "compare")]) = false from ein]
      refine iteF ?_
      have s1 := same_new hpt (.tup [.str (Str.ofString "is"), .str (Str.ofString "compare")])
      have k1 := KT.of s1
      refine ⟨_, rfl, a, _, _, _, rfl, rfl, k1.sqT ha, b1, _, rfl, y, d, t1, S, zs, rfl, k1.tr ht1, by omega, hok.1, (SameN.of s1).ds hr', fun H2 s2 => ?_⟩
      have s12 := s1.trans s2
      refine ⟨_, rfl, a, _, _, _, rfl, rfl, s12.seqT ha, b0, rfl, _, rfl, neS enot ?_⟩
      refine ⟨_, rfl, a, _, _, _, rfl, rfl, s12.seqT ha, b2, _, rfl, z, d, t2, S, zs, rfl, (KT.of s12).tr ht2, by omega, hok.2, (SameN.of s12).ds hr', fun H3 s3 => ?_⟩
      have s13 := s12.trans s3
      refine ⟨_, rfl, a, _, _, _, rfl, rfl, s13.seqT ha, b0, rfl, ?_⟩
      have eo : decide (V.str (hw o) = V.str (Str.ofString "or")) = o := by cases o <;> decide
      rw [eo]
      have q' : Q (tv (two3 o (suT S t1) (suT S t2))) H3 := q H3 s13
      unfold two3 at q'
      generalize suT S t1 = u1 at q' ⊢
      generalize suT S t2 = u2 at q' ⊢
      refine ⟨_, rfl, _, rfl, scTv _ _, _, rfl, ?_⟩
      cases o <;> rcases u1 with _ | _ | _ <;> rcases u2 with _ | _ | _ <;> first | exact iteT (iteT ⟨_, rfl, q'⟩) | exact iteF ⟨_, rfl, _, rfl, rfl, _, rfl, iteT ⟨_, rfl, q'⟩⟩ | exact iteF ⟨_, rfl, _, rfl, rfl, _, rfl, iteF ⟨_, rfl, rfl, _, rfl, iteT (iteT q')⟩⟩ | exact iteF ⟨_, rfl, _, rfl, rfl, _, rfl, iteF ⟨_, rfl, rfl, _, rfl, iteF ⟨_, rfl, rfl, _, rfl, iteT q'⟩⟩⟩ | exact iteF ⟨_, rfl, _, rfl, rfl, _, rfl, iteF ⟨_, rfl, rfl, _, rfl, iteF ⟨_, rfl, rfl, _, rfl, iteF ⟨_, rfl, _, rfl, q'⟩⟩⟩⟩
end
end K18
set_option maxHeartbeats 4000000
namespace K18
open PySem L2
seal PE PT PW PA PS PSs PG PGs PI PO PSet OpR UnR CallR TruR IxR SlR PC PPs
local macro_rules | `(tactic| walk_at "rd1") => `(tactic| first
  | (refine And.intro rfl ?_)
  | (refine And.intro (by assumption) ?_)
  | (refine And.intro (fun _ e => e) ?_)
  | (refine And.intro (TyOf.str _) ?_) | (refine And.intro (TyOf.int _) ?_) | (refine And.intro (TyOf.bl _) ?_) | (refine And.intro TyOf.non ?_)
  | (refine iteT ?_) | (refine iteF ?_)
  | (apply Exists.intro))
local macro_rules | `(tactic| walk_at "rd") => `(tactic| repeat (walk_at "rd1"))

def spR (A : Adr) (K : PySem.W.Frag) (Pt : Addr) : Sp := fun vs H Q _ => ∃ (ys yt : V) (d : Addr) (t : Tr) (S : Str → Spn) (zs : List Str), vs = [ys, yt, .ref d] ∧ SyR A H t ys ∧ TrR K H t yt ∧ t.depth < 9 ∧ t.size ≤ 1000 ∧ t.Ok zs ∧ DS K H d S zs ∧ Tab DL posL H Pt ∧ ∀ H', SameN H H' → Tab DL posL H' Pt → Q (.bl true) H'
section
variable {P : Program} {w : World} {K : PySem.W.Frag} {mg : Str → Option Value} {base : Heap} {A : Adr}
theorem ok_law_right (T : Txt K mg A) (B : BMain mg base) {c Pt : Addr} (hc : A.d_law_look.code = .ref c) (hh : PySem.W.codeHdIn K c Pt = true) : FnOk P w K mg base CX0 21 A.f_law_right A.d_law_right ["_law_saying", "_law_tree_here", "_law_spans"] (spR A K Pt) := by
  have G_law_three := ok_law_three (P := P) (w := w) (base := base) T
  have G_law_same := ok_law_same (P := P) (w := w) (base := base) T
  have G_law_sure := ok_law_sure (P := P) (w := w) (base := base) T 9
  have G_law_atoms := ok_law_atoms (P := P) (w := w) (base := base) T 9
  have G_law_look := ok_law_look (P := P) (w := w) (base := base) T B hc hh
  have G_S := ok_sure (P := P) (w := w) (base := base) T 9
  have G_F := ok_first_open (P := P) (w := w) (base := base) T (k := 19) (by decide) (by decide) (ok_atoms T 9) G_S
  refine T.F_law_right.ok sc_law_right (fun vs H Q E h => ?_) (fun cdv A0 outer s H vs Q E hr h => ?_)
  · obtain ⟨ys, yt, d, t, S, zs, rfl, _⟩ := h
    rfl
  obtain ⟨ys, yt, d, t, S, zs, rfl, hsy, htr, hd9, hz, hok, hds, t0, q⟩ := h
  obtain ⟨ks, hks⟩ : ∃ ks : Nat, ks = 19 := ⟨19, rfl⟩
  obtain ⟨kf, hkf⟩ : ∃ kf : Nat, kf = 20 := ⟨20, rfl⟩
  refine ⟨_, (pss_cons (ps_if (pt_not (pt_val (pe_call G_law_three (hr.mono (by first | decide | omega)) rfl T.m_law_three T.k_law_three T.b_law_three .nil pass0 (pa_cons (pe_methG (CX := CX0) (k := ks) (hr.mono (by first | decide | omega)) pass0 (pv 0) (pa_cons (pe_call G_law_look (hr.mono (by first | decide | omega)) rfl T.m_law_look T.k_law_look T.b_law_look .nil pass0 (pa_cons (pv 2) pa_nil)) pa_nil)) (pa_cons (pe_call G_law_sure (hr.mono (by first | decide | omega)) rfl T.m_law_sure T.k_law_sure T.b_law_sure .nil pass0 (pa_cons (pv 1) (pa_cons (pv 2) pa_nil))) pa_nil))))) (pss_one (ps_ret pe_bl)) pss_nil)
      (pss_cons (ps_set (i := 3) sc_law_right.nd rfl (by first | exact Or.inl rfl | exact Or.inr rfl) (pe_methG (CX := CX0) (k := kf) (hr.mono (by first | decide | omega)) pass0 (pv 0) (pa_cons (pe_call G_law_look (hr.mono (by first | decide | omega)) rfl T.m_law_look T.k_law_look T.b_law_look .nil pass0 (pa_cons (pv 2) pa_nil)) pa_nil)))
      (pss_cons (ps_forR PassesOwn.never rfl (pi_list (pe_call G_law_atoms (hr.mono (by first | decide | omega)) rfl T.m_law_atoms T.k_law_atoms T.b_law_atoms .nil pass0 (pa_cons (pv 1) pa_nil))) (pg_name (i := 4) sc_law_right.nd rfl (by first | exact Or.inl rfl | exact Or.inr rfl)) (pss_one (ps_if (pt_cmpR op_isN (pe_call G_law_sure (hr.mono (by first | decide | omega)) rfl T.m_law_sure T.k_law_sure T.b_law_sure .nil pass0 (pa_cons (pv 4) (pa_cons (pv 2) pa_nil))) pe_non (nomark _)) (pss_one (ps_ret (pe_call G_law_same (hr.mono (by first | decide | omega)) rfl T.m_law_same T.k_law_same T.b_law_same .nil pass0 (pa_cons (pv 3) (pa_cons (pv 4) pa_nil))))) pss_nil)))
      (pss_one (ps_ret (pe_cmpR op_isN (pv 3) pe_non (nomark _))))))), ?_⟩
  subst hks
  subst hkf
  obtain ⟨a1, C1, dx1, fs1, M1, ey1, h1, hl1, hdv1, hsp1⟩ := sure_of T G_S hsy
  refine ⟨_, rfl, a1, C1, dx1, fs1, M1, ey1, h1, hl1, _, rfl, .ref d, rfl, t0, fun p1 H1 _ sb1 tg1 lam1 => ?_⟩
  rw [hdv1, hsp1]
  have n1 := SameN.ofB t0 sb1
  have t1 : Tab DL posL H1 Pt := .inr tg1
  refine ⟨ys, p1, d, t, S, zs, rfl, n1.sy hsy, hd9, rfl, hok, lam1, n1.ds hds, fun H2 s2 => ?_⟩
  have n2 := n1.trans (SameN.of s2)
  refine ⟨_, rfl, _, rfl, yt, d, t, S, zs, rfl, n2.tr htr, hd9, hok, n2.ds hds, fun H3 s3 => ?_⟩
  have n3 := n2.trans (SameN.of s3)
  have t3 : Tab DL posL H3 Pt := Tab.same (s2.trans s3) t1
  refine ⟨_, _, rfl, _, rfl, ?_⟩
  rw [decide_eq_true rfl]
  refine iteF ?_
  have hsy3 := n3.sy hsy
  obtain ⟨a2, C2, dx2, fs2, M2, ey2, h2, hl2, hdv2, hsp2⟩ := fopen_of T G_F hsy3
  refine ⟨_, rfl, a2, C2, dx2, fs2, M2, ey2, h2, hl2, _, rfl, .ref d, rfl, t3, fun p2 H4 _ sb4 tg4 lam4 => ?_⟩
  rw [hdv2, hsp2]
  have n4 := n3.trans (SameN.ofB t3 sb4)
  have t4 : Tab DL posL H4 Pt := .inr tg4
  refine ⟨ys, p2, d, t, S, zs, rfl, n4.sy hsy, hd9, hz, hok, lam4, n4.ds hds, fun fd H5 s5 hfd => ?_⟩
  have n5 := n4.trans (SameN.of s5)
  have t5 : Tab DL posL H5 Pt := Tab.same s5 t4
  refine ⟨_, rfl, yt, t, rfl, n5.tr htr, hd9, hz, fun la xs H6 s6 e6 p6 => ?_⟩
  have n6 := n5.trans (SameN.of s6)
  have t6 : Tab DL posL H6 Pt := Tab.same s6 t5
  refine ⟨la, rfl, ⟨_, SqL.of e6⟩, ?_⟩
  refine for_listR (xs := xs) (fun i σ G => Same H6 G ∧ (∃ u, σ = [some ys, some yt, some (.ref d), some fd, u]) ∧ fo S ((atT t).take i) = none) ⟨Same.refl _, ⟨_, rfl⟩, rfl⟩ (fun i σ G _ hh => SqL.of (hh.1 _ _ e6)) (fun i y σ G hy hw => ?_) (fun σ G hw => ?_)
  · obtain ⟨sG, ⟨u, rfl⟩, hf⟩ := hw
    obtain ⟨b, hb, hyb⟩ := paired_at p6 hy
    obtain ⟨at1, at2, at3⟩ := atT_mem hok b (List.mem_of_getElem? hb)
    have nG := n6.trans (SameN.of sG)
    have hyb' : TrR K G b y := (KT.of sG).tr hyb
    refine ⟨_, rfl, _, rfl, y, d, b, S, zs, rfl, hyb', by omega, at2, nG.ds hds, fun H7 s7 => ?_⟩
    obtain ⟨f1, f2⟩ := fo_take hb hf
    cases e : suT S b with
    | none =>
      refine ⟨rfl, _, rfl, iteT ?_⟩
      rw [f1 e] at hfd
      have hfd' : SyR A H7 b fd := SyR.same (s6.trans (sG.trans s7)) hfd
      exact ⟨_, rfl, _, rfl, fd, y, b, zs, rfl, hfd', (KT.of s7).tr hyb', at1, at2, q _ (nG.trans (SameN.of s7)) (Tab.same (sG.trans s7) t6)⟩
    | some v =>
      exact ⟨rfl, _, rfl, iteF ⟨sG.trans s7, ⟨_, rfl⟩, f2 (by rw [e]; simp)⟩⟩
  · obtain ⟨sG, ⟨u, rfl⟩, hf⟩ := hw
    rw [paired_len p6, List.take_length] at hf
    rw [hf] at hfd
    cases hfd
    exact ⟨_, rfl, rfl, q _ (n6.trans (SameN.of sG)) (Tab.same sG t6)⟩
end
end K18
set_option maxHeartbeats 4000000
namespace K18
open PySem L2
seal PE PT PW PA PS PSs PG PGs PI PO PSet OpR UnR CallR TruR IxR SlR PC PPs
local macro_rules | `(tactic| walk_at "rd1") => `(tactic| first
  | (refine And.intro rfl ?_)
  | (refine And.intro (by assumption) ?_)
  | (refine And.intro (fun _ e => e) ?_)
  | (refine And.intro (TyOf.str _) ?_) | (refine And.intro (TyOf.int _) ?_) | (refine And.intro (TyOf.bl _) ?_) | (refine And.intro TyOf.non ?_)
  | (refine iteT ?_) | (refine iteF ?_)
  | (apply Exists.intro))
local macro_rules | `(tactic| walk_at "rd") => `(tactic| repeat (walk_at "rd1"))

def sp_law (K : PySem.W.Frag) (Pt : Addr) : Sp := fun vs H Q _ => ∃ (a : Addr) (ns : List Int), vs = [.ref a] ∧ SqL K H a (ns.map V.int) ∧ ns.length ≤ 63 ∧ (∀ n ∈ ns, ib n ≤ 1048576) ∧ Tab DL posL H Pt ∧ ∀ H', Q (.bl true) H'
/-- one number each -/
def pt2 (o : Option Int) : Spn := o.map fun i => (i, i)
theorem sur_pt {o : Option Int} {h : Str} {m : Int} : surB (pt2 o) h m = some (cmpB o h m) := by
  cases o with
  | none => rfl
  | some i =>
    show (if (cmpB (some i) h m && cmpB (some i) h m) = true then some true else if (cmpB (some i) h m || cmpB (some i) h m || (decide (i < m) && decide (m < i))) = true then none else some false) = _
    have e : (decide (i < m) && decide (m < i)) = false := by
      rw [Bool.and_eq_false_iff, decide_eq_false_iff_not, decide_eq_false_iff_not]; omega
    rw [e]
    cases cmpB (some i) h m <;> rfl
theorem su_pt {R : Str → Option Int} {S : Str → Spn} {zs : List Str} (h : ∀ z ∈ zs, S z = pt2 (R z)) : ∀ {t : Tr}, t.Ok zs → suT S t = some (evT R t)
  | .is n v, k => by show surB (S n) "=" (iv v) = some (cmpB (R n) "=" (iv v)); rw [h n k.1, sur_pt]
  | .cmp n x m, k => by show surB (S n) x m = some (cmpB (R n) x m); rw [h n k.1, sur_pt]
  | .neg t, k => by show (suT S t).map (!·) = some (!evT R t); rw [su_pt h (t := t) k]; rfl
  | .two o s t, k => by
    show two3 o (suT S s) (suT S t) = some (if o = true then evT R s || evT R t else evT R s && evT R t)
    rw [su_pt h k.1, su_pt h k.2]
    cases o <;> cases evT R s <;> cases evT R t <;> rfl
/-- the dicts, so far -/
def D1 (K : PySem.W.Frag) (H : Hp) (kvs : List (Key × V)) (zs : List Str) : Prop := ∀ z ∈ zs, ∃ s : Spn, SGood s ∧ ∃ x, valV kvs (Sum.inr z) = some x ∧ SvR K H s x
def D23 (K : PySem.W.Frag) (H : Hp) (k2 k3 : List (Key × V)) (zs : List Str) : Prop := ∀ z ∈ zs, ∃ o : Option Int, valV k3 (Sum.inr z) = some (rv o) ∧ ∃ x, valV k2 (Sum.inr z) = some x ∧ SvR K H (pt2 o) x
/-- the same but for dicts -/
def KDt (H H' : Hp) : Prop := ∀ b o, H b = some o → (∀ k, o ≠ .dK k) → H' b = some o
theorem KDt.of {H H' : Hp} (s : Same H H') : KDt H H' := fun b o e _ => s b o e
theorem KDt.trans {H H1 H2 : Hp} (a : KDt H H1) (b : KDt H1 H2) : KDt H H2 := fun c o e n => b c o (a c o e n) n
theorem KDt.upd {H : Hp} {d : Addr} {k : List (Key × V)} {o : HO} (h : H d = some (.dK k)) : KDt H (upd H d o) := fun b u e n => by
  rw [upd_ne (by rintro rfl; rw [h] at e; cases e; exact n _ rfl)]; exact e
theorem KDt.sqT {K : PySem.W.Frag} {H H' : Hp} {a : Addr} {xs : List V} (s : KDt H H') (h : SqT K H a xs) : SqT K H' a xs := by
  rcases h with (h | ⟨o, h⟩) | h
  · exact .inl (.inl (s _ _ h (by intro _ z; cases z)))
  · exact .inl (.inr ⟨o, s _ _ h (by intro _ z; cases z)⟩)
  · exact .inr h
theorem SvR.kt {K : PySem.W.Frag} {H H' : Hp} (s : KDt H H') : ∀ {o : Spn} {x : V}, SvR K H o x → SvR K H' o x
  | none, _, h => h
  | some _, _, ⟨a, e, h⟩ => ⟨a, e, s.sqT h⟩
theorem D1.kt {K : PySem.W.Frag} {H H' : Hp} {kvs : List (Key × V)} {zs : List Str} (s : KDt H H') (h : D1 K H kvs zs) : D1 K H' kvs zs := fun z hz => let ⟨o, g, x, e, r⟩ := h z hz; ⟨o, g, x, e, r.kt s⟩
theorem D23.kt {K : PySem.W.Frag} {H H' : Hp} {k2 k3 : List (Key × V)} {zs : List Str} (s : KDt H H') (h : D23 K H k2 k3 zs) : D23 K H' k2 k3 zs := fun z hz => let ⟨o, e, x, f, r⟩ := h z hz; ⟨o, e, x, f, r.kt s⟩
theorem D1.put {K : PySem.W.Frag} {H : Hp} {kvs : List (Key × V)} {zs : List Str} {z : Str} {s : Spn} {x : V} (h : D1 K H kvs zs) (g : SGood s) (r : SvR K H s x) : D1 K H (putK kvs (Sum.inr z) x) (zs ++ [z]) := fun y hy => by
  rw [valV_put]
  by_cases e : y = z
  · rw [if_pos (by rw [e])]; exact ⟨s, g, x, rfl, r⟩
  · rw [if_neg (fun q => e (Sum.inr.inj q))]
    rcases List.mem_append.mp hy with q | q
    · exact h y q
    · exact absurd (List.mem_singleton.mp q) e
theorem D23.put {K : PySem.W.Frag} {H : Hp} {k2 k3 : List (Key × V)} {zs : List Str} {z : Str} {o : Option Int} {x : V} (h : D23 K H k2 k3 zs) (r : SvR K H (pt2 o) x) : D23 K H (putK k2 (Sum.inr z) x) (putK k3 (Sum.inr z) (rv o)) (zs ++ [z]) := fun y hy => by
  rw [valV_put, valV_put]
  by_cases e : y = z
  · rw [if_pos (by rw [e]), if_pos (by rw [e])]; exact ⟨o, rfl, x, rfl, r⟩
  · rw [if_neg (fun q => e (Sum.inr.inj q)), if_neg (fun q => e (Sum.inr.inj q))]
    rcases List.mem_append.mp hy with q | q
    · exact h y q
    · exact absurd (List.mem_singleton.mp q) e
theorem D1.ds {K : PySem.W.Frag} {H : Hp} {kvs : List (Key × V)} {zs : List Str} {d : Addr} (h : D1 K H kvs zs) (e : H d = some (.dK kvs)) : ∃ S, DS K H d S zs := by
  classical
  refine ⟨fun z => if hz : z ∈ zs then (h z hz).choose else none, kvs, e, fun z hz => ?_⟩
  dsimp only
  rw [dif_pos hz]
  exact (h z hz).choose_spec
theorem D23.ds {K : PySem.W.Frag} {H : Hp} {k2 k3 : List (Key × V)} {zs : List Str} {d2 d3 : Addr} (h : D23 K H k2 k3 zs) (e2 : H d2 = some (.dK k2)) (e3 : H d3 = some (.dK k3)) : ∃ R, DR H d3 R zs ∧ DS K H d2 (fun z => pt2 (R z)) zs := by
  classical
  refine ⟨fun z => if hz : z ∈ zs then (h z hz).choose else none, ⟨k3, e3, fun z hz => ?_⟩, k2, e2, fun z hz => ?_⟩
  · dsimp only
    rw [dif_pos hz]
    exact (h z hz).choose_spec.1
  · dsimp only
    rw [dif_pos hz]
    refine ⟨?_, (h z hz).choose_spec.2⟩
    cases (h z hz).choose with
    | none => trivial
    | some i => exact Int.le_refl i
theorem pick2 (x : V) (g : Bool) : atI [x, V.non] (if g = true then 1 else 0) = some (if g = true then .non else x) := by
  cases g with
  | false => exact atI_nat (j := 0) rfl
  | true => exact atI_nat (j := 1) rfl
section
variable {P : Program} {w : World} {K : PySem.W.Frag} {mg : Str → Option Value} {base : Heap} {A : Adr}
theorem ok_law (T : Txt K mg A) (B : BMain mg base) {c Pt : Addr} (hc : A.d_law_look.code = .ref c) (hh : PySem.W.codeHdIn K c Pt = true) : FnOk P w K mg base CX0 24 A.f_law A.d_law ["_law_script"] (sp_law K Pt) := by
  have G_law_table := ok_law_table (P := P) (w := w) (base := base) T
  have G_law_tree := ok_law_tree (P := P) (w := w) (base := base) T
  have G_law_made := ok_law_made (P := P) (w := w) (base := base) T 9
  have G_law_right := ok_law_right (P := P) (w := w) (base := base) T B hc hh
  have G_law_three := ok_law_three (P := P) (w := w) (base := base) T
  have G_law_sure := ok_law_sure (P := P) (w := w) (base := base) T 9
  have G_law_look := ok_law_look (P := P) (w := w) (base := base) T B hc hh
  have G_H := ok_holds (P := P) (w := w) (base := base) T 9
  refine T.F_law.ok sc_law (fun vs H Q E h => ?_) (fun cdv A0 outer s H vs Q E hr h => ?_)
  · obtain ⟨a, ns, rfl, _⟩ := h
    rfl
  obtain ⟨a, ns, rfl, hS, hlen, hbits, tb, q⟩ := h
  obtain ⟨kr, hkr⟩ : ∃ kr : Nat, kr = 9 := ⟨9, rfl⟩
  refine ⟨_, (pss_cons (ps_set (i := 1) sc_law.nd rfl (by first | exact Or.inl rfl | exact Or.inr rfl) (pe_call G_law_table (hr.mono (by first | decide | omega)) rfl T.m_law_table T.k_law_table T.b_law_table .nil pass0 (pa_cons (pv 0) pa_nil)))
      (pss_cons (ps_set (i := 2) sc_law.nd rfl (by first | exact Or.inl rfl | exact Or.inr rfl) (pe_call G_law_tree (hr.mono (by first | decide | omega)) rfl T.m_law_tree T.k_law_tree T.b_law_tree .nil pass0 (pa_cons (pe_slice sl_list (pv 0) (po_some pe_int) (po_some pe_int)) (pa_cons (pv 1) pa_nil))))
      (pss_cons (ps_set (i := 3) sc_law.nd rfl (by first | exact Or.inl rfl | exact Or.inr rfl) (pe_call G_law_made (hr.mono (by first | decide | omega)) rfl T.m_law_made T.k_law_made T.b_law_made .nil pass0 (pa_cons (pv 2) pa_nil)))
      (pss_cons (ps_set (i := 4) sc_law.nd rfl (by first | exact Or.inl rfl | exact Or.inr rfl) pe_dnewK)
      (pss_cons (ps_set (i := 5) sc_law.nd rfl (by first | exact Or.inl rfl | exact Or.inr rfl) pe_dnewK)
      (pss_cons (ps_set (i := 6) sc_law.nd rfl (by first | exact Or.inl rfl | exact Or.inr rfl) pe_dnewK)
      (pss_cons (ps_forR PassesOwn.never rfl (pi_list (pv 1)) (pg_tup rfl (pgs_cons (pg_name (i := 7) sc_law.nd rfl (by first | exact Or.inl rfl | exact Or.inr rfl)) (pgs_cons (pg_name (i := 8) sc_law.nd rfl (by first | exact Or.inl rfl | exact Or.inr rfl)) (pgs_cons (pg_name (i := 9) sc_law.nd rfl (by first | exact Or.inl rfl | exact Or.inr rfl)) (pgs_cons (pg_name (i := 10) sc_law.nd rfl (by first | exact Or.inl rfl | exact Or.inr rfl)) pgs_nil))))) (pss_cons (ps_dput (hu_of hr) (pv 4) (pv 7) (pe_ix ix_list (pe_lst (pa_cons (pe_tup (pa_cons (pv 8) (pa_cons (pe_op op_add (pv 8) (pv 9)) pa_nil))) (pa_cons pe_non pa_nil))) (pe_callTy call_int1 (by rfl) T.n_int Bt.int (pa_cons (pv 10) pa_nil)) (fun _ _ => rfl)) rfl)
      (pss_cons (ps_dput (hu_of hr) (pv 5) (pv 7) (pe_ix ix_list (pe_lst (pa_cons (pe_tup (pa_cons (pe_op op_add (pv 8) (pv 9)) (pa_cons (pe_op op_add (pv 8) (pv 9)) pa_nil))) (pa_cons pe_non pa_nil))) (pe_callTy call_int1 (by rfl) T.n_int Bt.int (pa_cons (pe_cmpR op_eq (pe_op op_mod (pv 8) pe_int) pe_int (nomark _)) pa_nil)) (fun _ _ => rfl)) rfl)
      (pss_one (ps_dput (hu_of hr) (pv 6) (pv 7) (pe_ix ix_list (pe_lst (pa_cons (pe_op op_add (pv 8) (pv 9)) (pa_cons pe_non pa_nil))) (pe_callTy call_int1 (by rfl) T.n_int Bt.int (pa_cons (pe_cmpR op_eq (pe_op op_mod (pv 8) pe_int) pe_int (nomark _)) pa_nil)) (fun _ _ => rfl)) rfl)))))
      (pss_cons (ps_if (PW.pt (pw_or (pt_not (pt_val (pe_call G_law_right (hr.mono (by first | decide | omega)) rfl T.m_law_right T.k_law_right T.b_law_right .nil pass0 (pa_cons (pv 3) (pa_cons (pv 2) (pa_cons (pv 4) pa_nil)))))) (pw_or1 (pt_not (pt_val (pe_call G_law_right (hr.mono (by first | decide | omega)) rfl T.m_law_right T.k_law_right T.b_law_right .nil pass0 (pa_cons (pv 3) (pa_cons (pv 2) (pa_cons (pv 5) pa_nil))))))))) (pss_one (ps_ret pe_bl)) pss_nil)
      (pss_cons (ps_if (pt_not (pt_val (pe_call G_law_three (hr.mono (by first | decide | omega)) rfl T.m_law_three T.k_law_three T.b_law_three .nil pass0 (pa_cons (pe_methG (CX := CX0) (k := kr) (hr.mono (by first | decide | omega)) pass0 (pv 3) (pa_cons (pe_call G_law_look (hr.mono (by first | decide | omega)) rfl T.m_law_look T.k_law_look T.b_law_look .nil pass0 (pa_cons (pv 6) pa_nil)) pa_nil)) (pa_cons (pe_call G_law_sure (hr.mono (by first | decide | omega)) rfl T.m_law_sure T.k_law_sure T.b_law_sure .nil pass0 (pa_cons (pv 2) (pa_cons (pv 5) pa_nil))) pa_nil))))) (pss_one (ps_ret pe_bl)) pss_nil)
      (pss_one (ps_ret (pe_call G_law_right (hr.mono (by first | decide | omega)) rfl T.m_law_right T.k_law_right T.b_law_right .nil pass0 (pa_cons (pv 3) (pa_cons (pv 2) (pa_cons (pv 4) pa_nil))))))))))))))), ?_⟩
  subst hkr
  refine ⟨_, rfl, a, ns, rfl, hS, hbits, fun pr xs rs H1 s1 hpr hrs hr5 hrg => ?_⟩
  refine ⟨_, rfl, _, rfl, _, rfl, a, _, rfl, s1.seq hS, fun pc hpc => ?_⟩
  obtain ⟨ms, em, hm, hml⟩ := cutV_map V.int ns (some 7) (some 71)
  rw [em]
  have sc := same_new hpc (.lst (ms.map V.int))
  refine ⟨_, rfl, pc, ms, .ref pr, rs.map (·.1), rfl, SqL.of upd_same, fun n hn => hbits n (hm n hn), by omega, ⟨pr, xs, rs, rfl, sc _ _ hpr, hrs.same sc, hr5, hrg, rfl⟩, fun yt t H2 s2 htr hok hdp hsz => ?_⟩
  have s12 := sc.trans s2
  refine ⟨_, rfl, yt, t, rfl, htr, by omega, fun ys H3 s3 hsy => ?_⟩
  have s13 := s12.trans s3
  intro d1 hd1 d2 hd2 d3 hd3
  have sd1 := same_new hd1 (.dK [])
  have sd2 := same_new hd2 (.dK [])
  have sd3 := same_new hd3 (.dK [])
  have ne21 : d1 ≠ d2 := fun e => by rw [← e, upd_same] at hd2; cases hd2
  have ne31 : d1 ≠ d3 := fun e => by rw [← e, sd2 _ _ upd_same] at hd3; cases hd3
  have ne32 : d2 ≠ d3 := fun e => by rw [← e, upd_same] at hd3; cases hd3
  have hd2' : H3 d2 = none := by rw [upd_ne ne21.symm] at hd2; exact hd2
  have hd3' : H3 d3 = none := by rw [upd_ne ne32.symm, upd_ne ne31.symm] at hd3; exact hd3
  have hpr3 : H3 pr = some (.lst xs) := s13 _ _ hpr
  have hrs3 := hrs.same s13
  have sD := sd1.trans (sd2.trans sd3)
  refine ⟨_, rfl, pr, rfl, ⟨_, SqL.of (sD _ _ hpr3)⟩, ?_⟩
  refine for_listR (xs := xs) (fun i σ G => Same H3 G ∧ (∃ u1 u2 u3 u4, σ = [some (.ref a), some (.ref pr), some yt, some ys, some (.ref d1), some (.ref d2), some (.ref d3), u1, u2, u3, u4]) ∧ ∃ k1 k2 k3, G d1 = some (.dK k1) ∧ G d2 = some (.dK k2) ∧ G d3 = some (.dK k3) ∧ k1.length ≤ i ∧ k2.length ≤ i ∧ k3.length ≤ i ∧ i ≤ 5 ∧ D1 K G k1 ((rs.take i).map (·.1)) ∧ D23 K G k2 k3 ((rs.take i).map (·.1)))
    ⟨sD, ⟨_, _, _, _, rfl⟩, [], [], [], sd3 _ _ (sd2 _ _ upd_same), sd3 _ _ upd_same, upd_same, Nat.le_refl _, Nat.le_refl _, Nat.le_refl _, by omega, (fun z hz => by cases hz), fun z hz => by cases hz⟩ (fun i σ G _ hh => SqL.of (hh.1 _ _ hpr3)) (fun i x σ G hx hw => ?_) (fun σ G hw => ?_)
  · obtain ⟨sG, ⟨u1, u2, u3, u4, rfl⟩, k1, k2, k3, e1, e2, e3, l1, l2, l3, l5, g1, g2⟩ := hw
    obtain ⟨⟨nm, b, wd, gn⟩, hri, ar, rfl, har⟩ := hrs3.at hx
    have hi5 : i < 5 := by have := (List.getElem?_eq_some_iff.mp hri).1; omega
    have et : (rs.take (i + 1)).map (·.1) = (rs.take i).map (·.1) ++ [nm] := by rw [List.take_succ, hri, List.map_append]; rfl
    obtain ⟨_, _, hwd, _⟩ := hrg _ (List.mem_of_getElem? hri)
    have hwd : 0 ≤ wd := hwd
    refine ⟨ar, _, rfl, sG.seqT har, rfl, _, _, rfl, _, _, rfl, _, _, rfl, _, _, rfl, rfl, ?_⟩
    refine ⟨_, rfl, _, rfl, _, rfl, _, _, rfl, rfl, (by show 2 ≤ sizeLine; decide), fun p1 hp1 => ⟨(by show 2 ≤ sizeLine; decide), fun q1 hq1 => ⟨_, rfl, .inr ⟨gn, rfl, q1, _, _, _, rfl, rfl, SqL.of upd_same, pick2 _ gn, ?_⟩⟩⟩⟩
    have sp1 := same_new hp1 (.tup [.int b, .int (b + wd)])
    have sq1 := same_new hq1 (.lst [.ref p1, .non])
    have sA := sp1.trans sq1
    refine ⟨_, rfl, _, rfl, d1, _, rfl, DPut.k (k := Sum.inr nm) (sA _ _ e1) (small1000 (by omega)), ?_⟩
    have kA : KDt G (upd (upd (upd G p1 (.tup [.int b, .int (b + wd)])) q1 (.lst [.ref p1, .non])) d1 (.dK (putK k1 (Sum.inr nm) (if gn = true then .non else .ref p1)))) := (KDt.of sA).trans (KDt.upd (sA _ _ e1))
    have r1 : SvR K (upd (upd (upd G p1 (.tup [.int b, .int (b + wd)])) q1 (.lst [.ref p1, .non])) d1 (.dK (putK k1 (Sum.inr nm) (if gn = true then .non else .ref p1)))) (if gn = true then none else some (b, b + wd)) (if gn = true then .non else .ref p1) := by
      cases gn with
      | true => rfl
      | false => exact ⟨p1, rfl, (KDt.upd (sA _ _ e1)).sqT (sq1.seqT (SqT.of upd_same))⟩
    have x2 : (upd (upd (upd G p1 (.tup [.int b, .int (b + wd)])) q1 (.lst [.ref p1, .non])) d1 (.dK (putK k1 (Sum.inr nm) (if gn = true then .non else .ref p1)))) d2 = some (.dK k2) := by rw [upd_ne ne21.symm]; exact sA _ _ e2
    have x3 : (upd (upd (upd G p1 (.tup [.int b, .int (b + wd)])) q1 (.lst [.ref p1, .non])) d1 (.dK (putK k1 (Sum.inr nm) (if gn = true then .non else .ref p1)))) d3 = some (.dK k3) := by rw [upd_ne ne31.symm]; exact sA _ _ e3
    have x1 := upd_same (H := upd (upd G p1 (.tup [.int b, .int (b + wd)])) q1 (.lst [.ref p1, .non])) (a := d1) (o := .dK (putK k1 (Sum.inr nm) (if gn = true then .non else .ref p1)))
    have sU : Same H3 (upd (upd (upd G p1 (.tup [.int b, .int (b + wd)])) q1 (.lst [.ref p1, .non])) d1 (.dK (putK k1 (Sum.inr nm) (if gn = true then .non else .ref p1)))) := fun b' o hb' => by rw [upd_ne (ne_of_none hb' hd1)]; exact sA _ _ (sG _ _ hb')
    have y1 := D1.put (z := nm) (g1.kt kA) (s := if gn = true then none else some (b, b + wd)) (by cases gn; (show b ≤ b + wd; omega); trivial) r1
    have y2 := g2.kt kA
    have lk1 : (putK k1 (Sum.inr nm) (if gn = true then V.non else .ref p1)).length ≤ i + 1 := Nat.le_trans (length_putK _ _ _) (by omega)
    generalize putK k1 (Sum.inr nm) (if gn = true then V.non else .ref p1) = k1' at kA r1 x1 x2 x3 sU y1 y2 lk1 ⊢
    generalize upd (upd (upd G p1 (.tup [.int b, .int (b + wd)])) q1 (.lst [.ref p1, .non])) d1 (.dK k1') = G1 at kA r1 x1 x2 x3 sU y1 y2 ⊢
    refine ⟨_, rfl, _, rfl, _, _, rfl, rfl, _, rfl, _, rfl, _, _, rfl, rfl, (by show 2 ≤ sizeLine; decide), fun p2 hp2 => ⟨(by show 2 ≤ sizeLine; decide), fun q2 hq2 => ⟨_, rfl, _, _, rfl, rfl, (by show (0 : Int) < 5; decide), rfl, .inr ⟨_, rfl, q2, _, _, _, rfl, rfl, SqL.of upd_same, pick2 _ _, ?_⟩⟩⟩⟩
    have sp2 := same_new hp2 (.tup [.int (b + wd), .int (b + wd)])
    have sq2 := same_new hq2 (.lst [.ref p2, .non])
    have sB := sp2.trans sq2
    refine ⟨_, rfl, _, rfl, d2, _, rfl, DPut.k (k := Sum.inr nm) (sB _ _ x2) (small1000 (by omega)), ?_⟩
    refine ⟨_, rfl, _, rfl, _, _, rfl, rfl, (by show 2 ≤ sizeLine; decide), fun q3 hq3 => ⟨_, rfl, _, _, rfl, rfl, (by show (0 : Int) < 5; decide), rfl, .inr ⟨_, rfl, q3, _, _, _, rfl, rfl, SqL.of upd_same, pick2 _ _, ?_⟩⟩⟩
    generalize hcc : decide (V.int (b % 5) = V.int 1) = cc at hq3 ⊢
    have kB := (KDt.of sB).trans (KDt.upd (o := .dK (putK k2 (Sum.inr nm) (if cc = true then .non else .ref p2))) (sB _ _ x2))
    have sq3 := same_new hq3 (.lst [.int (b + wd), .non])
    have z3 : (upd (upd (upd (upd G1 p2 (.tup [.int (b + wd), .int (b + wd)])) q2 (.lst [.ref p2, .non])) d2 (.dK (putK k2 (Sum.inr nm) (if cc = true then .non else .ref p2)))) q3 (.lst [.int (b + wd), .non])) d3 = some (.dK k3) := sq3 _ _ (by rw [upd_ne ne32.symm]; exact sB _ _ x3)
    refine ⟨_, rfl, _, rfl, d3, _, rfl, DPut.k (k := Sum.inr nm) z3 (small1000 (by omega)), ?_⟩
    have kC := (KDt.of sq3).trans (KDt.upd (o := .dK (putK k3 (Sum.inr nm) (if cc = true then .non else .int (b + wd)))) z3)
    have erv : (if cc = true then V.non else .int (b + wd)) = rv (if cc = true then none else some (b + wd)) := by cases cc <;> rfl
    have r2 := (KDt.upd (o := .dK (putK k2 (Sum.inr nm) (if cc = true then .non else .ref p2))) (sB _ _ x2)).sqT (K := K) (sq2.seqT (SqT.of (upd_same (H := G1) (a := p2) (o := .tup [.int (b + wd), .int (b + wd)]))))
    refine ⟨fun b' o hb' => ?_, ⟨_, _, _, _, rfl⟩, k1', putK k2 (Sum.inr nm) (if cc = true then V.non else .ref p2), _, ?_, ?_, upd_same, lk1, Nat.le_trans (length_putK k2 _ _) (by omega), Nat.le_trans (length_putK k3 _ _) (by omega), by omega, ?_, ?_⟩
    · rw [upd_ne (ne_of_none hb' hd3')]
      refine sq3 _ _ ?_
      rw [upd_ne (ne_of_none hb' hd2')]
      exact sB _ _ (sU _ _ hb')
    · rw [upd_ne ne31]
      refine sq3 _ _ ?_
      rw [upd_ne ne21]
      exact sB _ _ x1
    · rw [upd_ne ne32]
      exact sq3 _ _ upd_same
    · rw [et]; exact y1.kt (kB.trans kC)
    · rw [et, erv]
      refine D23.put ((y2.kt kB).kt (by rw [← erv]; exact kC)) ?_
      cases cc with
      | true => rfl
      | false => exact ⟨p2, rfl, kC.sqT r2⟩
  obtain ⟨sG, ⟨u1, u2, u3, u4, rfl⟩, k1, k2, k3, e1, e2, e3, _, _, _, _, g1, g2⟩ := hw
  rw [hrs3.len, List.take_length] at g1 g2
  obtain ⟨S1, w1⟩ := g1.ds e1
  obtain ⟨R, w3, w2⟩ := g2.ds e2 e3
  have sAll : Same H G := s1.trans (s13.trans sG)
  have t0 : Tab DL posL G Pt := Tab.same sAll tb
  have hsyG : SyR A G t ys := hsy.same sG
  have htrG : TrR K G t yt := (KT.of (s3.trans sG)).tr htr
  have hd9 : t.depth < 9 := by omega
  have hz : t.size ≤ 1000 := by omega
  refine ⟨_, rfl, _, rfl, _, rfl, ys, yt, d1, t, S1, _, rfl, hsyG, htrG, hd9, hz, hok, w1, t0, fun H4 n4 t4 => ⟨_, rfl, iteF ?_⟩⟩
  refine ⟨_, rfl, _, rfl, _, rfl, ys, yt, d2, t, _, _, rfl, n4.sy hsyG, n4.tr htrG, hd9, hz, hok, n4.ds w2, t4, fun H5 n5' t5 => ⟨_, rfl, iteF ?_⟩⟩
  have n5 := n4.trans n5'
  obtain ⟨a2, C2, dx2, fs2, M2, ey2, h2, hl2, hdv2, hsp2⟩ := meth_of T G_H (n5.sy hsyG)
  refine ⟨_, rfl, a2, C2, dx2, fs2, M2, ey2, h2, hl2, _, rfl, .ref d3, rfl, t5, fun p2 H6 _ sb6 tg6 lam6 => ?_⟩
  rw [hdv2, hsp2]
  have n6 := n5.trans (SameN.ofB t5 sb6)
  have t6 : Tab DL posL H6 Pt := .inr tg6
  refine ⟨ys, p2, d3, t, R, _, rfl, n6.sy hsyG, hd9, rfl, hok, lam6, n6.dr w3, ?_⟩
  refine ⟨_, rfl, _, rfl, yt, d2, t, _, _, rfl, n6.tr htrG, hd9, hok, n6.ds w2, fun H7 s7 => ?_⟩
  have n7 := n6.trans (SameN.of s7)
  have t7 : Tab DL posL H7 Pt := Tab.same s7 t6
  rw [su_pt (R := R) (fun z _ => rfl) hok]
  refine ⟨some (evT R t), some (evT R t), rfl, _, rfl, ?_⟩
  rw [decide_eq_true rfl]
  refine iteF ?_
  exact ⟨_, rfl, _, rfl, _, rfl, ys, yt, d1, t, S1, _, rfl, n7.sy hsyG, n7.tr htrG, hd9, hz, hok, n7.ds w1, t7, fun H8 _ _ => q H8⟩
end
end K18
set_option maxHeartbeats 4000000
namespace K18
open PySem L2
theorem txt_mk {K : PySem.W.Frag} {h : Heap} {mg : Str → Option Value} (X : K.In h) (G : h.Ns mainGlobals mg)
  {f0 : Addr} {od0 an0 : Option Addr} {sl0 : Array (Option Value)} {oc0 kV0 dc0 pm0 cd0 ct0 : Value}
  {f1 : Addr} {od1 an1 : Option Addr} {sl1 : Array (Option Value)} {oc1 kV1 dc1 pm1 cd1 ct1 : Value}
  {f2 : Addr} {od2 an2 : Option Addr} {sl2 : Array (Option Value)} {oc2 kV2 dc2 pm2 cd2 ct2 : Value}
  {f3 : Addr} {od3 an3 : Option Addr} {sl3 : Array (Option Value)} {oc3 kV3 dc3 pm3 cd3 ct3 : Value}
  {dT3 : Addr} {dD3 : Option Addr} {dN3 : Nat} {dS3 : Array (Option Value)}
  {f4 : Addr} {od4 an4 : Option Addr} {sl4 : Array (Option Value)} {oc4 kV4 dc4 pm4 cd4 ct4 : Value}
  {f5 : Addr} {od5 an5 : Option Addr} {sl5 : Array (Option Value)} {oc5 kV5 dc5 pm5 cd5 ct5 : Value}
  {f6 : Addr} {od6 an6 : Option Addr} {sl6 : Array (Option Value)} {oc6 kV6 dc6 pm6 cd6 ct6 : Value}
  {f7 : Addr} {od7 an7 : Option Addr} {sl7 : Array (Option Value)} {oc7 kV7 dc7 pm7 cd7 ct7 : Value}
  {f8 : Addr} {od8 an8 : Option Addr} {sl8 : Array (Option Value)} {oc8 kV8 dc8 pm8 cd8 ct8 : Value}
  {f9 : Addr} {od9 an9 : Option Addr} {sl9 : Array (Option Value)} {oc9 kV9 dc9 pm9 cd9 ct9 : Value}
  {f10 : Addr} {od10 an10 : Option Addr} {sl10 : Array (Option Value)} {oc10 kV10 dc10 pm10 cd10 ct10 : Value}
  {f11 : Addr} {od11 an11 : Option Addr} {sl11 : Array (Option Value)} {oc11 kV11 dc11 pm11 cd11 ct11 : Value}
  {f12 : Addr} {od12 an12 : Option Addr} {sl12 : Array (Option Value)} {oc12 kV12 dc12 pm12 cd12 ct12 : Value}
  {f13 : Addr} {od13 an13 : Option Addr} {sl13 : Array (Option Value)} {oc13 kV13 dc13 pm13 cd13 ct13 : Value}
  {f14 : Addr} {od14 an14 : Option Addr} {sl14 : Array (Option Value)} {oc14 kV14 dc14 pm14 cd14 ct14 : Value}
  {f15 : Addr} {od15 an15 : Option Addr} {sl15 : Array (Option Value)} {oc15 kV15 dc15 pm15 cd15 ct15 : Value}
  {f16 : Addr} {od16 an16 : Option Addr} {sl16 : Array (Option Value)} {oc16 kV16 dc16 pm16 cd16 ct16 : Value}
  {f17 : Addr} {od17 an17 : Option Addr} {sl17 : Array (Option Value)} {oc17 kV17 dc17 pm17 cd17 ct17 : Value}
  {f18 : Addr} {od18 an18 : Option Addr} {sl18 : Array (Option Value)} {oc18 kV18 dc18 pm18 cd18 ct18 : Value}
  {f19 : Addr} {od19 an19 : Option Addr} {sl19 : Array (Option Value)} {oc19 kV19 dc19 pm19 cd19 ct19 : Value}
  {f20 : Addr} {od20 an20 : Option Addr} {sl20 : Array (Option Value)} {oc20 kV20 dc20 pm20 cd20 ct20 : Value}
  {f21 : Addr} {od21 an21 : Option Addr} {sl21 : Array (Option Value)} {oc21 kV21 dc21 pm21 cd21 ct21 : Value}
  {f22 : Addr} {od22 an22 : Option Addr} {sl22 : Array (Option Value)} {oc22 kV22 dc22 pm22 cd22 ct22 : Value}
  {f23 : Addr} {od23 an23 : Option Addr} {sl23 : Array (Option Value)} {oc23 kV23 dc23 pm23 cd23 ct23 : Value}
  {f24 : Addr} {od24 an24 : Option Addr} {sl24 : Array (Option Value)} {oc24 kV24 dc24 pm24 cd24 ct24 : Value}
  {f25 : Addr} {od25 an25 : Option Addr} {sl25 : Array (Option Value)} {oc25 kV25 dc25 pm25 cd25 ct25 : Value}
  {f26 : Addr} {od26 an26 : Option Addr} {sl26 : Array (Option Value)} {oc26 kV26 dc26 pm26 cd26 ct26 : Value}
  {f27 : Addr} {od27 an27 : Option Addr} {sl27 : Array (Option Value)} {oc27 kV27 dc27 pm27 cd27 ct27 : Value}
  {f28 : Addr} {od28 an28 : Option Addr} {sl28 : Array (Option Value)} {oc28 kV28 dc28 pm28 cd28 ct28 : Value}
  {f29 : Addr} {od29 an29 : Option Addr} {sl29 : Array (Option Value)} {oc29 kV29 dc29 pm29 cd29 ct29 : Value}
  {f30 : Addr} {od30 an30 : Option Addr} {sl30 : Array (Option Value)} {oc30 kV30 dc30 pm30 cd30 ct30 : Value}
  {f31 : Addr} {od31 an31 : Option Addr} {sl31 : Array (Option Value)} {oc31 kV31 dc31 pm31 cd31 ct31 : Value}
  {f32 : Addr} {od32 an32 : Option Addr} {sl32 : Array (Option Value)} {oc32 kV32 dc32 pm32 cd32 ct32 : Value}
  {f33 : Addr} {od33 an33 : Option Addr} {sl33 : Array (Option Value)} {oc33 kV33 dc33 pm33 cd33 ct33 : Value}
  {f34 : Addr} {od34 an34 : Option Addr} {sl34 : Array (Option Value)} {oc34 kV34 dc34 pm34 cd34 ct34 : Value}
  {f35 : Addr} {od35 an35 : Option Addr} {sl35 : Array (Option Value)} {oc35 kV35 dc35 pm35 cd35 ct35 : Value}
  {f36 : Addr} {od36 an36 : Option Addr} {sl36 : Array (Option Value)} {oc36 kV36 dc36 pm36 cd36 ct36 : Value}
  {f37 : Addr} {od37 an37 : Option Addr} {sl37 : Array (Option Value)} {oc37 kV37 dc37 pm37 cd37 ct37 : Value}
  {f38 : Addr} {od38 an38 : Option Addr} {sl38 : Array (Option Value)} {oc38 kV38 dc38 pm38 cd38 ct38 : Value}
  {f39 : Addr} {od39 an39 : Option Addr} {sl39 : Array (Option Value)} {oc39 kV39 dc39 pm39 cd39 ct39 : Value}
  {k_Both : Addr}
  {k_Compare : Addr}
  {k_Either : Addr}
  {k_Is : Addr}
  {k_Not : Addr}
  {k_Pair : Addr}
  {k_Saying : Addr}
  {mc mP : Addr} {mt : Value} {mod : Option Addr} {mvs : Array Value} {msl : Array (Option Value)}
  (na_Both : PySem.W.nsIn K mainGlobals "Both" = some (some (.ref k_Both)))
  (na_Compare : PySem.W.nsIn K mainGlobals "Compare" = some (some (.ref k_Compare)))
  (na_Either : PySem.W.nsIn K mainGlobals "Either" = some (some (.ref k_Either)))
  (na_Is : PySem.W.nsIn K mainGlobals "Is" = some (some (.ref k_Is)))
  (na_Not : PySem.W.nsIn K mainGlobals "Not" = some (some (.ref k_Not)))
  (na_Pair : PySem.W.nsIn K mainGlobals "Pair" = some (some (.ref k_Pair)))
  (na_Saying : PySem.W.nsIn K mainGlobals "Saying" = some (some (.ref k_Saying)))
  (a0 : PySem.W.nsIn K mainGlobals "compares" = some (some (.ref f0)))
  (l0 : K.lookup f0 = some ⟨oc0, od0, .func (PySem.W.fnOf "compares" "compares" (defArgs s_compares) (defBody s_compares) (defScope s_compares) .none kV0 dc0 pm0 an0 cd0 ct0), sl0⟩)
  (c0 : PySem.W.codeIn K cd0 "compares" = true)
  (k0 : PySem.W.keepIn K (.ref f0) = true)
  (a1 : PySem.W.nsIn K mainGlobals "surely_compares" = some (some (.ref f1)))
  (l1 : K.lookup f1 = some ⟨oc1, od1, .func (PySem.W.fnOf "surely_compares" "surely_compares" (defArgs s_surely_compares) (defBody s_surely_compares) (defScope s_surely_compares) .none kV1 dc1 pm1 an1 cd1 ct1), sl1⟩)
  (c1 : PySem.W.codeIn K cd1 "surely_compares" = true)
  (k1 : PySem.W.keepIn K (.ref f1) = true)
  (a2 : PySem.W.findIn K (.ref k_Saying) "first_open" = some (some (.ref f2)))
  (l2 : K.lookup f2 = some ⟨oc2, od2, .func (PySem.W.fnOf "first_open" "Saying.first_open" (defArgs s_c_Saying_first_open) (defBody s_c_Saying_first_open) (defScope s_c_Saying_first_open) .none kV2 dc2 pm2 an2 cd2 ct2), sl2⟩)
  (c2 : PySem.W.codeIn K cd2 "Saying.first_open" = true)
  (k2 : PySem.W.keepIn K (.ref f2) = true)
  (a3 : PySem.W.findIn K (.ref k_Is) "__init__" = some (some (.ref f3)))
  (l3 : K.lookup f3 = some ⟨oc3, od3, .func (PySem.W.fnOf "__init__" "Is.__init__" (defArgs s_c_Is___init) (defBody s_c_Is___init) (defScope s_c_Is___init) (.ref dT3) kV3 dc3 pm3 an3 cd3 ct3), sl3⟩)
  (c3 : PySem.W.codeIn K cd3 "Is.__init__" = true)
  (k3 : PySem.W.keepIn K (.ref f3) = true)
  (dl3 : K.lookup dT3 = some ⟨.type "tuple", dD3, .seq ([.none] : List Value).toArray dN3, dS3⟩)
  (a4 : PySem.W.findIn K (.ref k_Is) "atoms" = some (some (.ref f4)))
  (l4 : K.lookup f4 = some ⟨oc4, od4, .func (PySem.W.fnOf "atoms" "Is.atoms" (defArgs s_c_Is_atoms) (defBody s_c_Is_atoms) (defScope s_c_Is_atoms) .none kV4 dc4 pm4 an4 cd4 ct4), sl4⟩)
  (c4 : PySem.W.codeIn K cd4 "Is.atoms" = true)
  (k4 : PySem.W.keepIn K (.ref f4) = true)
  (a5 : PySem.W.findIn K (.ref k_Is) "holds" = some (some (.ref f5)))
  (l5 : K.lookup f5 = some ⟨oc5, od5, .func (PySem.W.fnOf "holds" "Is.holds" (defArgs s_c_Is_holds) (defBody s_c_Is_holds) (defScope s_c_Is_holds) .none kV5 dc5 pm5 an5 cd5 ct5), sl5⟩)
  (c5 : PySem.W.codeIn K cd5 "Is.holds" = true)
  (k5 : PySem.W.keepIn K (.ref f5) = true)
  (a6 : PySem.W.findIn K (.ref k_Is) "sure" = some (some (.ref f6)))
  (l6 : K.lookup f6 = some ⟨oc6, od6, .func (PySem.W.fnOf "sure" "Is.sure" (defArgs s_c_Is_sure) (defBody s_c_Is_sure) (defScope s_c_Is_sure) .none kV6 dc6 pm6 an6 cd6 ct6), sl6⟩)
  (c6 : PySem.W.codeIn K cd6 "Is.sure" = true)
  (k6 : PySem.W.keepIn K (.ref f6) = true)
  (a7 : PySem.W.findIn K (.ref k_Compare) "__init__" = some (some (.ref f7)))
  (l7 : K.lookup f7 = some ⟨oc7, od7, .func (PySem.W.fnOf "__init__" "Compare.__init__" (defArgs s_c_Compare___init) (defBody s_c_Compare___init) (defScope s_c_Compare___init) .none kV7 dc7 pm7 an7 cd7 ct7), sl7⟩)
  (c7 : PySem.W.codeIn K cd7 "Compare.__init__" = true)
  (k7 : PySem.W.keepIn K (.ref f7) = true)
  (a8 : PySem.W.findIn K (.ref k_Compare) "atoms" = some (some (.ref f8)))
  (l8 : K.lookup f8 = some ⟨oc8, od8, .func (PySem.W.fnOf "atoms" "Compare.atoms" (defArgs s_c_Compare_atoms) (defBody s_c_Compare_atoms) (defScope s_c_Compare_atoms) .none kV8 dc8 pm8 an8 cd8 ct8), sl8⟩)
  (c8 : PySem.W.codeIn K cd8 "Compare.atoms" = true)
  (k8 : PySem.W.keepIn K (.ref f8) = true)
  (a9 : PySem.W.findIn K (.ref k_Compare) "holds" = some (some (.ref f9)))
  (l9 : K.lookup f9 = some ⟨oc9, od9, .func (PySem.W.fnOf "holds" "Compare.holds" (defArgs s_c_Compare_holds) (defBody s_c_Compare_holds) (defScope s_c_Compare_holds) .none kV9 dc9 pm9 an9 cd9 ct9), sl9⟩)
  (c9 : PySem.W.codeIn K cd9 "Compare.holds" = true)
  (k9 : PySem.W.keepIn K (.ref f9) = true)
  (a10 : PySem.W.findIn K (.ref k_Compare) "sure" = some (some (.ref f10)))
  (l10 : K.lookup f10 = some ⟨oc10, od10, .func (PySem.W.fnOf "sure" "Compare.sure" (defArgs s_c_Compare_sure) (defBody s_c_Compare_sure) (defScope s_c_Compare_sure) .none kV10 dc10 pm10 an10 cd10 ct10), sl10⟩)
  (c10 : PySem.W.codeIn K cd10 "Compare.sure" = true)
  (k10 : PySem.W.keepIn K (.ref f10) = true)
  (a11 : PySem.W.findIn K (.ref k_Not) "__init__" = some (some (.ref f11)))
  (l11 : K.lookup f11 = some ⟨oc11, od11, .func (PySem.W.fnOf "__init__" "Not.__init__" (defArgs s_c_Not___init) (defBody s_c_Not___init) (defScope s_c_Not___init) .none kV11 dc11 pm11 an11 cd11 ct11), sl11⟩)
  (c11 : PySem.W.codeIn K cd11 "Not.__init__" = true)
  (k11 : PySem.W.keepIn K (.ref f11) = true)
  (a12 : PySem.W.findIn K (.ref k_Not) "atoms" = some (some (.ref f12)))
  (l12 : K.lookup f12 = some ⟨oc12, od12, .func (PySem.W.fnOf "atoms" "Not.atoms" (defArgs s_c_Not_atoms) (defBody s_c_Not_atoms) (defScope s_c_Not_atoms) .none kV12 dc12 pm12 an12 cd12 ct12), sl12⟩)
  (c12 : PySem.W.codeIn K cd12 "Not.atoms" = true)
  (k12 : PySem.W.keepIn K (.ref f12) = true)
  (a13 : PySem.W.findIn K (.ref k_Not) "holds" = some (some (.ref f13)))
  (l13 : K.lookup f13 = some ⟨oc13, od13, .func (PySem.W.fnOf "holds" "Not.holds" (defArgs s_c_Not_holds) (defBody s_c_Not_holds) (defScope s_c_Not_holds) .none kV13 dc13 pm13 an13 cd13 ct13), sl13⟩)
  (c13 : PySem.W.codeIn K cd13 "Not.holds" = true)
  (k13 : PySem.W.keepIn K (.ref f13) = true)
  (a14 : PySem.W.findIn K (.ref k_Not) "sure" = some (some (.ref f14)))
  (l14 : K.lookup f14 = some ⟨oc14, od14, .func (PySem.W.fnOf "sure" "Not.sure" (defArgs s_c_Not_sure) (defBody s_c_Not_sure) (defScope s_c_Not_sure) .none kV14 dc14 pm14 an14 cd14 ct14), sl14⟩)
  (c14 : PySem.W.codeIn K cd14 "Not.sure" = true)
  (k14 : PySem.W.keepIn K (.ref f14) = true)
  (a15 : PySem.W.findIn K (.ref k_Pair) "__init__" = some (some (.ref f15)))
  (l15 : K.lookup f15 = some ⟨oc15, od15, .func (PySem.W.fnOf "__init__" "Pair.__init__" (defArgs s_c_Pair___init) (defBody s_c_Pair___init) (defScope s_c_Pair___init) .none kV15 dc15 pm15 an15 cd15 ct15), sl15⟩)
  (c15 : PySem.W.codeIn K cd15 "Pair.__init__" = true)
  (k15 : PySem.W.keepIn K (.ref f15) = true)
  (a16 : PySem.W.findIn K (.ref k_Pair) "atoms" = some (some (.ref f16)))
  (l16 : K.lookup f16 = some ⟨oc16, od16, .func (PySem.W.fnOf "atoms" "Pair.atoms" (defArgs s_c_Pair_atoms) (defBody s_c_Pair_atoms) (defScope s_c_Pair_atoms) .none kV16 dc16 pm16 an16 cd16 ct16), sl16⟩)
  (c16 : PySem.W.codeIn K cd16 "Pair.atoms" = true)
  (k16 : PySem.W.keepIn K (.ref f16) = true)
  (a17 : PySem.W.findIn K (.ref k_Pair) "both_sure" = some (some (.ref f17)))
  (l17 : K.lookup f17 = some ⟨oc17, od17, .func (PySem.W.fnOf "both_sure" "Pair.both_sure" (defArgs s_c_Pair_both_sure) (defBody s_c_Pair_both_sure) (defScope s_c_Pair_both_sure) .none kV17 dc17 pm17 an17 cd17 ct17), sl17⟩)
  (c17 : PySem.W.codeIn K cd17 "Pair.both_sure" = true)
  (k17 : PySem.W.keepIn K (.ref f17) = true)
  (a18 : PySem.W.findIn K (.ref k_Both) "holds" = some (some (.ref f18)))
  (l18 : K.lookup f18 = some ⟨oc18, od18, .func (PySem.W.fnOf "holds" "Both.holds" (defArgs s_c_Both_holds) (defBody s_c_Both_holds) (defScope s_c_Both_holds) .none kV18 dc18 pm18 an18 cd18 ct18), sl18⟩)
  (c18 : PySem.W.codeIn K cd18 "Both.holds" = true)
  (k18 : PySem.W.keepIn K (.ref f18) = true)
  (a19 : PySem.W.findIn K (.ref k_Both) "sure" = some (some (.ref f19)))
  (l19 : K.lookup f19 = some ⟨oc19, od19, .func (PySem.W.fnOf "sure" "Both.sure" (defArgs s_c_Both_sure) (defBody s_c_Both_sure) (defScope s_c_Both_sure) .none kV19 dc19 pm19 an19 cd19 ct19), sl19⟩)
  (c19 : PySem.W.codeIn K cd19 "Both.sure" = true)
  (k19 : PySem.W.keepIn K (.ref f19) = true)
  (a20 : PySem.W.findIn K (.ref k_Either) "holds" = some (some (.ref f20)))
  (l20 : K.lookup f20 = some ⟨oc20, od20, .func (PySem.W.fnOf "holds" "Either.holds" (defArgs s_c_Either_holds) (defBody s_c_Either_holds) (defScope s_c_Either_holds) .none kV20 dc20 pm20 an20 cd20 ct20), sl20⟩)
  (c20 : PySem.W.codeIn K cd20 "Either.holds" = true)
  (k20 : PySem.W.keepIn K (.ref f20) = true)
  (a21 : PySem.W.findIn K (.ref k_Either) "sure" = some (some (.ref f21)))
  (l21 : K.lookup f21 = some ⟨oc21, od21, .func (PySem.W.fnOf "sure" "Either.sure" (defArgs s_c_Either_sure) (defBody s_c_Either_sure) (defScope s_c_Either_sure) .none kV21 dc21 pm21 an21 cd21 ct21), sl21⟩)
  (c21 : PySem.W.codeIn K cd21 "Either.sure" = true)
  (k21 : PySem.W.keepIn K (.ref f21) = true)
  (a22 : PySem.W.nsIn K mainGlobals "_law_cell_at" = some (some (.ref f22)))
  (l22 : K.lookup f22 = some ⟨oc22, od22, .func (PySem.W.fnOf "_law_cell_at" "_law_cell_at" (defArgs s_law_cell_at) (defBody s_law_cell_at) (defScope s_law_cell_at) .none kV22 dc22 pm22 an22 cd22 ct22), sl22⟩)
  (c22 : PySem.W.codeIn K cd22 "_law_cell_at" = true)
  (k22 : PySem.W.keepIn K (.ref f22) = true)
  (a23 : PySem.W.nsIn K mainGlobals "_law_whole" = some (some (.ref f23)))
  (l23 : K.lookup f23 = some ⟨oc23, od23, .func (PySem.W.fnOf "_law_whole" "_law_whole" (defArgs s_law_whole) (defBody s_law_whole) (defScope s_law_whole) .none kV23 dc23 pm23 an23 cd23 ct23), sl23⟩)
  (c23 : PySem.W.codeIn K cd23 "_law_whole" = true)
  (k23 : PySem.W.keepIn K (.ref f23) = true)
  (a24 : PySem.W.nsIn K mainGlobals "_law_names" = some (some (.ref f24)))
  (l24 : K.lookup f24 = some ⟨oc24, od24, .func (PySem.W.fnOf "_law_names" "_law_names" (defArgs s_law_names) (defBody s_law_names) (defScope s_law_names) .none kV24 dc24 pm24 an24 cd24 ct24), sl24⟩)
  (c24 : PySem.W.codeIn K cd24 "_law_names" = true)
  (k24 : PySem.W.keepIn K (.ref f24) = true)
  (a25 : PySem.W.nsIn K mainGlobals "_law_number" = some (some (.ref f25)))
  (l25 : K.lookup f25 = some ⟨oc25, od25, .func (PySem.W.fnOf "_law_number" "_law_number" (defArgs s_law_number) (defBody s_law_number) (defScope s_law_number) .none kV25 dc25 pm25 an25 cd25 ct25), sl25⟩)
  (c25 : PySem.W.codeIn K cd25 "_law_number" = true)
  (k25 : PySem.W.keepIn K (.ref f25) = true)
  (a26 : PySem.W.nsIn K mainGlobals "_law_table" = some (some (.ref f26)))
  (l26 : K.lookup f26 = some ⟨oc26, od26, .func (PySem.W.fnOf "_law_table" "_law_table" (defArgs s_law_table) (defBody s_law_table) (defScope s_law_table) .none kV26 dc26 pm26 an26 cd26 ct26), sl26⟩)
  (c26 : PySem.W.codeIn K cd26 "_law_table" = true)
  (k26 : PySem.W.keepIn K (.ref f26) = true)
  (a27 : PySem.W.nsIn K mainGlobals "_law_atom" = some (some (.ref f27)))
  (l27 : K.lookup f27 = some ⟨oc27, od27, .func (PySem.W.fnOf "_law_atom" "_law_atom" (defArgs s_law_atom) (defBody s_law_atom) (defScope s_law_atom) .none kV27 dc27 pm27 an27 cd27 ct27), sl27⟩)
  (c27 : PySem.W.codeIn K cd27 "_law_atom" = true)
  (k27 : PySem.W.keepIn K (.ref f27) = true)
  (a28 : PySem.W.nsIn K mainGlobals "_law_joined" = some (some (.ref f28)))
  (l28 : K.lookup f28 = some ⟨oc28, od28, .func (PySem.W.fnOf "_law_joined" "_law_joined" (defArgs s_law_joined) (defBody s_law_joined) (defScope s_law_joined) .none kV28 dc28 pm28 an28 cd28 ct28), sl28⟩)
  (c28 : PySem.W.codeIn K cd28 "_law_joined" = true)
  (k28 : PySem.W.keepIn K (.ref f28) = true)
  (a29 : PySem.W.nsIn K mainGlobals "_law_tree" = some (some (.ref f29)))
  (l29 : K.lookup f29 = some ⟨oc29, od29, .func (PySem.W.fnOf "_law_tree" "_law_tree" (defArgs s_law_tree) (defBody s_law_tree) (defScope s_law_tree) .none kV29 dc29 pm29 an29 cd29 ct29), sl29⟩)
  (c29 : PySem.W.codeIn K cd29 "_law_tree" = true)
  (k29 : PySem.W.keepIn K (.ref f29) = true)
  (a30 : PySem.W.nsIn K mainGlobals "_law_made" = some (some (.ref f30)))
  (l30 : K.lookup f30 = some ⟨oc30, od30, .func (PySem.W.fnOf "_law_made" "_law_made" (defArgs s_law_made) (defBody s_law_made) (defScope s_law_made) .none kV30 dc30 pm30 an30 cd30 ct30), sl30⟩)
  (c30 : PySem.W.codeIn K cd30 "_law_made" = true)
  (k30 : PySem.W.keepIn K (.ref f30) = true)
  (a31 : PySem.W.nsIn K mainGlobals "_law_atoms" = some (some (.ref f31)))
  (l31 : K.lookup f31 = some ⟨oc31, od31, .func (PySem.W.fnOf "_law_atoms" "_law_atoms" (defArgs s_law_atoms) (defBody s_law_atoms) (defScope s_law_atoms) .none kV31 dc31 pm31 an31 cd31 ct31), sl31⟩)
  (c31 : PySem.W.codeIn K cd31 "_law_atoms" = true)
  (k31 : PySem.W.keepIn K (.ref f31) = true)
  (a32 : PySem.W.nsIn K mainGlobals "_law_look" = some (some (.ref f32)))
  (l32 : K.lookup f32 = some ⟨oc32, od32, .func (PySem.W.fnOf "_law_look" "_law_look" (defArgs s_law_look) (defBody s_law_look) (defScope s_law_look) .none kV32 dc32 pm32 an32 cd32 ct32), sl32⟩)
  (c32 : PySem.W.codeIn K cd32 "_law_look" = true)
  (k32 : PySem.W.keepIn K (.ref f32) = true)
  (a33 : PySem.W.nsIn K mainGlobals "_law_atom_sure" = some (some (.ref f33)))
  (l33 : K.lookup f33 = some ⟨oc33, od33, .func (PySem.W.fnOf "_law_atom_sure" "_law_atom_sure" (defArgs s_law_atom_sure) (defBody s_law_atom_sure) (defScope s_law_atom_sure) .none kV33 dc33 pm33 an33 cd33 ct33), sl33⟩)
  (c33 : PySem.W.codeIn K cd33 "_law_atom_sure" = true)
  (k33 : PySem.W.keepIn K (.ref f33) = true)
  (a34 : PySem.W.nsIn K mainGlobals "_law_sure" = some (some (.ref f34)))
  (l34 : K.lookup f34 = some ⟨oc34, od34, .func (PySem.W.fnOf "_law_sure" "_law_sure" (defArgs s_law_sure) (defBody s_law_sure) (defScope s_law_sure) .none kV34 dc34 pm34 an34 cd34 ct34), sl34⟩)
  (c34 : PySem.W.codeIn K cd34 "_law_sure" = true)
  (k34 : PySem.W.keepIn K (.ref f34) = true)
  (a35 : PySem.W.nsIn K mainGlobals "_law_three" = some (some (.ref f35)))
  (l35 : K.lookup f35 = some ⟨oc35, od35, .func (PySem.W.fnOf "_law_three" "_law_three" (defArgs s_law_three) (defBody s_law_three) (defScope s_law_three) .none kV35 dc35 pm35 an35 cd35 ct35), sl35⟩)
  (c35 : PySem.W.codeIn K cd35 "_law_three" = true)
  (k35 : PySem.W.keepIn K (.ref f35) = true)
  (a36 : PySem.W.nsIn K mainGlobals "_law_word" = some (some (.ref f36)))
  (l36 : K.lookup f36 = some ⟨oc36, od36, .func (PySem.W.fnOf "_law_word" "_law_word" (defArgs s_law_word) (defBody s_law_word) (defScope s_law_word) .none kV36 dc36 pm36 an36 cd36 ct36), sl36⟩)
  (c36 : PySem.W.codeIn K cd36 "_law_word" = true)
  (k36 : PySem.W.keepIn K (.ref f36) = true)
  (a37 : PySem.W.nsIn K mainGlobals "_law_same" = some (some (.ref f37)))
  (l37 : K.lookup f37 = some ⟨oc37, od37, .func (PySem.W.fnOf "_law_same" "_law_same" (defArgs s_law_same) (defBody s_law_same) (defScope s_law_same) .none kV37 dc37 pm37 an37 cd37 ct37), sl37⟩)
  (c37 : PySem.W.codeIn K cd37 "_law_same" = true)
  (k37 : PySem.W.keepIn K (.ref f37) = true)
  (a38 : PySem.W.nsIn K mainGlobals "_law_right" = some (some (.ref f38)))
  (l38 : K.lookup f38 = some ⟨oc38, od38, .func (PySem.W.fnOf "_law_right" "_law_right" (defArgs s_law_right) (defBody s_law_right) (defScope s_law_right) .none kV38 dc38 pm38 an38 cd38 ct38), sl38⟩)
  (c38 : PySem.W.codeIn K cd38 "_law_right" = true)
  (k38 : PySem.W.keepIn K (.ref f38) = true)
  (a39 : PySem.W.nsIn K mainGlobals "law" = some (some (.ref f39)))
  (l39 : K.lookup f39 = some ⟨oc39, od39, .func (PySem.W.fnOf "law" "law" (defArgs s_law) (defBody s_law) (defScope s_law) .none kV39 dc39 pm39 an39 cd39 ct39), sl39⟩)
  (c39 : PySem.W.codeIn K cd39 "law" = true)
  (k39 : PySem.W.keepIn K (.ref f39) = true)
  (z_all : PySem.W.nsIn K mainGlobals "all" = some none)
  (z_any : PySem.W.nsIn K mainGlobals "any" = some none)
  (z_bool : PySem.W.nsIn K mainGlobals "bool" = some none)
  (z_int : PySem.W.nsIn K mainGlobals "int" = some none)
  (z_isinstance : PySem.W.nsIn K mainGlobals "isinstance" = some none)
  (z_len : PySem.W.nsIn K mainGlobals "len" = some none)
  (z_max : PySem.W.nsIn K mainGlobals "max" = some none)
  (z_range : PySem.W.nsIn K mainGlobals "range" = some none)
  (z_str : PySem.W.nsIn K mainGlobals "str" = some none)
  (cpg_Is : PySem.W.plainGet K k_Is Str.empty = true)
  (chd_Is : PySem.W.hasDictIn K k_Is = true)
  (cpo_Is : PySem.W.plainOver K k_Is = true)
  (csa_Is : PySem.W.findIn K (.ref k_Is) "__setattr__" = some (some (.builtin "object.__setattr__")))
  (cha_Is : PySem.W.findIn K (.ref k_Is) "__class__" = some (some (.builtin "object.__class__")))
  (chn_Is : PySem.W.specialIn K (.builtin "object.__class__") "__get__" = some (some (.builtin "getset_descriptor.__get__")))
  (ctk_Is : PySem.W.takesIn K (.builtin "object.__class__") = some true)
  (cmo_Is : PySem.W.mroIn K k_Is (.type "object") = some true)
  (mkm_Is : PySem.W.makesIn K k_Is = true)
  (mki_Is : PySem.W.findIn K (.ref k_Is) "__init__" = some (some (.ref f3)))
  (mkf_Is : PySem.W.isFn K (.ref f3) = true)
  (mkk_Is : PySem.W.keepIn K (.ref k_Is) = true)
  (mea_Is_holds : PySem.W.findIn K (.ref k_Is) "holds" = some (some (.ref f5)))
  (mef_Is_holds : PySem.W.isFn K (.ref f5) = true)
  (mea_Is_sure : PySem.W.findIn K (.ref k_Is) "sure" = some (some (.ref f6)))
  (mef_Is_sure : PySem.W.isFn K (.ref f6) = true)
  (mea_Is_atoms : PySem.W.findIn K (.ref k_Is) "atoms" = some (some (.ref f4)))
  (mef_Is_atoms : PySem.W.isFn K (.ref f4) = true)
  (mea_Is_first_open : PySem.W.findIn K (.ref k_Is) "first_open" = some (some (.ref f2)))
  (mef_Is_first_open : PySem.W.isFn K (.ref f2) = true)
  (noa_Is_name : PySem.W.findIn K (.ref k_Is) "name" = some none)
  (noa_Is_word : PySem.W.findIn K (.ref k_Is) "word" = some none)
  (noa_Is_place : PySem.W.findIn K (.ref k_Is) "place" = some none)
  (cpg_Compare : PySem.W.plainGet K k_Compare Str.empty = true)
  (chd_Compare : PySem.W.hasDictIn K k_Compare = true)
  (cpo_Compare : PySem.W.plainOver K k_Compare = true)
  (csa_Compare : PySem.W.findIn K (.ref k_Compare) "__setattr__" = some (some (.builtin "object.__setattr__")))
  (cha_Compare : PySem.W.findIn K (.ref k_Compare) "__class__" = some (some (.builtin "object.__class__")))
  (chn_Compare : PySem.W.specialIn K (.builtin "object.__class__") "__get__" = some (some (.builtin "getset_descriptor.__get__")))
  (ctk_Compare : PySem.W.takesIn K (.builtin "object.__class__") = some true)
  (cmo_Compare : PySem.W.mroIn K k_Compare (.type "object") = some true)
  (mkm_Compare : PySem.W.makesIn K k_Compare = true)
  (mki_Compare : PySem.W.findIn K (.ref k_Compare) "__init__" = some (some (.ref f7)))
  (mkf_Compare : PySem.W.isFn K (.ref f7) = true)
  (mkk_Compare : PySem.W.keepIn K (.ref k_Compare) = true)
  (mea_Compare_holds : PySem.W.findIn K (.ref k_Compare) "holds" = some (some (.ref f9)))
  (mef_Compare_holds : PySem.W.isFn K (.ref f9) = true)
  (mea_Compare_sure : PySem.W.findIn K (.ref k_Compare) "sure" = some (some (.ref f10)))
  (mef_Compare_sure : PySem.W.isFn K (.ref f10) = true)
  (mea_Compare_atoms : PySem.W.findIn K (.ref k_Compare) "atoms" = some (some (.ref f8)))
  (mef_Compare_atoms : PySem.W.isFn K (.ref f8) = true)
  (mea_Compare_first_open : PySem.W.findIn K (.ref k_Compare) "first_open" = some (some (.ref f2)))
  (mef_Compare_first_open : PySem.W.isFn K (.ref f2) = true)
  (noa_Compare_name : PySem.W.findIn K (.ref k_Compare) "name" = some none)
  (noa_Compare_how : PySem.W.findIn K (.ref k_Compare) "how" = some none)
  (noa_Compare_number : PySem.W.findIn K (.ref k_Compare) "number" = some none)
  (cpg_Not : PySem.W.plainGet K k_Not Str.empty = true)
  (chd_Not : PySem.W.hasDictIn K k_Not = true)
  (cpo_Not : PySem.W.plainOver K k_Not = true)
  (csa_Not : PySem.W.findIn K (.ref k_Not) "__setattr__" = some (some (.builtin "object.__setattr__")))
  (cha_Not : PySem.W.findIn K (.ref k_Not) "__class__" = some (some (.builtin "object.__class__")))
  (chn_Not : PySem.W.specialIn K (.builtin "object.__class__") "__get__" = some (some (.builtin "getset_descriptor.__get__")))
  (ctk_Not : PySem.W.takesIn K (.builtin "object.__class__") = some true)
  (cmo_Not : PySem.W.mroIn K k_Not (.type "object") = some true)
  (mkm_Not : PySem.W.makesIn K k_Not = true)
  (mki_Not : PySem.W.findIn K (.ref k_Not) "__init__" = some (some (.ref f11)))
  (mkf_Not : PySem.W.isFn K (.ref f11) = true)
  (mkk_Not : PySem.W.keepIn K (.ref k_Not) = true)
  (mea_Not_holds : PySem.W.findIn K (.ref k_Not) "holds" = some (some (.ref f13)))
  (mef_Not_holds : PySem.W.isFn K (.ref f13) = true)
  (mea_Not_sure : PySem.W.findIn K (.ref k_Not) "sure" = some (some (.ref f14)))
  (mef_Not_sure : PySem.W.isFn K (.ref f14) = true)
  (mea_Not_atoms : PySem.W.findIn K (.ref k_Not) "atoms" = some (some (.ref f12)))
  (mef_Not_atoms : PySem.W.isFn K (.ref f12) = true)
  (mea_Not_first_open : PySem.W.findIn K (.ref k_Not) "first_open" = some (some (.ref f2)))
  (mef_Not_first_open : PySem.W.isFn K (.ref f2) = true)
  (noa_Not_test : PySem.W.findIn K (.ref k_Not) "test" = some none)
  (cpg_Both : PySem.W.plainGet K k_Both Str.empty = true)
  (chd_Both : PySem.W.hasDictIn K k_Both = true)
  (cpo_Both : PySem.W.plainOver K k_Both = true)
  (csa_Both : PySem.W.findIn K (.ref k_Both) "__setattr__" = some (some (.builtin "object.__setattr__")))
  (cha_Both : PySem.W.findIn K (.ref k_Both) "__class__" = some (some (.builtin "object.__class__")))
  (chn_Both : PySem.W.specialIn K (.builtin "object.__class__") "__get__" = some (some (.builtin "getset_descriptor.__get__")))
  (ctk_Both : PySem.W.takesIn K (.builtin "object.__class__") = some true)
  (cmo_Both : PySem.W.mroIn K k_Both (.type "object") = some true)
  (mkm_Both : PySem.W.makesIn K k_Both = true)
  (mki_Both : PySem.W.findIn K (.ref k_Both) "__init__" = some (some (.ref f15)))
  (mkf_Both : PySem.W.isFn K (.ref f15) = true)
  (mkk_Both : PySem.W.keepIn K (.ref k_Both) = true)
  (mea_Both_holds : PySem.W.findIn K (.ref k_Both) "holds" = some (some (.ref f18)))
  (mef_Both_holds : PySem.W.isFn K (.ref f18) = true)
  (mea_Both_sure : PySem.W.findIn K (.ref k_Both) "sure" = some (some (.ref f19)))
  (mef_Both_sure : PySem.W.isFn K (.ref f19) = true)
  (mea_Both_both_sure : PySem.W.findIn K (.ref k_Both) "both_sure" = some (some (.ref f17)))
  (mef_Both_both_sure : PySem.W.isFn K (.ref f17) = true)
  (mea_Both_atoms : PySem.W.findIn K (.ref k_Both) "atoms" = some (some (.ref f16)))
  (mef_Both_atoms : PySem.W.isFn K (.ref f16) = true)
  (mea_Both_first_open : PySem.W.findIn K (.ref k_Both) "first_open" = some (some (.ref f2)))
  (mef_Both_first_open : PySem.W.isFn K (.ref f2) = true)
  (noa_Both_one : PySem.W.findIn K (.ref k_Both) "one" = some none)
  (noa_Both_other : PySem.W.findIn K (.ref k_Both) "other" = some none)
  (cpg_Either : PySem.W.plainGet K k_Either Str.empty = true)
  (chd_Either : PySem.W.hasDictIn K k_Either = true)
  (cpo_Either : PySem.W.plainOver K k_Either = true)
  (csa_Either : PySem.W.findIn K (.ref k_Either) "__setattr__" = some (some (.builtin "object.__setattr__")))
  (cha_Either : PySem.W.findIn K (.ref k_Either) "__class__" = some (some (.builtin "object.__class__")))
  (chn_Either : PySem.W.specialIn K (.builtin "object.__class__") "__get__" = some (some (.builtin "getset_descriptor.__get__")))
  (ctk_Either : PySem.W.takesIn K (.builtin "object.__class__") = some true)
  (cmo_Either : PySem.W.mroIn K k_Either (.type "object") = some true)
  (mkm_Either : PySem.W.makesIn K k_Either = true)
  (mki_Either : PySem.W.findIn K (.ref k_Either) "__init__" = some (some (.ref f15)))
  (mkf_Either : PySem.W.isFn K (.ref f15) = true)
  (mkk_Either : PySem.W.keepIn K (.ref k_Either) = true)
  (mea_Either_holds : PySem.W.findIn K (.ref k_Either) "holds" = some (some (.ref f20)))
  (mef_Either_holds : PySem.W.isFn K (.ref f20) = true)
  (mea_Either_sure : PySem.W.findIn K (.ref k_Either) "sure" = some (some (.ref f21)))
  (mef_Either_sure : PySem.W.isFn K (.ref f21) = true)
  (mea_Either_both_sure : PySem.W.findIn K (.ref k_Either) "both_sure" = some (some (.ref f17)))
  (mef_Either_both_sure : PySem.W.isFn K (.ref f17) = true)
  (mea_Either_atoms : PySem.W.findIn K (.ref k_Either) "atoms" = some (some (.ref f16)))
  (mef_Either_atoms : PySem.W.isFn K (.ref f16) = true)
  (mea_Either_first_open : PySem.W.findIn K (.ref k_Either) "first_open" = some (some (.ref f2)))
  (mef_Either_first_open : PySem.W.isFn K (.ref f2) = true)
  (noa_Either_one : PySem.W.findIn K (.ref k_Either) "one" = some none)
  (noa_Either_other : PySem.W.findIn K (.ref k_Either) "other" = some none)
  (mk1 : cd32 = .ref mc)
  (mk2 : K.lookup mc = some ⟨mt, mod, .fields mvs, msl⟩)
  (mk3 : mvs[11]? = some (.ref mP))
  (mk4 : PySem.W.codeHdIn K mc mP = true)
  (mk5 : K.lookup mP = none)
  (mk6 : h.get? mP = some (PySem.W.tabObj #[])) :
  ∃ A : Adr, Txt K mg A ∧ ∃ c P, A.d_law_look.code = .ref c ∧ PySem.W.codeHdIn K c P = true ∧ K.lookup P = none ∧ h.get? P = some (PySem.W.tabObj #[]) :=
  ⟨⟨f0,
    PySem.W.fnOf "compares" "compares" (defArgs s_compares) (defBody s_compares) (defScope s_compares) .none kV0 dc0 pm0 an0 cd0 ct0,
    f1,
    PySem.W.fnOf "surely_compares" "surely_compares" (defArgs s_surely_compares) (defBody s_surely_compares) (defScope s_surely_compares) .none kV1 dc1 pm1 an1 cd1 ct1,
    f2,
    PySem.W.fnOf "first_open" "Saying.first_open" (defArgs s_c_Saying_first_open) (defBody s_c_Saying_first_open) (defScope s_c_Saying_first_open) .none kV2 dc2 pm2 an2 cd2 ct2,
    f3,
    PySem.W.fnOf "__init__" "Is.__init__" (defArgs s_c_Is___init) (defBody s_c_Is___init) (defScope s_c_Is___init) (.ref dT3) kV3 dc3 pm3 an3 cd3 ct3,
    [.none],
    f4,
    PySem.W.fnOf "atoms" "Is.atoms" (defArgs s_c_Is_atoms) (defBody s_c_Is_atoms) (defScope s_c_Is_atoms) .none kV4 dc4 pm4 an4 cd4 ct4,
    f5,
    PySem.W.fnOf "holds" "Is.holds" (defArgs s_c_Is_holds) (defBody s_c_Is_holds) (defScope s_c_Is_holds) .none kV5 dc5 pm5 an5 cd5 ct5,
    f6,
    PySem.W.fnOf "sure" "Is.sure" (defArgs s_c_Is_sure) (defBody s_c_Is_sure) (defScope s_c_Is_sure) .none kV6 dc6 pm6 an6 cd6 ct6,
    f7,
    PySem.W.fnOf "__init__" "Compare.__init__" (defArgs s_c_Compare___init) (defBody s_c_Compare___init) (defScope s_c_Compare___init) .none kV7 dc7 pm7 an7 cd7 ct7,
    f8,
    PySem.W.fnOf "atoms" "Compare.atoms" (defArgs s_c_Compare_atoms) (defBody s_c_Compare_atoms) (defScope s_c_Compare_atoms) .none kV8 dc8 pm8 an8 cd8 ct8,
    f9,
    PySem.W.fnOf "holds" "Compare.holds" (defArgs s_c_Compare_holds) (defBody s_c_Compare_holds) (defScope s_c_Compare_holds) .none kV9 dc9 pm9 an9 cd9 ct9,
    f10,
    PySem.W.fnOf "sure" "Compare.sure" (defArgs s_c_Compare_sure) (defBody s_c_Compare_sure) (defScope s_c_Compare_sure) .none kV10 dc10 pm10 an10 cd10 ct10,
    f11,
    PySem.W.fnOf "__init__" "Not.__init__" (defArgs s_c_Not___init) (defBody s_c_Not___init) (defScope s_c_Not___init) .none kV11 dc11 pm11 an11 cd11 ct11,
    f12,
    PySem.W.fnOf "atoms" "Not.atoms" (defArgs s_c_Not_atoms) (defBody s_c_Not_atoms) (defScope s_c_Not_atoms) .none kV12 dc12 pm12 an12 cd12 ct12,
    f13,
    PySem.W.fnOf "holds" "Not.holds" (defArgs s_c_Not_holds) (defBody s_c_Not_holds) (defScope s_c_Not_holds) .none kV13 dc13 pm13 an13 cd13 ct13,
    f14,
    PySem.W.fnOf "sure" "Not.sure" (defArgs s_c_Not_sure) (defBody s_c_Not_sure) (defScope s_c_Not_sure) .none kV14 dc14 pm14 an14 cd14 ct14,
    f15,
    PySem.W.fnOf "__init__" "Pair.__init__" (defArgs s_c_Pair___init) (defBody s_c_Pair___init) (defScope s_c_Pair___init) .none kV15 dc15 pm15 an15 cd15 ct15,
    f16,
    PySem.W.fnOf "atoms" "Pair.atoms" (defArgs s_c_Pair_atoms) (defBody s_c_Pair_atoms) (defScope s_c_Pair_atoms) .none kV16 dc16 pm16 an16 cd16 ct16,
    f17,
    PySem.W.fnOf "both_sure" "Pair.both_sure" (defArgs s_c_Pair_both_sure) (defBody s_c_Pair_both_sure) (defScope s_c_Pair_both_sure) .none kV17 dc17 pm17 an17 cd17 ct17,
    f18,
    PySem.W.fnOf "holds" "Both.holds" (defArgs s_c_Both_holds) (defBody s_c_Both_holds) (defScope s_c_Both_holds) .none kV18 dc18 pm18 an18 cd18 ct18,
    f19,
    PySem.W.fnOf "sure" "Both.sure" (defArgs s_c_Both_sure) (defBody s_c_Both_sure) (defScope s_c_Both_sure) .none kV19 dc19 pm19 an19 cd19 ct19,
    f20,
    PySem.W.fnOf "holds" "Either.holds" (defArgs s_c_Either_holds) (defBody s_c_Either_holds) (defScope s_c_Either_holds) .none kV20 dc20 pm20 an20 cd20 ct20,
    f21,
    PySem.W.fnOf "sure" "Either.sure" (defArgs s_c_Either_sure) (defBody s_c_Either_sure) (defScope s_c_Either_sure) .none kV21 dc21 pm21 an21 cd21 ct21,
    f22,
    PySem.W.fnOf "_law_cell_at" "_law_cell_at" (defArgs s_law_cell_at) (defBody s_law_cell_at) (defScope s_law_cell_at) .none kV22 dc22 pm22 an22 cd22 ct22,
    f23,
    PySem.W.fnOf "_law_whole" "_law_whole" (defArgs s_law_whole) (defBody s_law_whole) (defScope s_law_whole) .none kV23 dc23 pm23 an23 cd23 ct23,
    f24,
    PySem.W.fnOf "_law_names" "_law_names" (defArgs s_law_names) (defBody s_law_names) (defScope s_law_names) .none kV24 dc24 pm24 an24 cd24 ct24,
    f25,
    PySem.W.fnOf "_law_number" "_law_number" (defArgs s_law_number) (defBody s_law_number) (defScope s_law_number) .none kV25 dc25 pm25 an25 cd25 ct25,
    f26,
    PySem.W.fnOf "_law_table" "_law_table" (defArgs s_law_table) (defBody s_law_table) (defScope s_law_table) .none kV26 dc26 pm26 an26 cd26 ct26,
    f27,
    PySem.W.fnOf "_law_atom" "_law_atom" (defArgs s_law_atom) (defBody s_law_atom) (defScope s_law_atom) .none kV27 dc27 pm27 an27 cd27 ct27,
    f28,
    PySem.W.fnOf "_law_joined" "_law_joined" (defArgs s_law_joined) (defBody s_law_joined) (defScope s_law_joined) .none kV28 dc28 pm28 an28 cd28 ct28,
    f29,
    PySem.W.fnOf "_law_tree" "_law_tree" (defArgs s_law_tree) (defBody s_law_tree) (defScope s_law_tree) .none kV29 dc29 pm29 an29 cd29 ct29,
    f30,
    PySem.W.fnOf "_law_made" "_law_made" (defArgs s_law_made) (defBody s_law_made) (defScope s_law_made) .none kV30 dc30 pm30 an30 cd30 ct30,
    f31,
    PySem.W.fnOf "_law_atoms" "_law_atoms" (defArgs s_law_atoms) (defBody s_law_atoms) (defScope s_law_atoms) .none kV31 dc31 pm31 an31 cd31 ct31,
    f32,
    PySem.W.fnOf "_law_look" "_law_look" (defArgs s_law_look) (defBody s_law_look) (defScope s_law_look) .none kV32 dc32 pm32 an32 cd32 ct32,
    f33,
    PySem.W.fnOf "_law_atom_sure" "_law_atom_sure" (defArgs s_law_atom_sure) (defBody s_law_atom_sure) (defScope s_law_atom_sure) .none kV33 dc33 pm33 an33 cd33 ct33,
    f34,
    PySem.W.fnOf "_law_sure" "_law_sure" (defArgs s_law_sure) (defBody s_law_sure) (defScope s_law_sure) .none kV34 dc34 pm34 an34 cd34 ct34,
    f35,
    PySem.W.fnOf "_law_three" "_law_three" (defArgs s_law_three) (defBody s_law_three) (defScope s_law_three) .none kV35 dc35 pm35 an35 cd35 ct35,
    f36,
    PySem.W.fnOf "_law_word" "_law_word" (defArgs s_law_word) (defBody s_law_word) (defScope s_law_word) .none kV36 dc36 pm36 an36 cd36 ct36,
    f37,
    PySem.W.fnOf "_law_same" "_law_same" (defArgs s_law_same) (defBody s_law_same) (defScope s_law_same) .none kV37 dc37 pm37 an37 cd37 ct37,
    f38,
    PySem.W.fnOf "_law_right" "_law_right" (defArgs s_law_right) (defBody s_law_right) (defScope s_law_right) .none kV38 dc38 pm38 an38 cd38 ct38,
    f39,
    PySem.W.fnOf "law" "law" (defArgs s_law) (defBody s_law) (defScope s_law) .none kV39 dc39 pm39 an39 cd39 ct39,
    k_Both,
    k_Compare,
    k_Either,
    k_Is,
    k_Not,
    k_Pair,
    k_Saying⟩, ⟨fun_mk (st := s_compares) l0 c0 k0,
    (fun_mk (st := s_compares) l0 c0 k0).binds (ps := ["rank", "how", "number"]) (fun _ _ _ _ _ _ us hl => match us, hl with | [_, _, _], _ => rfl),
    k0,
    PySem.W.mg_of X G a0,
    fun_mk (st := s_surely_compares) l1 c1 k1,
    (fun_mk (st := s_surely_compares) l1 c1 k1).binds (ps := ["span", "how", "number"]) (fun _ _ _ _ _ _ us hl => match us, hl with | [_, _, _], _ => rfl),
    k1,
    PySem.W.mg_of X G a1,
    fun_mk (st := s_c_Saying_first_open) l2 c2 k2,
    (fun_mk (st := s_c_Saying_first_open) l2 c2 k2).binds (ps := ["self", "look"]) (fun _ _ _ _ _ _ us hl => match us, hl with | [_, _], _ => rfl),
    k2,
    (funD_mk (st := s_c_Is___init) l3 c3 k3 dl3),
    (funD_mk (st := s_c_Is___init) l3 c3 k3 dl3).binds (es := []) (fun T _ _ _ _ _ _ us M A E Q s to n ht hc hd hl hq => match us, hl with | [_, _, _, _], _ => BindsTo.of_defaults rfl ht hd rfl rfl M A E Q hq),
    (funD_mk (st := s_c_Is___init) l3 c3 k3 dl3).binds (fun T _ _ _ _ _ _ us M A E Q s to n ht hc hd hl hq => match us, app_len (m := 3) hl rfl with | [_, _, _], _ => BindsTo.of_defaults rfl ht hd rfl rfl M A E Q hq),
    .cons rfl (.nil),
    k3,
    fun_mk (st := s_c_Is_atoms) l4 c4 k4,
    (fun_mk (st := s_c_Is_atoms) l4 c4 k4).binds (ps := ["self"]) (fun _ _ _ _ _ _ us hl => match us, hl with | [_], _ => rfl),
    k4,
    fun_mk (st := s_c_Is_holds) l5 c5 k5,
    (fun_mk (st := s_c_Is_holds) l5 c5 k5).binds (ps := ["self", "look"]) (fun _ _ _ _ _ _ us hl => match us, hl with | [_, _], _ => rfl),
    k5,
    fun_mk (st := s_c_Is_sure) l6 c6 k6,
    (fun_mk (st := s_c_Is_sure) l6 c6 k6).binds (ps := ["self", "look"]) (fun _ _ _ _ _ _ us hl => match us, hl with | [_, _], _ => rfl),
    k6,
    fun_mk (st := s_c_Compare___init) l7 c7 k7,
    (fun_mk (st := s_c_Compare___init) l7 c7 k7).binds (ps := ["self", "name", "how", "number"]) (fun _ _ _ _ _ _ us hl => match us, hl with | [_, _, _, _], _ => rfl),
    k7,
    fun_mk (st := s_c_Compare_atoms) l8 c8 k8,
    (fun_mk (st := s_c_Compare_atoms) l8 c8 k8).binds (ps := ["self"]) (fun _ _ _ _ _ _ us hl => match us, hl with | [_], _ => rfl),
    k8,
    fun_mk (st := s_c_Compare_holds) l9 c9 k9,
    (fun_mk (st := s_c_Compare_holds) l9 c9 k9).binds (ps := ["self", "look"]) (fun _ _ _ _ _ _ us hl => match us, hl with | [_, _], _ => rfl),
    k9,
    fun_mk (st := s_c_Compare_sure) l10 c10 k10,
    (fun_mk (st := s_c_Compare_sure) l10 c10 k10).binds (ps := ["self", "look"]) (fun _ _ _ _ _ _ us hl => match us, hl with | [_, _], _ => rfl),
    k10,
    fun_mk (st := s_c_Not___init) l11 c11 k11,
    (fun_mk (st := s_c_Not___init) l11 c11 k11).binds (ps := ["self", "test"]) (fun _ _ _ _ _ _ us hl => match us, hl with | [_, _], _ => rfl),
    k11,
    fun_mk (st := s_c_Not_atoms) l12 c12 k12,
    (fun_mk (st := s_c_Not_atoms) l12 c12 k12).binds (ps := ["self"]) (fun _ _ _ _ _ _ us hl => match us, hl with | [_], _ => rfl),
    k12,
    fun_mk (st := s_c_Not_holds) l13 c13 k13,
    (fun_mk (st := s_c_Not_holds) l13 c13 k13).binds (ps := ["self", "look"]) (fun _ _ _ _ _ _ us hl => match us, hl with | [_, _], _ => rfl),
    k13,
    fun_mk (st := s_c_Not_sure) l14 c14 k14,
    (fun_mk (st := s_c_Not_sure) l14 c14 k14).binds (ps := ["self", "look"]) (fun _ _ _ _ _ _ us hl => match us, hl with | [_, _], _ => rfl),
    k14,
    fun_mk (st := s_c_Pair___init) l15 c15 k15,
    (fun_mk (st := s_c_Pair___init) l15 c15 k15).binds (ps := ["self", "one", "other"]) (fun _ _ _ _ _ _ us hl => match us, hl with | [_, _, _], _ => rfl),
    k15,
    fun_mk (st := s_c_Pair_atoms) l16 c16 k16,
    (fun_mk (st := s_c_Pair_atoms) l16 c16 k16).binds (ps := ["self"]) (fun _ _ _ _ _ _ us hl => match us, hl with | [_], _ => rfl),
    k16,
    fun_mk (st := s_c_Pair_both_sure) l17 c17 k17,
    (fun_mk (st := s_c_Pair_both_sure) l17 c17 k17).binds (ps := ["self", "look"]) (fun _ _ _ _ _ _ us hl => match us, hl with | [_, _], _ => rfl),
    k17,
    fun_mk (st := s_c_Both_holds) l18 c18 k18,
    (fun_mk (st := s_c_Both_holds) l18 c18 k18).binds (ps := ["self", "look"]) (fun _ _ _ _ _ _ us hl => match us, hl with | [_, _], _ => rfl),
    k18,
    fun_mk (st := s_c_Both_sure) l19 c19 k19,
    (fun_mk (st := s_c_Both_sure) l19 c19 k19).binds (ps := ["self", "look"]) (fun _ _ _ _ _ _ us hl => match us, hl with | [_, _], _ => rfl),
    k19,
    fun_mk (st := s_c_Either_holds) l20 c20 k20,
    (fun_mk (st := s_c_Either_holds) l20 c20 k20).binds (ps := ["self", "look"]) (fun _ _ _ _ _ _ us hl => match us, hl with | [_, _], _ => rfl),
    k20,
    fun_mk (st := s_c_Either_sure) l21 c21 k21,
    (fun_mk (st := s_c_Either_sure) l21 c21 k21).binds (ps := ["self", "look"]) (fun _ _ _ _ _ _ us hl => match us, hl with | [_, _], _ => rfl),
    k21,
    fun_mk (st := s_law_cell_at) l22 c22 k22,
    (fun_mk (st := s_law_cell_at) l22 c22 k22).binds (ps := ["_law_script", "_law_k"]) (fun _ _ _ _ _ _ us hl => match us, hl with | [_, _], _ => rfl),
    k22,
    PySem.W.mg_of X G a22,
    fun_mk (st := s_law_whole) l23 c23 k23,
    (fun_mk (st := s_law_whole) l23 c23 k23).binds (ps := ["_law_found"]) (fun _ _ _ _ _ _ us hl => match us, hl with | [_], _ => rfl),
    k23,
    PySem.W.mg_of X G a23,
    fun_mk (st := s_law_names) l24 c24 k24,
    (fun_mk (st := s_law_names) l24 c24 k24).binds (ps := ["_law_script"]) (fun _ _ _ _ _ _ us hl => match us, hl with | [_], _ => rfl),
    k24,
    PySem.W.mg_of X G a24,
    fun_mk (st := s_law_number) l25 c25 k25,
    (fun_mk (st := s_law_number) l25 c25 k25).binds (ps := ["_law_cell"]) (fun _ _ _ _ _ _ us hl => match us, hl with | [_], _ => rfl),
    k25,
    PySem.W.mg_of X G a25,
    fun_mk (st := s_law_table) l26 c26 k26,
    (fun_mk (st := s_law_table) l26 c26 k26).binds (ps := ["_law_script"]) (fun _ _ _ _ _ _ us hl => match us, hl with | [_], _ => rfl),
    k26,
    PySem.W.mg_of X G a26,
    fun_mk (st := s_law_atom) l27 c27 k27,
    (fun_mk (st := s_law_atom) l27 c27 k27).binds (ps := ["_law_cell", "_law_rows"]) (fun _ _ _ _ _ _ us hl => match us, hl with | [_, _], _ => rfl),
    k27,
    PySem.W.mg_of X G a27,
    fun_mk (st := s_law_joined) l28 c28 k28,
    (fun_mk (st := s_law_joined) l28 c28 k28).binds (ps := ["_law_stack", "_law_how"]) (fun _ _ _ _ _ _ us hl => match us, hl with | [_, _], _ => rfl),
    k28,
    PySem.W.mg_of X G a28,
    fun_mk (st := s_law_tree) l29 c29 k29,
    (fun_mk (st := s_law_tree) l29 c29 k29).binds (ps := ["_law_cells", "_law_names_here"]) (fun _ _ _ _ _ _ us hl => match us, hl with | [_, _], _ => rfl),
    k29,
    PySem.W.mg_of X G a29,
    fun_mk (st := s_law_made) l30 c30 k30,
    (fun_mk (st := s_law_made) l30 c30 k30).binds (ps := ["_law_tree_here"]) (fun _ _ _ _ _ _ us hl => match us, hl with | [_], _ => rfl),
    k30,
    PySem.W.mg_of X G a30,
    fun_mk (st := s_law_atoms) l31 c31 k31,
    (fun_mk (st := s_law_atoms) l31 c31 k31).binds (ps := ["_law_tree_here"]) (fun _ _ _ _ _ _ us hl => match us, hl with | [_], _ => rfl),
    k31,
    PySem.W.mg_of X G a31,
    fun_mk (st := s_law_look) l32 c32 k32,
    (fun_mk (st := s_law_look) l32 c32 k32).binds (ps := ["_law_told"]) (fun _ _ _ _ _ _ us hl => match us, hl with | [_], _ => rfl),
    k32,
    PySem.W.mg_of X G a32,
    fun_mk (st := s_law_atom_sure) l33 c33 k33,
    (fun_mk (st := s_law_atom_sure) l33 c33 k33).binds (ps := ["_law_atom_here", "_law_span"]) (fun _ _ _ _ _ _ us hl => match us, hl with | [_, _], _ => rfl),
    k33,
    PySem.W.mg_of X G a33,
    fun_mk (st := s_law_sure) l34 c34 k34,
    (fun_mk (st := s_law_sure) l34 c34 k34).binds (ps := ["_law_tree_here", "_law_spans"]) (fun _ _ _ _ _ _ us hl => match us, hl with | [_, _], _ => rfl),
    k34,
    PySem.W.mg_of X G a34,
    fun_mk (st := s_law_three) l35 c35 k35,
    (fun_mk (st := s_law_three) l35 c35 k35).binds (ps := ["_law_found", "_law_due"]) (fun _ _ _ _ _ _ us hl => match us, hl with | [_, _], _ => rfl),
    k35,
    PySem.W.mg_of X G a35,
    fun_mk (st := s_law_word) l36 c36 k36,
    (fun_mk (st := s_law_word) l36 c36 k36).binds (ps := ["_law_found", "_law_due"]) (fun _ _ _ _ _ _ us hl => match us, hl with | [_, _], _ => rfl),
    k36,
    PySem.W.mg_of X G a36,
    fun_mk (st := s_law_same) l37 c37 k37,
    (fun_mk (st := s_law_same) l37 c37 k37).binds (ps := ["_law_found", "_law_atom_here"]) (fun _ _ _ _ _ _ us hl => match us, hl with | [_, _], _ => rfl),
    k37,
    PySem.W.mg_of X G a37,
    fun_mk (st := s_law_right) l38 c38 k38,
    (fun_mk (st := s_law_right) l38 c38 k38).binds (ps := ["_law_saying", "_law_tree_here", "_law_spans"]) (fun _ _ _ _ _ _ us hl => match us, hl with | [_, _, _], _ => rfl),
    k38,
    PySem.W.mg_of X G a38,
    fun_mk (st := s_law) l39 c39 k39,
    (fun_mk (st := s_law) l39 c39 k39).binds (ps := ["_law_script"]) (fun _ _ _ _ _ _ us hl => match us, hl with | [_], _ => rfl),
    k39,
    PySem.W.mg_of X G a39,
    PySem.W.mg_none_of X G z_all,
    PySem.W.mg_none_of X G z_any,
    PySem.W.mg_none_of X G z_bool,
    PySem.W.mg_none_of X G z_int,
    PySem.W.mg_none_of X G z_isinstance,
    PySem.W.mg_none_of X G z_len,
    PySem.W.mg_none_of X G z_max,
    PySem.W.mg_none_of X G z_range,
    PySem.W.mg_none_of X G z_str,
    L2.kit_ty (by decide +kernel),
    L2.kit_ty (by decide +kernel),
    L2.kit_ty (by decide +kernel),
    L2.kit_ty (by decide +kernel),
    L2.kit_ty (by decide +kernel),
    L2.kit_ty (by decide +kernel),
    L2.kit_ty (by decide +kernel),
    L2.kit_ty (by decide +kernel),
    L2.kit_ty (by decide +kernel),
    L2.kit_ty (by decide +kernel),
    L2.kit_ty (by decide +kernel),
    L2.kit_ty (by decide +kernel),
    L2.kit_ty (by decide +kernel),
    L2.kit_ty (by decide +kernel),
    L2.kit_ty (by decide +kernel),
    L2.kit_ty (by decide +kernel),
    L2.kit_ty (by decide +kernel),
    L2.kit_ty (by decide +kernel),
    L2.kit_ty (by decide +kernel),
    L2.kit_ty (by decide +kernel),
    L2.kit_ty (by decide +kernel),
    PySem.W.mg_of X G na_Both,
    ⟨_, PySem.W.mg_of X G na_Both, rfl⟩,
    PySem.W.mg_of X G na_Compare,
    ⟨_, PySem.W.mg_of X G na_Compare, rfl⟩,
    PySem.W.mg_of X G na_Either,
    ⟨_, PySem.W.mg_of X G na_Either, rfl⟩,
    PySem.W.mg_of X G na_Is,
    ⟨_, PySem.W.mg_of X G na_Is, rfl⟩,
    PySem.W.mg_of X G na_Not,
    ⟨_, PySem.W.mg_of X G na_Not, rfl⟩,
    PySem.W.mg_of X G na_Pair,
    ⟨_, PySem.W.mg_of X G na_Pair, rfl⟩,
    PySem.W.mg_of X G na_Saying,
    ⟨_, PySem.W.mg_of X G na_Saying, rfl⟩,
    kit_self,
    kit_self,
    ⟨cpg_Is, chd_Is, cpo_Is, csa_Is⟩,
    fun _ _ _ _ e => .ins e ⟨cpg_Is, chd_Is, cpo_Is, csa_Is⟩ cha_Is chn_Is ctk_Is cmo_Is,
    ⟨mkm_Is, mki_Is, mkf_Is, mkk_Is⟩,
    ⟨mea_Is_holds, mef_Is_holds, k5⟩,
    ⟨mea_Is_sure, mef_Is_sure, k6⟩,
    ⟨mea_Is_atoms, mef_Is_atoms, k4⟩,
    ⟨mea_Is_first_open, mef_Is_first_open, k2⟩,
    noa_Is_name,
    noa_Is_word,
    noa_Is_place,
    ⟨cpg_Compare, chd_Compare, cpo_Compare, csa_Compare⟩,
    fun _ _ _ _ e => .ins e ⟨cpg_Compare, chd_Compare, cpo_Compare, csa_Compare⟩ cha_Compare chn_Compare ctk_Compare cmo_Compare,
    ⟨mkm_Compare, mki_Compare, mkf_Compare, mkk_Compare⟩,
    ⟨mea_Compare_holds, mef_Compare_holds, k9⟩,
    ⟨mea_Compare_sure, mef_Compare_sure, k10⟩,
    ⟨mea_Compare_atoms, mef_Compare_atoms, k8⟩,
    ⟨mea_Compare_first_open, mef_Compare_first_open, k2⟩,
    noa_Compare_name,
    noa_Compare_how,
    noa_Compare_number,
    ⟨cpg_Not, chd_Not, cpo_Not, csa_Not⟩,
    fun _ _ _ _ e => .ins e ⟨cpg_Not, chd_Not, cpo_Not, csa_Not⟩ cha_Not chn_Not ctk_Not cmo_Not,
    ⟨mkm_Not, mki_Not, mkf_Not, mkk_Not⟩,
    ⟨mea_Not_holds, mef_Not_holds, k13⟩,
    ⟨mea_Not_sure, mef_Not_sure, k14⟩,
    ⟨mea_Not_atoms, mef_Not_atoms, k12⟩,
    ⟨mea_Not_first_open, mef_Not_first_open, k2⟩,
    noa_Not_test,
    ⟨cpg_Both, chd_Both, cpo_Both, csa_Both⟩,
    fun _ _ _ _ e => .ins e ⟨cpg_Both, chd_Both, cpo_Both, csa_Both⟩ cha_Both chn_Both ctk_Both cmo_Both,
    ⟨mkm_Both, mki_Both, mkf_Both, mkk_Both⟩,
    ⟨mea_Both_holds, mef_Both_holds, k18⟩,
    ⟨mea_Both_sure, mef_Both_sure, k19⟩,
    ⟨mea_Both_both_sure, mef_Both_both_sure, k17⟩,
    ⟨mea_Both_atoms, mef_Both_atoms, k16⟩,
    ⟨mea_Both_first_open, mef_Both_first_open, k2⟩,
    noa_Both_one,
    noa_Both_other,
    ⟨cpg_Either, chd_Either, cpo_Either, csa_Either⟩,
    fun _ _ _ _ e => .ins e ⟨cpg_Either, chd_Either, cpo_Either, csa_Either⟩ cha_Either chn_Either ctk_Either cmo_Either,
    ⟨mkm_Either, mki_Either, mkf_Either, mkk_Either⟩,
    ⟨mea_Either_holds, mef_Either_holds, k20⟩,
    ⟨mea_Either_sure, mef_Either_sure, k21⟩,
    ⟨mea_Either_both_sure, mef_Either_both_sure, k17⟩,
    ⟨mea_Either_atoms, mef_Either_atoms, k16⟩,
    ⟨mea_Either_first_open, mef_Either_first_open, k2⟩,
    noa_Either_one,
    noa_Either_other⟩, mc, mP, mk1, mk4, mk5, mk6⟩
theorem walk {l : PySem.W.OpenLaw} {q : Program} {loose : List Str} {XP : (Str → Option Value) → Heap → Prop} {YP : World → Heap → Prop} {d : DefRec} {K : Params → PySem.W.Frag} (hn : l.most = some 63) (hdf : d.params.defaults = []) (hnm : d.name = "law")
    (hY : ∀ (w : World) (h : Heap), YP w h → (K w.params).In h)
    (F : ∀ (w : World) (mg : Str → Option Value) (h : Heap), YP w h → (K w.params).In h → h.Ns mainGlobals mg → ∃ A : Adr, Txt (K w.params) mg A ∧ ∃ c P, A.d_law_look.code = .ref c ∧ PySem.W.codeHdIn (K w.params) c P = true ∧ (K w.params).lookup P = none ∧ h.get? P = some (PySem.W.tabObj #[])) :
    PySem.W.WalkO q loose XP YP l.row.toRowW d [] (fun f vs => PySem.call f vs) := by
  refine L2.walk_ofT (n := 63) (k := 24) (x := "_law_script") (CX := fun _ => CX0) (sp := fun Pt w => sp_law (K w.params) Pt) hn (by decide) hdf ⟨rfl, by decide, by decide⟩ hY (fun w mg fa h Y KX G hmg => ?_) (fun Pt w H a ns hl hb hO hS => ⟨a, ns, rfl, hS, hl, hb, .inl hO.1, fun _ => rfl⟩) fun _ _ _ _ _ z => z
  obtain ⟨A, T, c, Pt, m1, m2, m3, m4⟩ := F w mg h Y KX G
  rw [hnm] at hmg
  have e := hmg.symm.trans T.m_law
  cases e
  obtain ⟨oc, od, kV, doc, pm, an, cdv, ct, osl, efd, lk, hcd⟩ := id T.F_law.ex
  exact ⟨c, Pt, A.d_law, m2, m4, m3, fun s v => by rw [efd]; exact .of_eq rfl, fun base _ _ B => ok_law T B m1 m2⟩
end K18
/-! these names are taken so that the head writes no twins of whole heaps (their proofs grow with the square of the objects, past what an olean may weigh) -/
def PySem.W.Fast.tw10944650555495456361 : Unit := ()
def PySem.W.Fast.tw10964088263048201322 : Unit := ()
def PySem.W.Fast.tw11085981509891135304 : Unit := ()
def PySem.W.Fast.tw11216502969883043236 : Unit := ()
def PySem.W.Fast.tw11271693455433409543 : Unit := ()
def PySem.W.Fast.tw11372497823500169578 : Unit := ()
def PySem.W.Fast.tw1138436900558262025 : Unit := ()
def PySem.W.Fast.tw11504085663806416208 : Unit := ()
def PySem.W.Fast.tw11653961181250704212 : Unit := ()
def PySem.W.Fast.tw12466544235473103537 : Unit := ()
def PySem.W.Fast.tw12631887576829742489 : Unit := ()
def PySem.W.Fast.tw12853635482346018428 : Unit := ()
def PySem.W.Fast.tw13172986656439739876 : Unit := ()
def PySem.W.Fast.tw13507985743123275550 : Unit := ()
def PySem.W.Fast.tw1378505486189266600 : Unit := ()
def PySem.W.Fast.tw140573689665902381 : Unit := ()
def PySem.W.Fast.tw14340479218184036781 : Unit := ()
def PySem.W.Fast.tw14546666246731779517 : Unit := ()
def PySem.W.Fast.tw14757341122390561809 : Unit := ()
def PySem.W.Fast.tw15035775691136048596 : Unit := ()
def PySem.W.Fast.tw15171212121555712118 : Unit := ()
def PySem.W.Fast.tw15213203258399766366 : Unit := ()
def PySem.W.Fast.tw15510121335844400476 : Unit := ()
def PySem.W.Fast.tw15730479154939287036 : Unit := ()
def PySem.W.Fast.tw15850580040445576189 : Unit := ()
def PySem.W.Fast.tw15853527345833396541 : Unit := ()
def PySem.W.Fast.tw15894914193919514805 : Unit := ()
def PySem.W.Fast.tw16383317281131041660 : Unit := ()
def PySem.W.Fast.tw1641876434979762017 : Unit := ()
def PySem.W.Fast.tw16426246385389700499 : Unit := ()
def PySem.W.Fast.tw1643602833303221733 : Unit := ()
def PySem.W.Fast.tw16602003456350511250 : Unit := ()
def PySem.W.Fast.tw16678435235595256624 : Unit := ()
def PySem.W.Fast.tw17016136051379880457 : Unit := ()
def PySem.W.Fast.tw17128682482698230857 : Unit := ()
def PySem.W.Fast.tw17353572154375508006 : Unit := ()
def PySem.W.Fast.tw17635476472875342507 : Unit := ()
def PySem.W.Fast.tw17781763074453555809 : Unit := ()
def PySem.W.Fast.tw17984668139207664677 : Unit := ()
def PySem.W.Fast.tw18128078317820731188 : Unit := ()
def PySem.W.Fast.tw18210282629748584591 : Unit := ()
def PySem.W.Fast.tw18267351408320683006 : Unit := ()
def PySem.W.Fast.tw1860668580483912403 : Unit := ()
def PySem.W.Fast.tw2058056783529046655 : Unit := ()
def PySem.W.Fast.tw2212232298460541727 : Unit := ()
def PySem.W.Fast.tw221261845528675464 : Unit := ()
def PySem.W.Fast.tw2374938242909746316 : Unit := ()
def PySem.W.Fast.tw2767518295082322377 : Unit := ()
def PySem.W.Fast.tw2967243228652178757 : Unit := ()
def PySem.W.Fast.tw3370628882110979842 : Unit := ()
def PySem.W.Fast.tw3757794619169188466 : Unit := ()
def PySem.W.Fast.tw3857055980997686468 : Unit := ()
def PySem.W.Fast.tw40505633921591309 : Unit := ()
def PySem.W.Fast.tw4085374773114186271 : Unit := ()
def PySem.W.Fast.tw4135300758214689182 : Unit := ()
def PySem.W.Fast.tw4228723129138361072 : Unit := ()
def PySem.W.Fast.tw4271036684578002228 : Unit := ()
def PySem.W.Fast.tw4326841812824275104 : Unit := ()
def PySem.W.Fast.tw4378339938991582734 : Unit := ()
def PySem.W.Fast.tw4464961682450925987 : Unit := ()
def PySem.W.Fast.tw5410028542123337965 : Unit := ()
def PySem.W.Fast.tw5448942082589247579 : Unit := ()
def PySem.W.Fast.tw5515816761398625471 : Unit := ()
def PySem.W.Fast.tw5832535767949157212 : Unit := ()
def PySem.W.Fast.tw6094784658718410833 : Unit := ()
def PySem.W.Fast.tw6229206464905906272 : Unit := ()
def PySem.W.Fast.tw6335898336833862574 : Unit := ()
def PySem.W.Fast.tw6580464052842306786 : Unit := ()
def PySem.W.Fast.tw6866035542043109959 : Unit := ()
def PySem.W.Fast.tw7462638124239573764 : Unit := ()
def PySem.W.Fast.tw7657069058937708990 : Unit := ()
def PySem.W.Fast.tw7685637078682359319 : Unit := ()
def PySem.W.Fast.tw7707045060637945839 : Unit := ()
def PySem.W.Fast.tw8044629625399377546 : Unit := ()
def PySem.W.Fast.tw8173154524515351693 : Unit := ()
def PySem.W.Fast.tw8496339428224091367 : Unit := ()
def PySem.W.Fast.tw8555964529532903348 : Unit := ()
def PySem.W.Fast.tw8628897473150422898 : Unit := ()
def PySem.W.Fast.tw9029912802902821817 : Unit := ()
def PySem.W.Fast.tw9465380197226169095 : Unit := ()
def PySem.W.Fast.tw9473660918312557315 : Unit := ()
def PySem.W.Fast.tw9900060042514833347 : Unit := ()
def PySem.W.Fast.tw9926358815520735042 : Unit := ()
open PySem PySem.W PyProof.Rows
set_option maxRecDepth 100000 in
set_option maxHeartbeats 0 in
theorem PySem.Challenge.cw_askpaper_k18_sure_holds : PySem.Challenge.rw_askpaper_k18_sure.Holds := by
  w_on; o_law; k_head; (case hw => w_witness2)
  k_fill
  refine K18.walk (l := PySem.Challenge.rw_askpaper_k18_sure) rfl rfl rfl (fun w h Y => PySem.W.km_in_of Y) ?F
  case F =>
    intro w mg h Y KX G
    have T : ∃ A : K18.Adr, K18.Txt (L2.KOf KX) mg A ∧ ∃ c P, A.d_law_look.code = .ref c ∧ PySem.W.codeHdIn (L2.KOf KX) c P = true ∧ (L2.KOf KX).lookup P = none ∧ h.get? P = some (PySem.W.tabObj #[]) := by
      dsimp only [L2.KOf]
      refine' K18.txt_mk KX G ?zzna_Both ?zzna_Compare ?zzna_Either ?zzna_Is ?zzna_Not ?zzna_Pair ?zzna_Saying ?zza0 ?zzl0 ?zzc0 ?zzk0 ?zza1 ?zzl1 ?zzc1 ?zzk1 ?zza2 ?zzl2 ?zzc2 ?zzk2 ?zza3 ?zzl3 ?zzc3 ?zzk3 ?zzdl3 ?zza4 ?zzl4 ?zzc4 ?zzk4 ?zza5 ?zzl5 ?zzc5 ?zzk5 ?zza6 ?zzl6 ?zzc6 ?zzk6 ?zza7 ?zzl7 ?zzc7 ?zzk7 ?zza8 ?zzl8 ?zzc8 ?zzk8 ?zza9 ?zzl9 ?zzc9 ?zzk9 ?zza10 ?zzl10 ?zzc10 ?zzk10 ?zza11 ?zzl11 ?zzc11 ?zzk11 ?zza12 ?zzl12 ?zzc12 ?zzk12 ?zza13 ?zzl13 ?zzc13 ?zzk13 ?zza14 ?zzl14 ?zzc14 ?zzk14 ?zza15 ?zzl15 ?zzc15 ?zzk15 ?zza16 ?zzl16 ?zzc16 ?zzk16 ?zza17 ?zzl17 ?zzc17 ?zzk17 ?zza18 ?zzl18 ?zzc18 ?zzk18 ?zza19 ?zzl19 ?zzc19 ?zzk19 ?zza20 ?zzl20 ?zzc20 ?zzk20 ?zza21 ?zzl21 ?zzc21 ?zzk21 ?zza22 ?zzl22 ?zzc22 ?zzk22 ?zza23 ?zzl23 ?zzc23 ?zzk23 ?zza24 ?zzl24 ?zzc24 ?zzk24 ?zza25 ?zzl25 ?zzc25 ?zzk25 ?zza26 ?zzl26 ?zzc26 ?zzk26 ?zza27 ?zzl27 ?zzc27 ?zzk27 ?zza28 ?zzl28 ?zzc28 ?zzk28 ?zza29 ?zzl29 ?zzc29 ?zzk29 ?zza30 ?zzl30 ?zzc30 ?zzk30 ?zza31 ?zzl31 ?zzc31 ?zzk31 ?zza32 ?zzl32 ?zzc32 ?zzk32 ?zza33 ?zzl33 ?zzc33 ?zzk33 ?zza34 ?zzl34 ?zzc34 ?zzk34 ?zza35 ?zzl35 ?zzc35 ?zzk35 ?zza36 ?zzl36 ?zzc36 ?zzk36 ?zza37 ?zzl37 ?zzc37 ?zzk37 ?zza38 ?zzl38 ?zzc38 ?zzk38 ?zza39 ?zzl39 ?zzc39 ?zzk39 ?zzz_all ?zzz_any ?zzz_bool ?zzz_int ?zzz_isinstance ?zzz_len ?zzz_max ?zzz_range ?zzz_str ?zzcpg_Is ?zzchd_Is ?zzcpo_Is ?zzcsa_Is ?zzcha_Is ?zzchn_Is ?zzctk_Is ?zzcmo_Is ?zzmkm_Is ?zzmki_Is ?zzmkf_Is ?zzmkk_Is ?zzmea_Is_holds ?zzmef_Is_holds ?zzmea_Is_sure ?zzmef_Is_sure ?zzmea_Is_atoms ?zzmef_Is_atoms ?zzmea_Is_first_open ?zzmef_Is_first_open ?zznoa_Is_name ?zznoa_Is_word ?zznoa_Is_place ?zzcpg_Compare ?zzchd_Compare ?zzcpo_Compare ?zzcsa_Compare ?zzcha_Compare ?zzchn_Compare ?zzctk_Compare ?zzcmo_Compare ?zzmkm_Compare ?zzmki_Compare ?zzmkf_Compare ?zzmkk_Compare ?zzmea_Compare_holds ?zzmef_Compare_holds ?zzmea_Compare_sure ?zzmef_Compare_sure ?zzmea_Compare_atoms ?zzmef_Compare_atoms ?zzmea_Compare_first_open ?zzmef_Compare_first_open ?zznoa_Compare_name ?zznoa_Compare_how ?zznoa_Compare_number ?zzcpg_Not ?zzchd_Not ?zzcpo_Not ?zzcsa_Not ?zzcha_Not ?zzchn_Not ?zzctk_Not ?zzcmo_Not ?zzmkm_Not ?zzmki_Not ?zzmkf_Not ?zzmkk_Not ?zzmea_Not_holds ?zzmef_Not_holds ?zzmea_Not_sure ?zzmef_Not_sure ?zzmea_Not_atoms ?zzmef_Not_atoms ?zzmea_Not_first_open ?zzmef_Not_first_open ?zznoa_Not_test ?zzcpg_Both ?zzchd_Both ?zzcpo_Both ?zzcsa_Both ?zzcha_Both ?zzchn_Both ?zzctk_Both ?zzcmo_Both ?zzmkm_Both ?zzmki_Both ?zzmkf_Both ?zzmkk_Both ?zzmea_Both_holds ?zzmef_Both_holds ?zzmea_Both_sure ?zzmef_Both_sure ?zzmea_Both_both_sure ?zzmef_Both_both_sure ?zzmea_Both_atoms ?zzmef_Both_atoms ?zzmea_Both_first_open ?zzmef_Both_first_open ?zznoa_Both_one ?zznoa_Both_other ?zzcpg_Either ?zzchd_Either ?zzcpo_Either ?zzcsa_Either ?zzcha_Either ?zzchn_Either ?zzctk_Either ?zzcmo_Either ?zzmkm_Either ?zzmki_Either ?zzmkf_Either ?zzmkk_Either ?zzmea_Either_holds ?zzmef_Either_holds ?zzmea_Either_sure ?zzmef_Either_sure ?zzmea_Either_both_sure ?zzmef_Either_both_sure ?zzmea_Either_atoms ?zzmef_Either_atoms ?zzmea_Either_first_open ?zzmef_Either_first_open ?zznoa_Either_one ?zznoa_Either_other ?zzmk1 ?zzmk2 ?zzmk3 ?zzmk4 ?zzmk5 ?zzmk6
      (case zzna_Both => k_is)
      (case zzna_Compare => k_is)
      (case zzna_Either => k_is)
      (case zzna_Is => k_is)
      (case zzna_Not => k_is)
      (case zzna_Pair => k_is)
      (case zzna_Saying => k_is)
      (case zza0 => k_is)
      (case zzl0 => k_is)
      (case zzc0 => k_is)
      (case zzk0 => k_is)
      (case zza1 => k_is)
      (case zzl1 => k_is)
      (case zzc1 => k_is)
      (case zzk1 => k_is)
      (case zza2 => k_is)
      (case zzl2 => k_is)
      (case zzc2 => k_is)
      (case zzk2 => k_is)
      (case zza3 => k_is)
      (case zzl3 => k_is)
      (case zzc3 => k_is)
      (case zzk3 => k_is)
      (case zzdl3 => k_is)
      (case zza4 => k_is)
      (case zzl4 => k_is)
      (case zzc4 => k_is)
      (case zzk4 => k_is)
      (case zza5 => k_is)
      (case zzl5 => k_is)
      (case zzc5 => k_is)
      (case zzk5 => k_is)
      (case zza6 => k_is)
      (case zzl6 => k_is)
      (case zzc6 => k_is)
      (case zzk6 => k_is)
      (case zza7 => k_is)
      (case zzl7 => k_is)
      (case zzc7 => k_is)
      (case zzk7 => k_is)
      (case zza8 => k_is)
      (case zzl8 => k_is)
      (case zzc8 => k_is)
      (case zzk8 => k_is)
      (case zza9 => k_is)
      (case zzl9 => k_is)
      (case zzc9 => k_is)
      (case zzk9 => k_is)
      (case zza10 => k_is)
      (case zzl10 => k_is)
      (case zzc10 => k_is)
      (case zzk10 => k_is)
      (case zza11 => k_is)
      (case zzl11 => k_is)
      (case zzc11 => k_is)
      (case zzk11 => k_is)
      (case zza12 => k_is)
      (case zzl12 => k_is)
      (case zzc12 => k_is)
      (case zzk12 => k_is)
      (case zza13 => k_is)
      (case zzl13 => k_is)
      (case zzc13 => k_is)
      (case zzk13 => k_is)
      (case zza14 => k_is)
      (case zzl14 => k_is)
      (case zzc14 => k_is)
      (case zzk14 => k_is)
      (case zza15 => k_is)
      (case zzl15 => k_is)
      (case zzc15 => k_is)
      (case zzk15 => k_is)
      (case zza16 => k_is)
      (case zzl16 => k_is)
      (case zzc16 => k_is)
      (case zzk16 => k_is)
      (case zza17 => k_is)
      (case zzl17 => k_is)
      (case zzc17 => k_is)
      (case zzk17 => k_is)
      (case zza18 => k_is)
      (case zzl18 => k_is)
      (case zzc18 => k_is)
      (case zzk18 => k_is)
      (case zza19 => k_is)
      (case zzl19 => k_is)
      (case zzc19 => k_is)
      (case zzk19 => k_is)
      (case zza20 => k_is)
      (case zzl20 => k_is)
      (case zzc20 => k_is)
      (case zzk20 => k_is)
      (case zza21 => k_is)
      (case zzl21 => k_is)
      (case zzc21 => k_is)
      (case zzk21 => k_is)
      (case zza22 => k_is)
      (case zzl22 => k_is)
      (case zzc22 => k_is)
      (case zzk22 => k_is)
      (case zza23 => k_is)
      (case zzl23 => k_is)
      (case zzc23 => k_is)
      (case zzk23 => k_is)
      (case zza24 => k_is)
      (case zzl24 => k_is)
      (case zzc24 => k_is)
      (case zzk24 => k_is)
      (case zza25 => k_is)
      (case zzl25 => k_is)
      (case zzc25 => k_is)
      (case zzk25 => k_is)
      (case zza26 => k_is)
      (case zzl26 => k_is)
      (case zzc26 => k_is)
      (case zzk26 => k_is)
      (case zza27 => k_is)
      (case zzl27 => k_is)
      (case zzc27 => k_is)
      (case zzk27 => k_is)
      (case zza28 => k_is)
      (case zzl28 => k_is)
      (case zzc28 => k_is)
      (case zzk28 => k_is)
      (case zza29 => k_is)
      (case zzl29 => k_is)
      (case zzc29 => k_is)
      (case zzk29 => k_is)
      (case zza30 => k_is)
      (case zzl30 => k_is)
      (case zzc30 => k_is)
      (case zzk30 => k_is)
      (case zza31 => k_is)
      (case zzl31 => k_is)
      (case zzc31 => k_is)
      (case zzk31 => k_is)
      (case zza32 => k_is)
      (case zzl32 => k_is)
      (case zzc32 => k_is)
      (case zzk32 => k_is)
      (case zza33 => k_is)
      (case zzl33 => k_is)
      (case zzc33 => k_is)
      (case zzk33 => k_is)
      (case zza34 => k_is)
      (case zzl34 => k_is)
      (case zzc34 => k_is)
      (case zzk34 => k_is)
      (case zza35 => k_is)
      (case zzl35 => k_is)
      (case zzc35 => k_is)
      (case zzk35 => k_is)
      (case zza36 => k_is)
      (case zzl36 => k_is)
      (case zzc36 => k_is)
      (case zzk36 => k_is)
      (case zza37 => k_is)
      (case zzl37 => k_is)
      (case zzc37 => k_is)
      (case zzk37 => k_is)
      (case zza38 => k_is)
      (case zzl38 => k_is)
      (case zzc38 => k_is)
      (case zzk38 => k_is)
      (case zza39 => k_is)
      (case zzl39 => k_is)
      (case zzc39 => k_is)
      (case zzk39 => k_is)
      (case zzz_all => k_is)
      (case zzz_any => k_is)
      (case zzz_bool => k_is)
      (case zzz_int => k_is)
      (case zzz_isinstance => k_is)
      (case zzz_len => k_is)
      (case zzz_max => k_is)
      (case zzz_range => k_is)
      (case zzz_str => k_is)
      (case zzcpg_Is => k_is)
      (case zzchd_Is => k_is)
      (case zzcpo_Is => k_is)
      (case zzcsa_Is => k_is)
      (case zzcha_Is => k_is)
      (case zzchn_Is => k_is)
      (case zzctk_Is => k_is)
      (case zzcmo_Is => k_is)
      (case zzmkm_Is => k_is)
      (case zzmki_Is => k_is)
      (case zzmkf_Is => k_is)
      (case zzmkk_Is => k_is)
      (case zzmea_Is_holds => k_is)
      (case zzmef_Is_holds => k_is)
      (case zzmea_Is_sure => k_is)
      (case zzmef_Is_sure => k_is)
      (case zzmea_Is_atoms => k_is)
      (case zzmef_Is_atoms => k_is)
      (case zzmea_Is_first_open => k_is)
      (case zzmef_Is_first_open => k_is)
      (case zznoa_Is_name => k_is)
      (case zznoa_Is_word => k_is)
      (case zznoa_Is_place => k_is)
      (case zzcpg_Compare => k_is)
      (case zzchd_Compare => k_is)
      (case zzcpo_Compare => k_is)
      (case zzcsa_Compare => k_is)
      (case zzcha_Compare => k_is)
      (case zzchn_Compare => k_is)
      (case zzctk_Compare => k_is)
      (case zzcmo_Compare => k_is)
      (case zzmkm_Compare => k_is)
      (case zzmki_Compare => k_is)
      (case zzmkf_Compare => k_is)
      (case zzmkk_Compare => k_is)
      (case zzmea_Compare_holds => k_is)
      (case zzmef_Compare_holds => k_is)
      (case zzmea_Compare_sure => k_is)
      (case zzmef_Compare_sure => k_is)
      (case zzmea_Compare_atoms => k_is)
      (case zzmef_Compare_atoms => k_is)
      (case zzmea_Compare_first_open => k_is)
      (case zzmef_Compare_first_open => k_is)
      (case zznoa_Compare_name => k_is)
      (case zznoa_Compare_how => k_is)
      (case zznoa_Compare_number => k_is)
      (case zzcpg_Not => k_is)
      (case zzchd_Not => k_is)
      (case zzcpo_Not => k_is)
      (case zzcsa_Not => k_is)
      (case zzcha_Not => k_is)
      (case zzchn_Not => k_is)
      (case zzctk_Not => k_is)
      (case zzcmo_Not => k_is)
      (case zzmkm_Not => k_is)
      (case zzmki_Not => k_is)
      (case zzmkf_Not => k_is)
      (case zzmkk_Not => k_is)
      (case zzmea_Not_holds => k_is)
      (case zzmef_Not_holds => k_is)
      (case zzmea_Not_sure => k_is)
      (case zzmef_Not_sure => k_is)
      (case zzmea_Not_atoms => k_is)
      (case zzmef_Not_atoms => k_is)
      (case zzmea_Not_first_open => k_is)
      (case zzmef_Not_first_open => k_is)
      (case zznoa_Not_test => k_is)
      (case zzcpg_Both => k_is)
      (case zzchd_Both => k_is)
      (case zzcpo_Both => k_is)
      (case zzcsa_Both => k_is)
      (case zzcha_Both => k_is)
      (case zzchn_Both => k_is)
      (case zzctk_Both => k_is)
      (case zzcmo_Both => k_is)
      (case zzmkm_Both => k_is)
      (case zzmki_Both => k_is)
      (case zzmkf_Both => k_is)
      (case zzmkk_Both => k_is)
      (case zzmea_Both_holds => k_is)
      (case zzmef_Both_holds => k_is)
      (case zzmea_Both_sure => k_is)
      (case zzmef_Both_sure => k_is)
      (case zzmea_Both_both_sure => k_is)
      (case zzmef_Both_both_sure => k_is)
      (case zzmea_Both_atoms => k_is)
      (case zzmef_Both_atoms => k_is)
      (case zzmea_Both_first_open => k_is)
      (case zzmef_Both_first_open => k_is)
      (case zznoa_Both_one => k_is)
      (case zznoa_Both_other => k_is)
      (case zzcpg_Either => k_is)
      (case zzchd_Either => k_is)
      (case zzcpo_Either => k_is)
      (case zzcsa_Either => k_is)
      (case zzcha_Either => k_is)
      (case zzchn_Either => k_is)
      (case zzctk_Either => k_is)
      (case zzcmo_Either => k_is)
      (case zzmkm_Either => k_is)
      (case zzmki_Either => k_is)
      (case zzmkf_Either => k_is)
      (case zzmkk_Either => k_is)
      (case zzmea_Either_holds => k_is)
      (case zzmef_Either_holds => k_is)
      (case zzmea_Either_sure => k_is)
      (case zzmef_Either_sure => k_is)
      (case zzmea_Either_both_sure => k_is)
      (case zzmef_Either_both_sure => k_is)
      (case zzmea_Either_atoms => k_is)
      (case zzmef_Either_atoms => k_is)
      (case zzmea_Either_first_open => k_is)
      (case zzmef_Either_first_open => k_is)
      (case zznoa_Either_one => k_is)
      (case zznoa_Either_other => k_is)
      (case zzmk1 => rfl)
      (case zzmk2 => k_is)
      (case zzmk3 => rfl)
      (case zzmk4 => kernel_rfl)
      (case zzmk5 => kernel_rfl)
      (case zzmk6 => exact PySem.W.km_tabs_of Y _ (by first | exact .head _ | exact .tail _ (.head _) | exact .tail _ (.tail _ (.head _))))
    exact T
#print axioms PySem.Challenge.cw_askpaper_k18_sure_holds
