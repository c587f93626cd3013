import PyProof.Rows.All
import Wide.All
import OpenK.AllK
import Wide.FinOn
import Lean
import PyProof.EqAt
import PyProof.EqKinds
import PyProof.TupleCall
import PySem.Challenge.RW_askpaper_k07_kinds_written
local macro_rules | `(tactic| symm) => `(tactic| decide +kernel)
set_option Elab.async false
set_option linter.all false
set_option maxRecDepth 100000
namespace L2
open PySem PySem.Spec PyProof.Rows
abbrev Key := Sum Int Str
def keyIs : Key → Value → Bool
 | .inl k, v => Value.isInt k v
 | .inr x, v => Value.isStrOf x v
def keyH (w : World) : Key → Int
 | .inl k => hashInt k
 | .inr x => hashStr w x
theorem keyIs_shape : ∀ {k : Key} {v : Value}, keyIs k v = true → (∃ i t, k = Sum.inl i ∧ v = Value.int i t) ∨ (∃ x t, k = Sum.inr x ∧ v = Value.str x t)
 | .inl i, v, h => by
   obtain ⟨t, e⟩ := Value.isInt_shape (k := i) (v := v) h
   exact .inl ⟨i, t, rfl, e⟩
 | .inr x, v, h => by
   obtain ⟨t, e⟩ := Value.isStrOf_shape (x := x) (v := v) h
   exact .inr ⟨x, t, rfl, e⟩
theorem key_ll (a b : Int) : decide ((Sum.inl a : Key) = Sum.inl b) = (a == b) := by
 by_cases e : a = b
 · subst e; simp
 · have h : ¬ (Sum.inl a : Key) = Sum.inl b := fun q => e (Sum.inl.inj q)
   rw [decide_eq_false h]
   exact (beq_eq_false_iff_ne.mpr e).symm
theorem key_rr (a b : Str) : decide ((Sum.inr a : Key) = Sum.inr b) = decide (a = b) := by
 by_cases e : a = b
 · subst e; simp
 · have h : ¬ (Sum.inr a : Key) = Sum.inr b := fun q => e (Sum.inr.inj q)
   rw [decide_eq_false h, decide_eq_false e]
theorem key_lr (a : Int) (b : Str) : decide ((Sum.inl a : Key) = Sum.inr b) = false := decide_eq_false (fun q => nomatch q)
theorem key_rl (a : Str) (b : Int) : decide ((Sum.inr a : Key) = Sum.inl b) = false := decide_eq_false (fun q => nomatch q)
def mixKind (prog : Program) (w : World) : PySem.KeyKind prog w Key where
 is := keyIs
 hash := keyH w
 inj := fun v a b ha hb => by
   rcases keyIs_shape ha with ⟨i, t, rfl, rfl⟩ | ⟨x, t, rfl, rfl⟩
   · rcases keyIs_shape hb with ⟨j, u, rfl, e⟩ | ⟨y, u, rfl, e⟩
     · injection e with e1 _; rw [e1]
     · exact nomatch e
   · rcases keyIs_shape hb with ⟨j, u, rfl, e⟩ | ⟨y, u, rfl, e⟩
     · exact nomatch e
     · injection e with e1 _; rw [e1]
 byValue := fun k v h => by
   rcases keyIs_shape h with ⟨i, t, rfl, rfl⟩ | ⟨x, t, rfl, rfl⟩ <;> rfl
 pyHash := fun hv h => by
   rcases keyIs_shape hv with ⟨i, t, rfl, rfl⟩ | ⟨x, t, rfl, rfl⟩
   · exact wpAny_pyHash_int h
   · exact wpAny_pyHash_str h
 eqBool := fun hu hv h => by
   rcases keyIs_shape hu with ⟨i, t, rfl, rfl⟩ | ⟨x, t, rfl, rfl⟩
   · rcases keyIs_shape hv with ⟨j, u, rfl, rfl⟩ | ⟨y, u, rfl, rfl⟩
     · rw [key_ll] at h; exact wpAny_eqBool_int h
     · rw [key_lr] at h; exact SeqAt.EqAt.int_str i t y u _ _ _ _ h
   · rcases keyIs_shape hv with ⟨j, u, rfl, rfl⟩ | ⟨y, u, rfl, rfl⟩
     · rw [key_rl] at h; exact SeqAt.EqAt.str_int x t j u _ _ _ _ h
     · rw [key_rr] at h; exact wpAny_eqBool_str h
 «strs» := fun k x t v h => by
   rcases keyIs_shape h with ⟨i, u, rfl, e⟩ | ⟨y, u, rfl, e⟩
   · exact nomatch e
   · injection e with e1 _
     subst e1
     cases v <;> rfl
end L2
namespace L2
open PySem PySem.Spec PyProof.Rows
inductive V where
 | non | bl (b : Bool) | int (i : Int) | str (x : Str) | byt (b : Array UInt8) | flt (b : UInt64) | ref (a : Addr) | ty (n : String)
 deriving DecidableEq
def RelV : V → Value → Prop
 | .non, u => u = Value.none
 | .bl b, u => u = Value.bool b
 | .int i, u => ∃ t, u = Value.int i t
 | .str x, u => ∃ t, u = Value.str x t
 | .byt b, u => ∃ t, u = Value.bytes b t
 | .flt b, u => ∃ t, u = Value.float b t
 | .ref a, u => u = Value.ref a
 | .ty n, u => u = Value.type n
abbrev Vals : List V → List Value → Prop := Paired RelV
theorem Vals.length {xs : List V} {us : List Value} (r : Vals xs us) : xs.length = us.length := Paired.length r
theorem Vals.get : ∀ {xs : List V} {us : List Value} {i : Nat} {x : V}, Vals xs us → xs[i]? = some x → ∃ u, us[i]? = some u ∧ RelV x u
 | _, _, _, _, .nil, e => by simp at e
 | _, _, 0, _, .cons r _, e => by simp at e; subst e; exact ⟨_, rfl, r⟩
 | _, _, i + 1, x, .cons _ t, e => by
   obtain ⟨u, h1, h2⟩ := Vals.get (i := i) (x := x) t (by simpa using e)
   exact ⟨u, by simpa using h1, h2⟩
theorem Vals.set {x : V} {u : Value} (r : RelV x u) : ∀ {xs : List V} {us : List Value} (i : Nat), Vals xs us → Vals (xs.set i x) (us.set i u)
 | _, _, _, .nil => .nil
 | _, _, 0, .cons _ t => .cons r t
 | _, _, i + 1, .cons q t => .cons q (Vals.set r i t)
theorem Vals.append : ∀ {xs ys : List V} {us ws : List Value}, Vals xs us → Vals ys ws → Vals (xs ++ ys) (us ++ ws)
 | _, _, _, _, .nil, s => s
 | _, _, _, _, .cons r t, s => .cons r (Vals.append t s)
theorem Vals.take : ∀ {xs : List V} {us : List Value} (n : Nat), Vals xs us → Vals (xs.take n) (us.take n)
 | _, _, 0, _ => .nil
 | _, _, _ + 1, .nil => .nil
 | _, _, n + 1, .cons r t => .cons r (Vals.take n t)
theorem Vals.drop : ∀ {xs : List V} {us : List Value} (n : Nat), Vals xs us → Vals (xs.drop n) (us.drop n)
 | _, _, 0, r => r
 | _, _, _ + 1, .nil => .nil
 | _, _, n + 1, .cons _ t => Vals.drop n t
theorem Vals.none_of : ∀ {xs : List V} {us : List Value} {i : Nat}, Vals xs us → xs[i]? = none → us[i]? = none := fun {xs us i} r e => by
 have h1 := r.length
 have h2 : xs.length ≤ i := List.getElem?_eq_none_iff.mp e
 exact List.getElem?_eq_none_iff.mpr (by omega)
def RelO : Option V → Option Value → Prop
 | some v, some u => RelV v u
 | none, none => True
 | _, _ => False
def KV {κ : Type} : List (κ × V) → List (κ × Value) → Prop := Paired fun (p : κ × V) (q : κ × Value) => p.1 = q.1 ∧ RelV p.2 q.2
def kV : Key → V
 | .inl i => .int i
 | .inr x => .str x
inductive HO where
 | lst (xs : List V)
 | tup (xs : List V)
 | dK (kvs : List (Key × V)) | dT (kvs : List (List Key × V))
 | set (S : Int → Bool) (n : Nat)
 | ins (C dx : Addr) (fs : List (Str × V))
 | own (x : Addr)
 | xd (fs : List (Str × V))
 | met (f x : Addr)
 | rng (lo hi : Int)
 | frz (o : Obj) (u : HO)
 | tbl (ps : Array Value)
 | ext (φ : Heap → Prop)
abbrev Hp := Addr → Option HO
def upd (H : Hp) (a : Addr) (o : HO) : Hp := fun b => if b = a then some o else H b
theorem zE {H : Hp} {a : Addr} {o : HO} : upd H a o a = some o := by unfold upd; rw [if_pos rfl]
theorem zO {H : Hp} {a b : Addr} {o : HO} (h : b ≠ a) : upd H a o b = H b := by unfold upd; rw [if_neg h]
theorem upd_upd {H : Hp} {a : Addr} {o u : HO} : upd (upd H a o) a u = upd H a u := by
 funext b; unfold upd; split <;> rfl
theorem ne_of {H : Hp} {a b : Addr} {o u : HO} (h : H a = some o) (h' : H b = some u) (d : o ≠ u) : a ≠ b := by
 intro e; subst e; rw [h] at h'; exact d (Option.some.inj h')
theorem ne_of_none {H : Hp} {a b : Addr} {o : HO} (h : H a = some o) (h' : H b = none) : a ≠ b := by
 intro e; subst e; rw [h] at h'; cases h'
section
variable (P : Program) (w : World)
def ObjOk (H : Hp) (h : Heap) (a : Addr) : HO → Prop
 | .lst xs => xs.length ≤ sizeLine ∧ ∃ (its : List Value) (n : Nat), Vals xs its ∧ h.get? a = some { cls := .type "list", data := .seq its.toArray n }
 | .tup xs => xs.length ≤ sizeLine ∧ ∃ its : List Value, Vals xs its ∧ IsTup h a its.toArray
 | .dK kvs => kvs.length ≤ sizeLine ∧ (a == sysModules) = false ∧ ∃ vs, KV kvs vs ∧ h.DictOf (mixKind P w) a vs
 | .dT kvs => kvs.length ≤ sizeLine ∧ (a == sysModules) = false ∧ ∃ xs : List (List Key × Addr × Value),
     Paired (fun (p : List Key × V) (q : List Key × Addr × Value) => p.1 = q.1 ∧ H q.2.1 = some (.tup (p.1.map kV)) ∧ RelV p.2 q.2.2) kvs xs ∧
     ∃ o es ep, h.get? a = some o ∧ o.ExactDict ∧ o.data = .dict es ep ∧ es.toList = xs.map (entryOfKey (tupleKind (mixKind P w))) ∧ (xs.map (·.1)).Nodup
 | .set S n => h.SetOf (intKind P w) a S n
 | .ins C dx fs => H dx = some (.own a) ∧ fs.length ≤ 1000 ∧ dx ≠ a ∧ h.get? a = some (PySem.W.instObj C dx) ∧
     ∃ mA, h.Ns1 dx mA ∧ (∀ f, RelO (fs.lookup f) (mA f)) ∧ PySem.Within mA (fs.map (·.1))
 | .own _ => ∃ o, h.get? a = some o
 | .xd fs => ∃ mA, h.Ns1 a mA ∧ ∀ f, RelO (fs.lookup f) (mA f)
 | .rng lo hi => ∃ t u v, h.get? a = some { cls := .type "range", data := .fields #[.int lo t, .int hi u, .int 1 v] }
 | .frz o u => h.get? a = some o ∧ ObjOk H h a u
 | .tbl ps => h.get? a = some { cls := .none, data := .fields ps }
 | .met f x => h.get? a = some (PySem.W.methodObj (.ref f) (.ref x))
 | .ext φ => φ h ∧ (∃ o, h.get? a = some o) ∧ ∀ h1 h2 : Heap, φ h1 → (∀ o, h1.get? a = some o → h2.get? a = some o) → φ h2
def HOk (H : Hp) (h : Heap) : Prop := ∀ a o, H a = some o → ObjOk P w H h a o
end
section
variable {P : Program} {w : World} {H H' : Hp} {h h' : Heap} {a : Addr} {o : HO}
theorem ObjOk.lt (x : ObjOk P w H h a o) : a < h.objs.size := by
 cases o with
 | lst xs => obtain ⟨_, _, _, _, e⟩ := x; exact Heap.lt_size e
 | tup xs => obtain ⟨_, _, _, p⟩ := x; exact p.lt
 | dK kvs => obtain ⟨_, _, _, _, o, _, _, e, _⟩ := x; exact Heap.lt_size e
 | dT kvs => obtain ⟨_, _, _, _, o, _, _, e, _⟩ := x; exact Heap.lt_size e
 | set S n => obtain ⟨o, _, _, _, e, _⟩ := x; exact Heap.lt_size e
 | ins C dx fs => obtain ⟨_, _, _, e, _⟩ := x; exact Heap.lt_size e
 | own y => obtain ⟨_, e⟩ := x; exact Heap.lt_size e
 | xd fs => obtain ⟨_, ⟨_, _, _, e, _⟩, _⟩ := x; exact Heap.lt_size e
 | rng lo hi => obtain ⟨_, _, _, e⟩ := x; exact Heap.lt_size e
 | frz ob u => obtain ⟨e, _⟩ := x; exact Heap.lt_size e
 | tbl ps => exact Heap.lt_size (show h.get? a = some _ from x)
 | met f y => exact Heap.lt_size (show h.get? a = some _ from x)
 | ext φ => obtain ⟨_, ⟨_, e⟩, _⟩ := x; exact Heap.lt_size e
theorem Paired.mapP {α β : Type} {F G : α → β → Prop} : ∀ {l₁ : List α} {l₂ : List β}, Paired F l₁ l₂ → (∀ a b, F a b → G a b) → Paired G l₁ l₂
 | _, _, .nil, _ => .nil
 | _, _, .cons r t, f => .cons (f _ _ r) (Paired.mapP t f)
theorem ObjOk.stay (x : ObjOk P w H h a o) (k : ∀ b u, (b = a ∨ H b = some (.own a)) → h.get? b = some u → h'.get? b = some u)
   (ho : ∀ b, H b = some (.own a) → H' b = some (.own a)) (ht : ∀ b xs, H b = some (.tup xs) → H' b = some (.tup xs)) : ObjOk P w H' h' a o := by
 induction o with
 | lst xs => obtain ⟨z, its, n, r, e⟩ := x; exact ⟨z, its, n, r, k _ _ (.inl rfl) e⟩
 | tup xs => obtain ⟨z, its, r, ob, e, c⟩ := x; exact ⟨z, its, r, ob, k _ _ (.inl rfl) e, c⟩
 | dK kvs => obtain ⟨z, y, vs, r, ob, es, ep, e, c⟩ := x; exact ⟨z, y, vs, r, ob, es, ep, k _ _ (.inl rfl) e, c⟩
 | dT kvs =>
   obtain ⟨z, y, xs, r, ob, es, ep, e, c⟩ := x
   exact ⟨z, y, xs, Paired.mapP r fun p q z => ⟨z.1, ht _ _ z.2.1, z.2.2⟩, ob, es, ep, k _ _ (.inl rfl) e, c⟩
 | set S n => obtain ⟨ob, es, ep, t, e, c⟩ := x; exact ⟨ob, es, ep, t, k _ _ (.inl rfl) e, c⟩
 | ins C dx fs =>
   obtain ⟨d, z, ne, e, mA, ⟨od, es, ep, e2, c⟩, r⟩ := x
   exact ⟨ho _ d, z, ne, k _ _ (.inl rfl) e, mA, ⟨od, es, ep, k _ _ (.inr d) e2, c⟩, r⟩
 | own y => obtain ⟨ob, e⟩ := x; exact ⟨ob, k _ _ (.inl rfl) e⟩
 | xd fs => obtain ⟨mA, ⟨od, es, ep, e, c⟩, r⟩ := x; exact ⟨mA, ⟨od, es, ep, k _ _ (.inl rfl) e, c⟩, r⟩
 | rng lo hi => obtain ⟨t, u, v, e⟩ := x; exact ⟨t, u, v, k _ _ (.inl rfl) e⟩
 | frz ob u ih => obtain ⟨e, q⟩ := x; exact ⟨k _ _ (.inl rfl) e, ih q⟩
 | tbl ps =>
   have e : h.get? a = some { cls := .none, data := .fields ps } := x
   show h'.get? a = some { cls := .none, data := .fields ps }
   exact k a _ (.inl rfl) e
 | met f y =>
   have e : h.get? a = some (PySem.W.methodObj (.ref f) (.ref y)) := x
   show h'.get? a = some (PySem.W.methodObj (.ref f) (.ref y))
   exact k a _ (.inl rfl) e
 | ext φ => obtain ⟨p, ⟨o, e⟩, st⟩ := x; exact ⟨st _ _ p fun o q => k _ _ (.inl rfl) q, ⟨o, k _ _ (.inl rfl) e⟩, st⟩
theorem HOk.lt (x : HOk P w H h) (e : H a = some o) : a < h.objs.size := (x a o e).lt
theorem HOk.fresh (x : HOk P w H h) (e : h.objs.size ≤ a) : H a = none := by
 cases q : H a with
 | none => rfl
 | some u => exact absurd (Nat.lt_of_lt_of_le (x.lt q) e) (Nat.lt_irrefl _)
theorem HOk.kept (x : HOk P w H h) (k : ∀ b u, h.get? b = some u → h'.get? b = some u) : HOk P w H h' := fun a o e =>
 (x a o e).stay (fun b u _ q => k b u q) (fun _ q => q) fun _ _ q => q
theorem HOk.laid (x : HOk P w H h) (k : ∀ b u, h.get? b = some u → h'.get? b = some u) (hp : h.objs.size ≤ a) (new : ObjOk P w (upd H a o) h' a o) : HOk P w (upd H a o) h' := fun b u e => by
 have hn := x.fresh hp
 by_cases hb : b = a
 · subst hb; rw [zE] at e; cases e; exact new
 · rw [zO hb] at e
   exact (x b u e).stay (fun c v _ q => k c v q) (fun c q => by rw [zO (ne_of_none q hn)]; exact q) fun c xs q => by rw [zO (ne_of_none q hn)]; exact q
end
def Rd (H : Hp) (a : Addr) (u : HO) : Prop := H a = some u ∨ ∃ o, H a = some (.frz o u)
theorem Rd.of {H : Hp} {a : Addr} {u : HO} (h : H a = some u) : Rd H a u := .inl h
theorem Rd.ok {P : Program} {w : World} {H : Hp} {h : Heap} {a : Addr} {u : HO} (r : Rd H a u) (x : HOk P w H h) : ObjOk P w H h a u := by
 rcases r with r | ⟨o, r⟩
 · exact x a u r
 · obtain ⟨_, q⟩ := x a _ r
   exact q
def Mut : Option HO → Prop
 | some (.lst _) => True
 | some (.dK _) => True
 | some (.dT _) => True
 | some (.set _ _) => True
 | some (.ins _ _ _) => True
 | some (.ext _) => True
 | _ => False
section
variable {P : Program} {w : World} {H : Hp} {h h' : Heap} {x e : Addr} {o' : HO}
theorem HOk.write (ok : HOk P w H h) (mu : Mut (H x)) (he : e = x ∨ H e = some (.own x)) (k : ∀ b u, b ≠ e → h.get? b = some u → h'.get? b = some u) (heo : ∃ u, h'.get? e = some u)
   (new : ObjOk P w (upd H x o') h' x o') : HOk P w (upd H x o') h' := fun b u q => by
 have nown : ∀ c y, H c = some (.own y) → c ≠ x := fun c y r z => by subst z; rw [r] at mu; exact mu
 have ntup : ∀ c xs, H c = some (.tup xs) → c ≠ x := fun c xs r z => by subst z; rw [r] at mu; exact mu
 by_cases hb : b = x
 · subst hb; rw [zE] at q; cases q; exact new
 · rw [zO hb] at q
   by_cases hbe : b = e
   · have q' : H b = some (.own x) := by
       rcases he with z | z
       · exact absurd (hbe.trans z) hb
       · rw [hbe]; exact z
     rw [q] at q'; cases q'
     obtain ⟨v, hv⟩ := heo
     exact ⟨v, by rw [hbe]; exact hv⟩
   · refine (ok b u q).stay (fun c v hc r => k c v ?_ r) (fun c r => by rw [zO (nown c b r)]; exact r) fun c xs r => by rw [zO (ntup c xs r)]; exact r
     rcases hc with rfl | hc
     · exact hbe
     · rintro rfl
       rcases he with z | z
       · exact nown c b hc z
       · rw [hc] at z; cases z; exact hb rfl
end
structure Un (fs ex : List Addr) (H H' : Hp) (h h' : Heap) : Prop where
 keep : ∀ b o, h.get? b = some o → H b = none → b ∉ fs → b ∉ ex → h'.get? b = some o
 slot : ∀ b o, h.get? b = some o → H b = none → b ∈ fs → b ∉ ex → ∃ sl, h'.get? b = some { o with slots := sl }
 free : ∀ b o, h.get? b = some o → H b = none → b ∉ ex → H' b = none
 there : ∀ b o, h.get? b = some o → b ∉ ex → ∃ o', h'.get? b = some o'
 tups : ∀ b xs, H b = some (.tup xs) → H' b = some (.tup xs)
 frzs : ∀ b o u, H b = some (.frz o u) → H' b = some (.frz o u)
 tbls : ∀ b ps, H b = some (.tbl ps) → ∃ more, H' b = some (.tbl (ps ++ more))
section
variable {fs fs' ex ex' : List Addr} {H H1 H2 : Hp} {h h1 h2 h' : Heap} {a x e : Addr} {o : HO}
theorem Un.any (u : Un fs ex H H1 h h1) {b : Addr} {ob : Obj} (q : h.get? b = some ob) (n : H b = none) (hx : b ∉ ex) : ∃ sl, h1.get? b = some { ob with slots := sl } := by
 by_cases hb : b ∈ fs
 · exact u.slot b ob q n hb hx
 · exact ⟨ob.slots, u.keep b ob q n hb hx⟩
theorem Un.trans (a : Un fs ex H H1 h h1) (b : Un fs ex H1 H2 h1 h2) : Un fs ex H H2 h h2 where
 keep := fun c ob q n hc hx => b.keep c ob (a.keep c ob q n hc hx) (a.free c ob q n hx) hc hx
 slot := fun c ob q n hc hx => by
   obtain ⟨sl, e1⟩ := a.slot c ob q n hc hx
   obtain ⟨sl', e2⟩ := b.slot c _ e1 (a.free c ob q n hx) hc hx
   exact ⟨sl', e2⟩
 free := fun c ob q n hx => by
   obtain ⟨o', e1⟩ := a.there c ob q hx
   exact b.free c o' e1 (a.free c ob q n hx) hx
 there := fun c ob q hx => by
   obtain ⟨o', e1⟩ := a.there c ob q hx
   exact b.there c o' e1 hx
 tups := fun c xs q => b.tups c xs (a.tups c xs q)
 frzs := fun c ob xs q => b.frzs c ob xs (a.frzs c ob xs q)
 tbls := fun c ps q => by
   obtain ⟨m1, e1⟩ := a.tbls c ps q
   obtain ⟨m2, e2⟩ := b.tbls c _ e1
   exact ⟨m1 ++ m2, by rw [e2, Array.append_assoc]⟩
theorem Un.kept (k : ∀ b u, h.get? b = some u → h'.get? b = some u) : Un fs ex H H h h' :=
 ⟨fun b ob q _ _ _ => k b ob q, fun b ob q _ _ _ => ⟨ob.slots, k b ob q⟩, fun _ _ _ n _ => n, fun b ob q _ => ⟨ob, k b ob q⟩, fun _ _ q => q, fun _ _ _ q => q, fun _ ps q => ⟨#[], by rw [q]; simp⟩⟩
theorem Un.refl : Un fs ex H H h h := Un.kept fun _ _ q => q
theorem Un.laid (k : ∀ b u, h.get? b = some u → h'.get? b = some u) (hp : h.objs.size ≤ a) (hn : H a = none) : Un fs ex H (upd H a o) h h' where
 keep := fun b u q _ _ _ => k b u q
 slot := fun b u q _ _ _ => ⟨u.slots, k b u q⟩
 free := fun b u q n _ => by rw [zO (Nat.ne_of_lt (Nat.lt_of_lt_of_le (Heap.lt_size q) hp))]; exact n
 there := fun b u q _ => ⟨u, k b u q⟩
 tups := fun b xs q => by rw [zO (ne_of_none q hn)]; exact q
 frzs := fun b u xs q => by rw [zO (ne_of_none q hn)]; exact q
 tbls := fun b ps q => ⟨#[], by rw [zO (ne_of_none q hn), q]; simp⟩
theorem Un.write (mu : Mut (H x)) (he : e = x ∨ H e = some (.own x)) (k : ∀ b u, b ≠ e → h.get? b = some u → h'.get? b = some u) (heo : ∃ u, h'.get? e = some u) : Un fs ex H (upd H x o) h h' := by
 have hx : ∀ b, H b = none → b ≠ x := fun b n z => by subst z; rw [n] at mu; exact mu
 have hb : ∀ b, H b = none → b ≠ e := fun b n z => by
   subst z
   rcases he with r | r
   · exact hx b n r
   · rw [n] at r; cases r
 have hm : ∀ b u, H b = some u → ¬ Mut (some u) → b ≠ x := fun b u q nm z => by subst z; rw [q] at mu; exact nm mu
 refine ⟨fun b u q n _ _ => k b u (hb b n) q, fun b u q n _ _ => ⟨u.slots, k b u (hb b n) q⟩, fun b u q n _ => by rw [zO (hx b n)]; exact n, fun b u q _ => ?_,
   fun b xs q => by rw [zO (hm b _ q fun z => z)]; exact q, fun b u xs q => by rw [zO (hm b _ q fun z => z)]; exact q, fun b ps q => ⟨#[], by rw [zO (hm b _ q fun z => z), q]; simp⟩⟩
 by_cases hbe : b = e
 · subst hbe; exact heo
 · exact ⟨u, k b u hbe q⟩
theorem Un.mono (u : Un fs ex H H1 h h1) (hs : ∀ b ∈ fs, b ∈ fs') (hx : ∀ b ∈ ex, b ∈ ex') : Un fs' ex' H H1 h h1 :=
 ⟨fun b ob q n hb he => u.keep b ob q n (fun z => hb (hs b z)) fun z => he (hx b z), fun _ _ q n _ he => u.any q n fun z => he (hx _ z), fun b ob q n he => u.free b ob q n fun z => he (hx b z), fun b ob q he => u.there b ob q fun z => he (hx b z), u.tups, u.frzs, u.tbls⟩
end
def trk (h : Heap) (H : Hp) : List Addr := (List.range h.objs.size).filter fun a => (H a).isSome
def hidT (h : Heap) (H : Hp) : Heap := PySem.W.hideAll h (trk h H)
theorem hidT_size (h : Heap) (H : Hp) : (hidT h H).objs.size = h.objs.size := PySem.W.hideAll_size _ _
theorem hidT_get {h : Heap} {H : Hp} {b : Addr} {o : Obj} (e : h.get? b = some o) (n : H b = none) : (hidT h H).get? b = some o :=
 PySem.W.hideAll_get _ e fun hm => by
   have q : (H b).isSome = true := (List.mem_filter.mp hm).2
   rw [n] at q; simp at q
theorem of_hidT {h : Heap} {H : Hp} {b : Addr} {o : Obj} (e : (hidT h H).get? b = some o) : h.get? b = some o ∧ H b = none := by
 have e' : h.get? b = some o := PySem.W.of_hideAll (trk h H) e
 refine ⟨e', ?_⟩
 cases q : H b with
 | none => rfl
 | some x =>
   have hm : b ∈ trk h H := List.mem_filter.mpr ⟨List.mem_range.mpr (Heap.lt_size e'), by simp [q]⟩
   have z : (hidT h H).get? b = none := PySem.W.hideAll_none (trk h H) hm
   rw [z] at e; cases e
def allNews (g h : Heap) (L : Addr) : List (Addr × Obj) := (List.range h.objs.size).filterMap fun a => if a = L ∨ (g.get? a).isSome = true then none else (h.get? a).map fun o => (a, o)
def rest (g h : Heap) (L d : Addr) : List (Addr × Obj) := (allNews g h L).filter fun p => decide (p.1 ≠ d)
end L2
namespace L2
open PySem PySem.Spec PyProof.Rows
structure Mod (K : PySem.W.Frag) (mg : Str → Option Value) (base : Heap) : Prop where
 kin : K.In base
 glob : base.Ns mainGlobals mg
 blt : ∃ mb, base.Ns builtinsNs mb ∧ ∀ x : Str, x ≠ "__name__" → mb x = bootBuiltins x
 nolimit : base.NoLimit
structure Cx where
 prog : Program
 w : World
 K : PySem.W.Frag
 mg : Str → Option Value
 base : Heap
 A : Around
 N : List Str
 s₀ : Shared
 H₀ : Hp
 env : Env
 outer : List Env
 stack : List Env
 ex : List Addr
 fn : Str → Bool
 calm : Bool
 pn : List (Addr × Obj)
 xe : Value → Shared → Prop
def frs (l : List Env) : List Addr := l.filterMap (·.frame)
abbrev Cx.fs (X : Cx) : List Addr := frs X.outer
def Vis (sc : Scope) (x : Str) : Prop := sc.names.lookup x = some .local ∨ sc.names.lookup x = some .cell ∨ sc.names.lookup x = some .free
def Loc (sc : Scope) (x : Str) : Prop := sc.names.lookup x = some .local ∨ sc.names.lookup x = some .cell
def Look (env : Env) (h : Heap) (m : Str → Option Value) (x : Str) (u : Value) : Prop :=
 (env.kindOf x = some .local ∧ m x = some u) ∨ ((env.kindOf x = some .cell ∨ env.kindOf x = some .free) ∧ ∃ c, env.cells.lookup x = some c ∧ h.IsCell c (some u))
structure Cx.Ok (X : Cx) : Prop where
 mod : Mod X.K X.mg X.base
 kind : X.env.scope.kind = .function
 glob : X.env.globals = mainGlobals
 blt : X.env.builtins = builtinsNs
 above : X.s₀.heap.objs.size ≤ X.env.locals
 inj : ∀ x y c, X.env.cells.lookup x = some c → X.env.cells.lookup y = some c → x = y
 has : ∀ x, (X.env.kindOf x = some .cell ∨ X.env.kindOf x = some .free) → ∃ c, X.env.cells.lookup x = some c
 cab : ∀ x c, X.fn x = true → X.env.cells.lookup x = some c → X.s₀.heap.objs.size ≤ c
 hd : X.calm = true → X.A.handled = none
 frames : X.A.frames = some X.stack
 stk : X.stack = X.outer ∨ (X.stack = X.env :: X.outer ∧ X.env.frame = some X.env.locals)
 exf : ∀ b ∈ X.ex, b ≠ X.env.locals ∧ ∀ x c, X.env.cells.lookup x = some c → c ≠ b
 bs : ∀ b o, X.base.get? b = some o → X.s₀.heap.get? b = some o ∧ X.H₀ b = none
 bsz : X.base.objs.size ≤ X.s₀.heap.objs.size
 noex : ∀ b o, X.base.get? b = some o → b ∉ X.ex
 exfs : ∀ b ∈ X.ex, b ∉ X.fs
 funs : X.s₀.heap.FunFrames X.base X.outer
 frf : ∀ b ∈ X.fs, X.H₀ b = none
structure Inv (X : Cx) (pins : List (Addr × Obj)) (σ : List (Option V)) (H : Hp) (s : Shared) : Prop where
 ok : X.Ok
 os : s.os = X.s₀.os
 bare : AllBare s.gens
 base : Un X.fs X.ex X.H₀ H X.s₀.heap s.heap
 loc : ∃ m, s.heap.Ns X.env.locals m ∧ ∀ (i : Nat) (x : Str) (v : V), X.N[i]? = some x → σ[i]? = some (some v) → Vis X.env.scope x → ∃ u, RelV v u ∧ Look X.env s.heap m x u
 cell : ∀ x c, X.env.cells.lookup x = some c → ∃ v, s.heap.IsCell c v
 free : H X.env.locals = none
 freeC : ∀ x c, X.env.cells.lookup x = some c → H c = none
 pin : ∀ p ∈ X.pn ++ pins, s.heap.get? p.1 = some p.2 ∧ H p.1 = none ∧ p.1 ≠ X.env.locals ∧ p.1 ∉ X.fs ∧ ∀ v, p.2.data ≠ .cell v
 hok : HOk X.prog X.w H s.heap
 len : σ.length = X.N.length
section
variable {X : Cx} {pins : List (Addr × Obj)} {σ : List (Option V)} {H H' : Hp} {s : Shared} {h' : Heap}
theorem Cx.Ok.nofr (ok : X.Ok) {b : Addr} {o : Obj} (e : X.base.get? b = some o) : b ∉ X.fs := fun hb => by
 have := (ok.funs.mem hb).1
 rw [e] at this; cases this
theorem Inv.bs (I : Inv X pins σ H s) : ∀ b o, X.base.get? b = some o → s.heap.get? b = some o ∧ H b = none := fun b o e =>
 ⟨I.base.keep b o (I.ok.bs b o e).1 (I.ok.bs b o e).2 (I.ok.nofr e) (I.ok.noex b o e), I.base.free b o (I.ok.bs b o e).1 (I.ok.bs b o e).2 (I.ok.noex b o e)⟩
theorem Inv.bk (I : Inv X pins σ H s) : ∀ b o, X.base.get? b = some o → s.heap.get? b = some o := fun b o e => (I.bs b o e).1
theorem Inv.mod (I : Inv X pins σ H s) : Mod X.K X.mg X.base := I.ok.mod
theorem Inv.kIn (I : Inv X pins σ H s) : X.K.In s.heap := I.ok.mod.kin.keeps I.bk
theorem Inv.nolimit (I : Inv X pins σ H s) : s.heap.NoLimit := I.ok.mod.nolimit.keeps I.bk
theorem Inv.fr (I : Inv X pins σ H s) : ∃ m, Fr X.base X.env.locals s.heap m :=
 let ⟨m, hn, _⟩ := I.loc
 ⟨m, hn, I.bk, Nat.le_trans I.ok.bsz I.ok.above⟩
theorem Inv.lt (I : Inv X pins σ H s) : X.env.locals < s.heap.objs.size := let ⟨_, hn, _⟩ := I.loc; hn.lt
theorem Inv.sz (I : Inv X pins σ H s) : X.s₀.heap.objs.size ≤ s.heap.objs.size := Nat.le_trans I.ok.above (Nat.le_of_lt I.lt)
theorem Inv.nofs (I : Inv X pins σ H s) {a : Addr} (h : s.heap.objs.size ≤ a) : a ∉ X.fs := fun hb => by
 obtain ⟨_, o, ho, _⟩ := I.ok.funs.mem hb
 exact absurd (Nat.lt_of_lt_of_le (Heap.lt_size ho) (Nat.le_trans I.sz h)) (Nat.lt_irrefl _)
theorem Inv.cne (I : Inv X pins σ H s) : ∀ x c, X.env.cells.lookup x = some c → c ≠ X.env.locals := fun x c e z => by
 obtain ⟨v, o, ho, hd⟩ := I.cell x c e
 obtain ⟨m, ⟨o', es, ep, ho', hd', _⟩, _⟩ := I.loc
 rw [z, ho'] at ho; cases ho; rw [hd'] at hd; cases hd
theorem Inv.funs (I : Inv X pins σ H s) : s.heap.FunFrames X.base X.outer := by
 have all : ∀ (l : List Env), (∀ b ∈ frs l, b ∈ X.fs) → X.s₀.heap.FunFrames X.base l → s.heap.FunFrames X.base l := by
   intro l
   induction l with
   | nil => intro _ _; trivial
   | cons env r ih =>
     intro hs hl
     obtain ⟨hk, ⟨L, o, hf, hn, ho, hd⟩, hr⟩ := hl
     have hL : L ∈ X.fs := hs L (by unfold frs; rw [List.filterMap_cons, hf]; exact List.mem_cons_self)
     obtain ⟨sl, e⟩ := I.base.slot L o ho (I.ok.frf L hL) hL fun z => I.ok.exfs L z hL
     exact ⟨hk, ⟨L, _, hf, hn, e, hd⟩, ih (fun b hb => hs b (by unfold frs; rw [List.filterMap_cons, hf]; exact List.mem_cons_of_mem _ hb)) hr⟩
 exact all X.outer (fun _ hb => hb) I.ok.funs
theorem Inv.stack (I : Inv X pins σ H s) : s.heap.FunFrames X.base X.stack := by
 rcases I.ok.stk with e | ⟨e, hf⟩
 · rw [e]; exact I.funs
 · rw [e]
   obtain ⟨m, hn, _⟩ := I.loc
   refine .cons (by rw [I.ok.kind]; decide) hf hn ?_ I.funs
   exact Heap.get?_none_of_le (Nat.le_trans I.ok.bsz I.ok.above)
theorem Inv.stkSub (I : Inv X pins σ H s) : ∀ b ∈ frs X.stack, b ∈ X.env.locals :: X.fs := fun b hb => by
 rcases I.ok.stk with e | ⟨e, hf⟩
 · rw [e] at hb; exact List.mem_cons_of_mem _ hb
 · rw [e] at hb
   unfold frs at hb
   rw [List.filterMap_cons, hf] at hb
   exact hb
theorem Inv.stkFree (I : Inv X pins σ H s) : ∀ b ∈ frs X.stack, H b = none := fun b hb => by
 rcases List.mem_cons.mp (I.stkSub b hb) with e | hb
 · rw [e]; exact I.free
 · obtain ⟨_, o, ho, _⟩ := I.ok.funs.mem hb
   exact I.base.free b o ho (I.ok.frf b hb) fun z => I.ok.exfs b z hb
theorem Inv.step {g' : Array GenState} {t' : Nat} {d' : Drawn} {ch : List Addr} (I : Inv X pins σ H s)
   (hch : ∀ b ∈ ch, (b ∈ X.ex ∨ X.s₀.heap.objs.size ≤ b) ∧ b ≠ X.env.locals ∧ (∀ x c, X.env.cells.lookup x = some c → c ≠ b) ∧ ∀ p ∈ X.pn ++ pins, p.1 ≠ b)
   (keep : ∀ b o, b ≠ X.env.locals → b ∉ X.fs → b ∉ ch → s.heap.get? b = some o → H b = none → h'.get? b = some o)
   (slot : ∀ b o, b ≠ X.env.locals → b ∈ X.fs → b ∉ ch → s.heap.get? b = some o → H b = none → ∃ sl, h'.get? b = some { o with slots := sl }) (free : ∀ b o, b ∉ ch → s.heap.get? b = some o → H b = none → H' b = none)
   (there : ∀ b o, b ∉ ch → s.heap.get? b = some o → ∃ o', h'.get? b = some o')
   (tups : ∀ b xs, H b = some (.tup xs) → H' b = some (.tup xs)) (frzs : ∀ b o u, H b = some (.frz o u) → H' b = some (.frz o u)) (tbls : ∀ b ps, H b = some (.tbl ps) → ∃ more, H' b = some (.tbl (ps ++ more)))
   (ns : ∀ m, s.heap.Ns X.env.locals m → h'.Ns X.env.locals m) (hok : HOk X.prog X.w H' h') (hg : AllBare g') :
   Inv X pins σ H' { s with heap := h', gens := g', drawn := d', toks := t' } := by
 have neL : ∀ b o, X.s₀.heap.get? b = some o → b ≠ X.env.locals := fun b o e => Nat.ne_of_lt (Nat.lt_of_lt_of_le (Heap.lt_size e) I.ok.above)
 have neC : ∀ b o, X.s₀.heap.get? b = some o → b ∉ X.ex → b ∉ ch := fun b o e hx hb => by
   rcases (hch b hb).1 with z | z
   · exact hx z
   · exact absurd (Nat.lt_of_lt_of_le (Heap.lt_size e) z) (Nat.lt_irrefl _)
 have cellK : ∀ x c, X.env.cells.lookup x = some c → ∀ v, s.heap.IsCell c v → h'.IsCell c v := fun x c e v ⟨o, ho, hd⟩ => by
   have nch : c ∉ ch := fun z => (hch c z).2.2.1 x c e rfl
   by_cases hc : c ∈ X.fs
   · obtain ⟨sl, q⟩ := slot c o (I.cne x c e) hc nch ho (I.freeC x c e)
     exact ⟨_, q, hd⟩
   · exact ⟨o, keep c o (I.cne x c e) hc nch ho (I.freeC x c e), hd⟩
 refine ⟨I.ok, I.os, hg, ⟨fun b o e n hb hx => ?_, fun b o e n hb hx => ?_, fun b o e n hx => ?_, fun b o e hx => ?_, fun b xs e => tups b xs (I.base.tups b xs e), fun b o xs e => frzs b o xs (I.base.frzs b o xs e), fun b ps e => ?_⟩, ?_, fun x c e => ?_, ?_, fun x c e => ?_, fun p hp => ?_, hok, I.len⟩
 · exact keep b o (neL b o e) hb (neC b o e hx) (I.base.keep b o e n hb hx) (I.base.free b o e n hx)
 · obtain ⟨sl, e1⟩ := I.base.slot b o e n hb hx
   obtain ⟨sl', e2⟩ := slot b _ (neL b o e) hb (neC b o e hx) e1 (I.base.free b o e n hx)
   exact ⟨sl', e2⟩
 · obtain ⟨o', e1⟩ := I.base.there b o e hx
   exact free b o' (neC b o e hx) e1 (I.base.free b o e n hx)
 · obtain ⟨o', e1⟩ := I.base.there b o e hx
   exact there b o' (neC b o e hx) e1
 · obtain ⟨m1, e1⟩ := I.base.tbls b ps e
   obtain ⟨m2, e2⟩ := tbls b _ e1
   exact ⟨m1 ++ m2, by rw [e2, Array.append_assoc]⟩
 · obtain ⟨m, hn, hl⟩ := I.loc
   refine ⟨m, ns m hn, fun i x v e1 e2 e3 => ?_⟩
   obtain ⟨u, r, l⟩ := hl i x v e1 e2 e3
   refine ⟨u, r, ?_⟩
   rcases l with l | ⟨k, c, e, z⟩
   · exact .inl l
   · exact .inr ⟨k, c, e, cellK x c e _ z⟩
 · obtain ⟨v, z⟩ := I.cell x c e
   exact ⟨v, cellK x c e v z⟩
 · obtain ⟨m, ⟨o, _, _, ho, _⟩, _⟩ := I.loc
   exact free _ o (fun z => (hch _ z).2.1 rfl) ho I.free
 · obtain ⟨v, o, ho, hd⟩ := I.cell x c e
   exact free c o (fun z => (hch c z).2.2.1 x c e rfl) ho (I.freeC x c e)
 · obtain ⟨e, n, ne, nf, d⟩ := I.pin p hp
   have nch : p.1 ∉ ch := fun z => (hch p.1 z).2.2.2 p hp rfl
   exact ⟨keep p.1 p.2 ne nf nch e n, free p.1 p.2 nch e n, ne, nf, d⟩
theorem Inv.un {t' : Nat} (I : Inv X pins σ H s) (u : Un X.fs [] H H' s.heap h') (hok : HOk X.prog X.w H' h') : Inv X pins σ H' { s with heap := h', toks := t' } := by
 obtain ⟨m, ⟨o, es, ep, ho, r⟩, _⟩ := id I.loc
 obtain ⟨sl, hL⟩ := u.any ho I.free (by simp)
 exact I.step (g' := s.gens) (d' := s.drawn) (ch := []) (fun _ z => nomatch z) (fun b o _ hb _ e n => u.keep b o e n hb (by simp)) (fun b o _ hb _ e n => u.slot b o e n hb (by simp)) (fun b o _ e n => u.free b o e n (by simp)) (fun b o _ e => u.there b o e (by simp)) u.tups u.frzs u.tbls (fun m' hm => by
   obtain ⟨o', es', ep', ho', r'⟩ := hm
   rw [ho] at ho'; cases ho'
   exact ⟨_, es', ep', hL, r'⟩) hok I.bare
theorem Inv.call {g' : Array GenState} {t' : Nat} {d' : Drawn} {ch : List Addr} (I : Inv X pins σ H s) (u : Un (frs X.stack) ch H H' s.heap h') (hok : HOk X.prog X.w H' h') (hg : AllBare g')
   (hch : ∀ b ∈ ch, (b ∈ X.ex ∨ X.s₀.heap.objs.size ≤ b) ∧ b ≠ X.env.locals ∧ (∀ x c, X.env.cells.lookup x = some c → c ≠ b) ∧ ∀ p ∈ X.pn ++ pins, p.1 ≠ b) :
   Inv X pins σ H' { s with heap := h', gens := g', drawn := d', toks := t' } := by
 obtain ⟨m, ⟨o, es, ep, ho, r⟩, _⟩ := id I.loc
 obtain ⟨sl, hL⟩ := u.any ho I.free fun z => (hch _ z).2.1 rfl
 exact I.step (ch := ch) hch (fun b o hL hb hc e n => u.keep b o e n (fun z => (List.mem_cons.mp (I.stkSub b z)).elim hL hb) hc) (fun b o _ _ hc e n => u.any e n hc) (fun b o hc e n => u.free b o e n hc) (fun b o hc e => u.there b o e hc) u.tups u.frzs u.tbls (fun m' hm => by
   obtain ⟨o', es', ep', ho', r'⟩ := hm
   rw [ho] at ho'; cases ho'
   exact ⟨_, es', ep', hL, r'⟩) hok hg
theorem Inv.turned {t' : Nat} {it : Addr} (I : Inv X pins σ H s) (k : ∀ b o, b ≠ it → s.heap.get? b = some o → h'.get? b = some o) (hn : H it = none) (hL : it ≠ X.env.locals)
   (h1 : it ∈ X.ex ∨ X.s₀.heap.objs.size ≤ it) (h2 : ∀ x c, X.env.cells.lookup x = some c → c ≠ it) (h3 : ∀ p ∈ X.pn ++ pins, p.1 ≠ it) : Inv X pins σ H { s with heap := h', toks := t' } := by
 have nit : ∀ b u, H b = some u → b ≠ it := fun b u e z => by rw [z, hn] at e; cases e
 refine I.step (g' := s.gens) (d' := s.drawn) (ch := [it]) (fun b hb => ?_) (fun b o _ _ hc e _ => k b o (fun z => hc (by simp [z])) e) (fun b o _ _ hc e _ => ⟨o.slots, k b o (fun z => hc (by simp [z])) e⟩) (fun _ _ _ _ n => n)
   (fun b o hc e => ⟨o, k b o (fun z => hc (by simp [z])) e⟩) (fun _ _ e => e) (fun _ _ _ e => e) (fun b ps e => ⟨#[], by rw [e]; simp⟩) (fun m hm => ?_) (fun b u e => ?_) I.bare
 · have e : b = it := by simpa using hb
   subst e
   exact ⟨h1, hL, h2, h3⟩
 · obtain ⟨o, es, ep, ho, r⟩ := hm
   exact ⟨o, es, ep, k _ o (Ne.symm hL) ho, r⟩
 · refine (I.hok b u e).stay (fun c v hc q => k c v ?_ q) (fun _ q => q) fun _ _ q => q
   rcases hc with z | z
   · rw [z]; exact nit b u e
   · exact nit c _ z
theorem Inv.tok (I : Inv X pins σ H s) (t : Nat) : Inv X pins σ H { s with toks := t } := I.un (h' := s.heap) (t' := t) Un.refl I.hok
theorem Inv.kept {t' : Nat} (I : Inv X pins σ H s) (k : ∀ b u, s.heap.get? b = some u → h'.get? b = some u) : Inv X pins σ H { s with heap := h', toks := t' } := I.un (Un.kept k) (I.hok.kept k)
theorem Inv.laid {a : Addr} {o : HO} {t' : Nat} (I : Inv X pins σ H s) (k : ∀ b u, s.heap.get? b = some u → h'.get? b = some u) (hp : s.heap.objs.size ≤ a) (new : ObjOk X.prog X.w (upd H a o) h' a o) :
   Inv X pins σ (upd H a o) { s with heap := h', toks := t' } := I.un (Un.laid k hp (I.hok.fresh hp)) (I.hok.laid k hp new)
theorem Inv.write {x e : Addr} {o : HO} {t' : Nat} (I : Inv X pins σ H s) (mu : Mut (H x)) (he : e = x ∨ H e = some (.own x)) (k : ∀ b u, b ≠ e → s.heap.get? b = some u → h'.get? b = some u) (heo : ∃ u, h'.get? e = some u)
   (new : ObjOk X.prog X.w (upd H x o) h' x o) : Inv X pins σ (upd H x o) { s with heap := h', toks := t' } := I.un (Un.write mu he k heo) (I.hok.write mu he k heo new)
theorem Inv.weak {σ' : List (Option V)} (I : Inv X pins σ H s) (hl : σ'.length = σ.length) (w : ∀ (i : Nat) v, σ'[i]? = some (some v) → σ[i]? = some (some v)) : Inv X pins σ' H s :=
 ⟨I.ok, I.os, I.bare, I.base, let ⟨m, hn, hl'⟩ := I.loc; ⟨m, hn, fun i x v e1 e2 e3 => hl' i x v e1 (w i v e2) e3⟩, I.cell, I.free, I.freeC, I.pin, I.hok, hl.trans I.len⟩
theorem Inv.pins_of {pins' : List (Addr × Obj)} (I : Inv X pins σ H s) (h : ∀ p ∈ pins', s.heap.get? p.1 = some p.2 ∧ H p.1 = none ∧ p.1 ≠ X.env.locals ∧ p.1 ∉ X.fs ∧ ∀ v, p.2.data ≠ .cell v) : Inv X pins' σ H s :=
 ⟨I.ok, I.os, I.bare, I.base, I.loc, I.cell, I.free, I.freeC, fun p hp => (List.mem_append.mp hp).elim (fun z => I.pin p (List.mem_append_left _ z)) (h p), I.hok, I.len⟩
theorem nodup_ix {N : List Str} (hN : N.Nodup) {i j : Nat} {x : Str} (a : N[i]? = some x) (b : N[j]? = some x) : i = j := by
 obtain ⟨h1, e1⟩ := List.getElem?_eq_some_iff.mp a
 obtain ⟨h2, e2⟩ := List.getElem?_eq_some_iff.mp b
 exact (List.getElem_inj hN).mp (e1.trans e2.symm)
theorem store_ok2 {M : Model} {A : Around} {E : Value → Shared → Prop} {i : Nat} {x : Str} {v : V} {u : Value} {Q : Unit → Shared → Prop} (I : Inv X pins σ H s) (hN : X.N.Nodup) (hi : X.N[i]? = some x) (hx : Loc X.env.scope x) (r : RelV v u)
   (h : ∀ s', Inv X pins (σ.set i (some v)) H s' → (∃ a, Heap.SameBut a s.heap s'.heap ∧ (a = X.env.locals ∨ X.env.cells.lookup x = some a)) → Q () s') (hf : X.fn x = true ∨ X.env.scope.names.lookup x = some .local := by first | exact .inl rfl | exact .inr rfl | assumption) : wpAny M A (storeName X.env x u) Q E s := by
 obtain ⟨m, hn, hl⟩ := id I.loc
 have hcls : (X.env.scope.kind == .class || (X.env.scope.kind == .module && X.env.locals != X.env.globals)) = false := by rw [I.ok.kind]; rfl
 have hiσ : i < σ.length := by rw [I.len]; exact (List.getElem?_eq_some_iff.mp hi).1
 have cne := I.cne
 have tracked : ∀ {a : Addr} {h' : Heap}, (∃ o, s.heap.get? a = some o ∧ H a = none) → Heap.SameBut a s.heap h' → HOk X.prog X.w H h' := fun {a h'} ha hs b ob e => by
   obtain ⟨_, _, hfree⟩ := ha
   refine (I.hok b ob e).stay (fun c w' hc q => (hs.2 c ?_).trans q) (fun _ q => q) fun _ _ q => q
   rintro rfl
   rcases hc with rfl | hc
   · rw [hfree] at e; cases e
   · rw [hfree] at hc; cases hc
 rcases hx with hk | hk
 · refine wpAny_storeName_local hk hn (fun h' hn' hs => ?_) hcls
   obtain ⟨oL, _, _, hoL, _⟩ := id hn
   refine h _ ⟨I.ok, I.os, I.bare, ⟨fun b o e n hb hx => ?_, fun b o e n hb hx => ?_, I.base.free, fun b o e hx => ?_, I.base.tups, I.base.frzs, I.base.tbls⟩, ⟨_, hn', fun j y v' e1 e2 e3 => ?_⟩, fun y c e => ?_, I.free, I.freeC, fun p hp => ?_, tracked ⟨oL, hoL, I.free⟩ hs, by simpa using I.len⟩ ⟨_, hs, .inl rfl⟩
   · exact (hs.2 b (Nat.ne_of_lt (Nat.lt_of_lt_of_le (Heap.lt_size e) I.ok.above))).trans (I.base.keep b o e n hb hx)
   · obtain ⟨sl, e1⟩ := I.base.slot b o e n hb hx
     exact ⟨sl, (hs.2 b (Nat.ne_of_lt (Nat.lt_of_lt_of_le (Heap.lt_size e) I.ok.above))).trans e1⟩
   · obtain ⟨o', e1⟩ := I.base.there b o e hx
     exact ⟨o', (hs.2 b (Nat.ne_of_lt (Nat.lt_of_lt_of_le (Heap.lt_size e) I.ok.above))).trans e1⟩
   · by_cases hj : j = i
     · subst hj
       rw [hi] at e1; cases e1
       rw [List.getElem?_set_self hiσ] at e2
       cases e2
       exact ⟨u, r, .inl ⟨hk, by simp⟩⟩
     · rw [List.getElem?_set_ne (Ne.symm hj)] at e2
       obtain ⟨u', r', q⟩ := hl j y v' e1 e2 e3
       refine ⟨u', r', ?_⟩
       rcases q with ⟨k, e⟩ | ⟨k, c, e, z⟩
       · refine .inl ⟨k, ?_⟩
         have : y ≠ x := fun e => hj (nodup_ix hN e1 (e ▸ hi))
         simp [this, e]
       · exact .inr ⟨k, c, e, z.sameBut hs (cne y c e)⟩
   · obtain ⟨w', z⟩ := I.cell y c e
     exact ⟨w', z.sameBut hs (cne y c e)⟩
   · obtain ⟨e, n, ne, nf, d⟩ := I.pin p hp
     exact ⟨(hs.2 p.1 ne).trans e, n, ne, nf, d⟩
 · have hfn : X.fn x = true := by
     rcases hf with z | z
     · exact z
     · rw [z] at hk; cases hk
   obtain ⟨c, hc⟩ := I.ok.has x (.inl hk)
   obtain ⟨w', z⟩ := I.cell x c hc
   refine wpAny_storeName_cell I.ok.kind hk hc z (fun h' hc' hs => ?_)
   obtain ⟨oc, hoc, hocd⟩ := id z
   refine h { s with heap := h' } ⟨I.ok, I.os, I.bare, ⟨fun b o e n hb hx => ?_, fun b o e n hb hx => ?_, I.base.free, fun b o e hx => ?_, I.base.tups, I.base.frzs, I.base.tbls⟩, ⟨m, hn.sameBut hs (Ne.symm (cne x c hc)), fun j y v' e1 e2 e3 => ?_⟩, fun y c' e => ?_, I.free, I.freeC, fun p hp => ?_, tracked ⟨oc, hoc, I.freeC x c hc⟩ hs, by simpa using I.len⟩ ⟨c, hs, .inr hc⟩
   · exact (hs.2 b (Nat.ne_of_lt (Nat.lt_of_lt_of_le (Heap.lt_size e) (I.ok.cab x c hfn hc)))).trans (I.base.keep b o e n hb hx)
   · obtain ⟨sl, e1⟩ := I.base.slot b o e n hb hx
     exact ⟨sl, (hs.2 b (Nat.ne_of_lt (Nat.lt_of_lt_of_le (Heap.lt_size e) (I.ok.cab x c hfn hc)))).trans e1⟩
   · obtain ⟨o', e1⟩ := I.base.there b o e hx
     exact ⟨o', (hs.2 b (Nat.ne_of_lt (Nat.lt_of_lt_of_le (Heap.lt_size e) (I.ok.cab x c hfn hc)))).trans e1⟩
   · by_cases hj : j = i
     · subst hj
       rw [hi] at e1; cases e1
       rw [List.getElem?_set_self hiσ] at e2
       cases e2
       exact ⟨u, r, .inr ⟨.inl hk, c, hc, hc'⟩⟩
     · rw [List.getElem?_set_ne (Ne.symm hj)] at e2
       obtain ⟨u', r', q⟩ := hl j y v' e1 e2 e3
       refine ⟨u', r', ?_⟩
       rcases q with q | ⟨k, c', e, z'⟩
       · exact .inl q
       · refine .inr ⟨k, c', e, z'.sameBut hs ?_⟩
         rintro rfl
         exact hj (nodup_ix hN e1 (I.ok.inj _ _ _ e hc ▸ hi))
   · by_cases hcc : c' = c
     · subst hcc; exact ⟨_, hc'⟩
     · obtain ⟨w2, z2⟩ := I.cell y c' e
       exact ⟨w2, z2.sameBut hs hcc⟩
   · obtain ⟨e, n, ne, nf, d⟩ := I.pin p hp
     refine ⟨(hs.2 p.1 ?_).trans e, n, ne, nf, d⟩
     intro q
     rw [q, hoc] at e
     have q' : oc = p.2 := Option.some.inj e
     exact d w' (by rw [← q']; exact hocd)
theorem store_ok {M : Model} {A : Around} {E : Value → Shared → Prop} {i : Nat} {x : Str} {v : V} {u : Value} {Q : Unit → Shared → Prop} (I : Inv X pins σ H s) (hN : X.N.Nodup) (hi : X.N[i]? = some x) (hx : Loc X.env.scope x) (r : RelV v u)
   (h : ∀ s', Inv X pins (σ.set i (some v)) H s' → Q () s') (hf : X.fn x = true ∨ X.env.scope.names.lookup x = some .local := by first | exact .inl rfl | exact .inr rfl | assumption) : wpAny M A (storeName X.env x u) Q E s :=
 store_ok2 I hN hi hx r (fun s' I' _ => h s' I') hf
theorem Inv.call' {s' : Shared} {ch : List Addr} (I : Inv X pins σ H s) (ho : s'.os = s.os) (u : Un (frs X.stack) ch H H' s.heap s'.heap) (hok : HOk X.prog X.w H' s'.heap) (hg : AllBare s'.gens)
   (hch : ∀ b ∈ ch, (b ∈ X.ex ∨ X.s₀.heap.objs.size ≤ b) ∧ b ≠ X.env.locals ∧ (∀ x c, X.env.cells.lookup x = some c → c ≠ b) ∧ ∀ p ∈ X.pn ++ pins, p.1 ≠ b) : Inv X pins σ H' s' := by
 obtain ⟨h', g', d', t', o'⟩ := s'
 have e : o' = s.os := ho
 subst e
 exact I.call (g' := g') (t' := t') (d' := d') u hok hg hch
end
abbrev XK := Value → Option Addr → Hp → Prop
abbrev St := List (Option V)
abbrev VK := V → Hp → Prop
abbrev TE := St → Hp → VK → Prop
abbrev TT := St → Hp → (Bool → Hp → Prop) → Prop
abbrev TA := St → Hp → (List V → Hp → Prop) → Prop
structure Ends where
 nx : St → Hp → Prop
 rt : VK
 bk : St → Hp → Prop := fun _ _ => False
 ct : St → Hp → Prop := fun _ _ => False
abbrev TS := Ends → St → Hp → Prop
def EP (X : Cx) (pins : List (Addr × Obj)) (σ : St) (Q : VK) (u : Value) (s' : Shared) : Prop := ∃ v H', Inv X pins σ H' s' ∧ RelV v u ∧ Q v H'
def TP (X : Cx) (pins : List (Addr × Obj)) (σ : St) (Q : Bool → Hp → Prop) (b : Bool) (s' : Shared) : Prop := ∃ H', Inv X pins σ H' s' ∧ Q b H'
def AP (X : Cx) (pins : List (Addr × Obj)) (σ : St) (Q : List V → Hp → Prop) (us : List Value) (s' : Shared) : Prop := ∃ vs H', Inv X pins σ H' s' ∧ Vals vs us ∧ Q vs H'
def SP (X : Cx) (pins : List (Addr × Obj)) (D : Ends) (f : Flow) (s' : Shared) : Prop :=
 match f with
 | .next => ∃ σ' H', Inv X pins σ' H' s' ∧ D.nx σ' H'
 | .brk => ∃ σ' H', Inv X pins σ' H' s' ∧ D.bk σ' H'
 | .cont => ∃ σ' H', Inv X pins σ' H' s' ∧ D.ct σ' H'
 | .ret u => ∃ v σ' H', Inv X pins σ' H' s' ∧ RelV v u ∧ D.rt v H'
def PE (X : Cx) (e : Expr) (t : TE) : Prop :=
 ∀ (pins : List (Addr × Obj)) (s : Shared) (σ : St) (H : Hp) (Q : VK), Inv X pins σ H s → t σ H Q → wpAny (model X.prog X.w) X.A (eval e X.env) (EP X pins σ Q) X.xe s
def PT (X : Cx) (e : Expr) (t : TT) : Prop :=
 ∀ (pins : List (Addr × Obj)) (s : Shared) (σ : St) (H : Hp) (Q : Bool → Hp → Prop), Inv X pins σ H s → t σ H Q → wpAny (model X.prog X.w) X.A (isTrue e X.env (eval e X.env)) (TP X pins σ Q) X.xe s
def PW (X : Cx) (e : Expr) (t : TT) : Prop :=
 ∀ (whole : Sem Value) (pins : List (Addr × Obj)) (s : Shared) (σ : St) (H : Hp) (Q : Bool → Hp → Prop), Inv X pins σ H s → t σ H Q → wpAny (model X.prog X.w) X.A (isTrue e X.env whole) (TP X pins σ Q) X.xe s
theorem PW.pt {X : Cx} {e : Expr} {t : TT} (h : PW X e t) : PT X e t := h _
def PA (X : Cx) (es : List Expr) (t : TA) : Prop :=
 ∀ (pos : Pos) (pins : List (Addr × Obj)) (s : Shared) (σ : St) (H : Hp) (Q : List V → Hp → Prop), Inv X pins σ H s → t σ H Q → wpAny (model X.prog X.w) X.A (spliced (backTo pos (starEach es X.env))) (AP X pins σ Q) X.xe s
def PS (X : Cx) (st : Stmt) (t : TS) : Prop :=
 ∀ (pins : List (Addr × Obj)) (s : Shared) (σ : St) (H : Hp) (D : Ends), Inv X pins σ H s → t D σ H → wpAny (model X.prog X.w) X.A (exec st X.env) (SP X pins D) X.xe s
def PSs (X : Cx) (st : List Stmt) (t : TS) : Prop :=
 ∀ (pins : List (Addr × Obj)) (s : Shared) (σ : St) (H : Hp) (D : Ends), Inv X pins σ H s → t D σ H → wpAny (model X.prog X.w) X.A (execs st X.env) (SP X pins D) X.xe s
theorem thn {α : Type} {t : Sem α} {Q Q' : α → Shared → Prop} {M : Model} {A : Around} {E : Value → Shared → Prop} {s : Shared} (h : wpAny M A t Q E s) (hQ : ∀ a s, Q a s → Q' a s) : wpAny M A t Q' E s := wpAny_mono h hQ fun _ _ x => x
end L2
namespace L2
open PySem PySem.Spec PyProof.Rows
section
variable {X : Cx}
def tVar (i : Nat) : TE := fun σ H Q => ∃ v, σ[i]? = some (some v) ∧ Q v H
def tC (v : V) : TE := fun _ H Q => Q v H
theorem pe_var {i : Nat} {x : Str} {pos : Pos} (hN : X.N[i]? = some x) (hv : Vis X.env.scope x) (hd : (x == ("__debug__" : Str)) = false := by decide) (hcd : (x == ("__classdict__" : Str)) = false := by decide) : PE X (.Name x pos) (tVar i) := by
 intro pins s σ H Q I h
 obtain ⟨v, e, h⟩ := h
 obtain ⟨m, hn, hl⟩ := I.loc
 obtain ⟨u, r, l⟩ := hl i x v hN e hv
 have fin : EP X pins σ Q u s := ⟨v, H, I, r, h⟩
 rcases l with ⟨hk, hm⟩ | ⟨hk, c, hc, hcell⟩
 · exact wpAny_Name (wpAny_loadName_local I.ok.kind hk hn hm fin) hd
 · rcases hk with hk | hk
   · exact wpAny_Name (wpAny_loadName_cell I.ok.kind hk hc hcell fin) hd
   · exact wpAny_Name (wpAny_loadName_free I.ok.kind hk hc hcell fin hcd) hd
theorem zD {i j pos} : PE X (.Constant (.int i) j pos) (tC (.int i)) := fun _ _ _ H _ I h => wpAny_Constant_int ⟨.int i, H, I.tok _, ⟨_, rfl⟩, h⟩
theorem pe_bl {b j pos} : PE X (.Constant (.bool b) j pos) (tC (.bl b)) := fun _ _ _ H _ I h => Constant_bool ⟨.bl b, H, I, rfl, h⟩
theorem pe_non {j pos} : PE X (.Constant .none j pos) (tC .non) := fun _ _ _ H _ I h => Constant_none ⟨.non, H, I, rfl, h⟩
theorem zG {x j pos} : PE X (.Constant (.str x) j pos) (tC (.str x)) := fun _ _ _ H _ I h => Calls.Constant_str ⟨.str x, H, I.tok _, ⟨_, rfl⟩, h⟩
def Gl (X : Cx) (x : Str) : Prop := X.env.kindOf x = some .globalImplicit
theorem ld_glob {E : Value → Shared → Prop} {pins : List (Addr × Obj)} {s : Shared} {σ : St} {H : Hp} {x : Str} {u : Value} {pos : Pos} {Q : Value → Shared → Prop} (I : Inv X pins σ H s) (hg : Gl X x) (hm : X.mg x = some u) (h : Q u s)
   (hd : (x == ("__debug__" : Str)) = false := by decide) : wpAny (model X.prog X.w) X.A (eval (.Name x pos) X.env) Q E s :=
 Calls.Name_function_global I.ok.kind hg (Calls.loadGlobal_global (by rw [I.ok.glob]; exact I.mod.glob.keeps I.bk) hm h) hd
theorem ld_blt {E : Value → Shared → Prop} {pins : List (Addr × Obj)} {s : Shared} {σ : St} {H : Hp} {x : Str} {u : Value} {pos : Pos} {Q : Value → Shared → Prop} (I : Inv X pins σ H s) (hg : Gl X x) (hm : X.mg x = none) (hv : bootBuiltins x = some u) (h : Q u s)
   (hn : x ≠ "__name__" := by decide) (hd : (x == ("__debug__" : Str)) = false := by decide) : wpAny (model X.prog X.w) X.A (eval (.Name x pos) X.env) Q E s := by
 obtain ⟨mb, h1, h2⟩ := I.mod.blt
 exact Calls.Name_function_global I.ok.kind hg (Calls.loadGlobal_builtin (by rw [I.ok.glob]; exact I.mod.glob.keeps I.bk) hm (by rw [I.ok.blt]; exact h1.keeps I.bk) ((h2 x hn).trans hv) h) hd
theorem pe_glob {x : Str} {v : V} {u : Value} {pos : Pos} (hg : Gl X x) (hm : X.mg x = some u) (r : RelV v u) (hd : (x == ("__debug__" : Str)) = false := by decide) : PE X (.Name x pos) (tC v) :=
 fun _ _ _ H _ I h => ld_glob I hg hm ⟨v, H, I, r, h⟩ hd
theorem pe_bltn {x : Str} {v : V} {u : Value} {pos : Pos} (hg : Gl X x) (hm : X.mg x = none) (hv : bootBuiltins x = some u) (r : RelV v u) (hn : x ≠ "__name__" := by decide) (hd : (x == ("__debug__" : Str)) = false := by decide) : PE X (.Name x pos) (tC v) :=
 fun _ _ _ H _ I h => ld_blt I hg hm hv ⟨v, H, I, r, h⟩ hn hd
variable {a b : Expr} {ta tb : TE} {pos : Pos}
def PC (X : Cx) (op : CmpOp) (a b : Expr) (t : TE) : Prop :=
 ∀ (pins : List (Addr × Obj)) (s : Shared) (σ : St) (H : Hp) (Q : VK), Inv X pins σ H s → t σ H Q →
   wpAny (model X.prog X.w) X.A (eval a X.env) (fun v s₁ => wpAny (model X.prog X.w) X.A (eval b X.env) (fun u s₂ => wpAny (model X.prog X.w) X.A (compareOp op v u) (EP X pins σ Q) X.xe s₂) X.xe s₁) X.xe s
def tB (t : TE) : TT := fun σ H Q => t σ H fun x H1 => ∃ c, x = .bl c ∧ Q c H1
theorem pt_val {e : Expr} {t : TE} (h : PE X e t) (he : ∀ whole, isTrue e X.env whole = (do let v ← whole; standAt e.pos; holding [v] (truthy v)) := by intro _; rfl) : PT X e (tB t) := by
 intro pins s σ H Q I hw
 refine isTrue_plain (thn (h pins s σ H _ I hw) fun v s1 ⟨x, H1, I1, r1, q1⟩ => ?_) (he _)
 obtain ⟨d, rfl, q⟩ := q1
 cases r1
 exact wpAny_truthy_bool ⟨H1, I1, q⟩
variable {tA tB' : TT} {rest : List Expr}
def tAnd (t u : TT) : TT := fun σ H Q => t σ H fun c H1 => if c = true then u σ H1 Q else Q false H1
def tOr (t u : TT) : TT := fun σ H Q => t σ H fun c H1 => if c = true then Q true H1 else u σ H1 Q
def tNot (t : TT) : TT := fun σ H Q => t σ H fun c H1 => Q (!c) H1
theorem pw_and1 (ha : PT X a tA) : PW X (.BoolOp .And [a] pos) tA := by
 intro wh pins s σ H Q I h
 refine isTrue_and (thn (ha pins s σ H Q I h) fun c s1 e => ?_)
 cases c with
 | true => exact isTrue_and_nil e
 | false => exact e
theorem pw_or1 (ha : PT X a tA) : PW X (.BoolOp .Or [a] pos) tA := by
 intro wh pins s σ H Q I h
 refine isTrue_or (thn (ha pins s σ H Q I h) fun c s1 e => ?_)
 cases c with
 | false => exact isTrue_or_nil e
 | true => exact e
theorem pw_and (ha : PT X a tA) (hb : PW X (.BoolOp .And (b :: rest) pos) tB') : PW X (.BoolOp .And (a :: b :: rest) pos) (tAnd tA tB') := by
 intro wh pins s σ H Q I h
 refine isTrue_and (thn (ha pins s σ H _ I h) fun c s1 ⟨H1, I1, q1⟩ => ?_)
 cases c with
 | true => exact hb wh pins s1 σ H1 Q I1 q1
 | false => exact ⟨H1, I1, q1⟩
theorem pw_or (ha : PT X a tA) (hb : PW X (.BoolOp .Or (b :: rest) pos) tB') : PW X (.BoolOp .Or (a :: b :: rest) pos) (tOr tA tB') := by
 intro wh pins s σ H Q I h
 refine isTrue_or (thn (ha pins s σ H _ I h) fun c s1 ⟨H1, I1, q1⟩ => ?_)
 cases c with
 | true => exact ⟨H1, I1, q1⟩
 | false => exact hb wh pins s1 σ H1 Q I1 q1
theorem pt_not (ha : PT X a tA) : PT X (.UnaryOp .Not a pos) (tNot tA) := by
 intro pins s σ H Q I h
 exact isTrue_not (ha pins s σ H (fun c H1 => Q (!c) H1) I h)
def tAndV (ta tb : TE) : TE := fun σ H Q => ta σ H fun x H1 => ∃ c, x = .bl c ∧ if c = true then tb σ H1 Q else Q (.bl false) H1
def tNotV (ta : TE) : TE := fun σ H Q => ta σ H fun x H1 => ∃ c, x = .bl c ∧ Q (.bl (!c)) H1
theorem pe_one {op} {t : TE} (h : PE X a t) : PE X (.BoolOp op [a] pos) t := fun pins s σ H Q I hw => BoolOp_one (h pins s σ H Q I hw)
theorem pe_and (ha : PE X a ta) (hb : PE X (.BoolOp .And (b :: rest) pos) tb) : PE X (.BoolOp .And (a :: b :: rest) pos) (tAndV ta tb) := by
 intro pins s σ H Q I h
 refine BoolOp_and (thn (ha pins s σ H _ I h) fun v s1 ⟨x, H1, I1, r1, q1⟩ => ?_)
 obtain ⟨c, rfl, q1⟩ := q1
 cases r1
 refine wpAny_truthy_bool ?_
 cases c with
 | true => exact hb pins s1 σ H1 Q I1 q1
 | false => exact ⟨.bl false, H1, I1, rfl, q1⟩
theorem pe_not (ha : PE X a ta) : PE X (.UnaryOp .Not a pos) (tNotV ta) := by
 intro pins s σ H Q I h
 refine UnaryOp_ (thn (ha pins s σ H _ I h) fun v s1 ⟨x, H1, I1, r1, q1⟩ => ?_)
 obtain ⟨c, rfl, q1⟩ := q1
 cases r1
 exact not_of (wpAny_truthy_bool ⟨.bl (!c), H1, I1, rfl, q1⟩)
def tIf (t : TT) (ta tb : TE) : TE := fun σ H Q => t σ H fun c H1 => if c = true then ta σ H1 Q else tb σ H1 Q
theorem pe_ifExp {c : Expr} (hc : PT X c tA) (ha : PE X a ta) (hb : PE X b tb) : PE X (.IfExp c a b pos) (tIf tA ta tb) := by
 intro pins s σ H Q I h
 refine wpAny_IfExp (thn (hc pins s σ H _ I h) fun d s1 ⟨H1, I1, q1⟩ => ?_)
 cases d with
 | true => exact ha pins s1 σ H1 Q I1 q1
 | false => exact hb pins s1 σ H1 Q I1 q1
end
end L2
namespace L2
open PySem PySem.Spec PyProof.Rows
def SqL (K : PySem.W.Frag) (H : Hp) (a : Addr) (xs : List V) : Prop :=
 Rd H a (.lst xs) ∨
   ∃ (o : Obj) (its : Array Value) (n : Nat), K.lookup a = some o ∧ o.cls = .type "list" ∧ o.dict = none ∧ o.data = .seq its n ∧ its.size ≤ sizeLine ∧ Vals xs its.toList
def SqT (K : PySem.W.Frag) (H : Hp) (a : Addr) (xs : List V) : Prop :=
 Rd H a (.tup xs) ∨
   ∃ (o : Obj) (its : Array Value) (n : Nat), K.lookup a = some o ∧ o.cls = .type "tuple" ∧ o.data = .seq its n ∧ its.size ≤ sizeLine ∧ Vals xs its.toList
def absV : Value → Option V
 | .none => some .non
 | .bool b => some (.bl b)
 | .int i _ => some (.int i)
 | .str x _ => some (.str x)
 | .bytes b _ => some (.byt b)
 | .float b _ => some (.flt b)
 | .ref a => some (.ref a)
 | .type n => some (.ty n)
 | _ => none
theorem RelV.abs {x : V} {u : Value} (r : RelV x u) : absV u = some x := by
 cases x with
 | non => cases r; rfl
 | bl _ => cases r; rfl
 | int _ => obtain ⟨t, rfl⟩ := r; rfl
 | str _ => obtain ⟨t, rfl⟩ := r; rfl
 | byt _ => obtain ⟨t, rfl⟩ := r; rfl
 | flt _ => obtain ⟨t, rfl⟩ := r; rfl
 | ref _ => cases r; rfl
 | ty _ => cases r; rfl
theorem RelV.inj {x y : V} {u : Value} (r : RelV x u) (q : RelV y u) : x = y := Option.some.inj (r.abs.symm.trans q.abs)
theorem Vals.inj : ∀ {xs ys : List V} {us : List Value}, Vals xs us → Vals ys us → xs = ys
 | _, _, _, .nil, .nil => rfl
 | _, _, _, .cons r t, .cons r' t' => by rw [r.inj r', Vals.inj t t']
section
variable {X : Cx} {pins : List (Addr × Obj)} {σ : St} {H : Hp} {s : Shared} {a : Addr} {xs ys : List V}
theorem SqL.of {K : PySem.W.Frag} (h : H a = some (.lst xs)) : SqL K H a xs := .inl (.inl h)
theorem SqT.of {K : PySem.W.Frag} (h : H a = some (.tup xs)) : SqT K H a xs := .inl (.inl h)
theorem Inv.list (I : Inv X pins σ H s) (h : SqL X.K H a xs) : ∃ its : List Value, Vals xs its ∧ PlainL s.heap a its.toArray ∧ xs.length ≤ sizeLine := by
 rcases h with h | ⟨o, its, n, hk, hc, hd, hs, hz, r⟩
 · obtain ⟨z, its, n, r, e⟩ := h.ok I.hok
   exact ⟨its, r, ⟨_, n, e, rfl, rfl, rfl⟩, z⟩
 · refine ⟨its.toList, r, ⟨o, n, I.kIn a o hk, hc, hd, by simpa using hs⟩, ?_⟩
   have e := r.length
   simp only [Array.length_toList] at e
   omega
theorem Inv.tuple (I : Inv X pins σ H s) (h : SqT X.K H a xs) : ∃ its : List Value, Vals xs its ∧ IsTup s.heap a its.toArray ∧ xs.length ≤ sizeLine := by
 rcases h with h | ⟨o, its, n, hk, hc, hs, hz, r⟩
 · obtain ⟨z, its, r, p⟩ := h.ok I.hok
   exact ⟨its, r, p, z⟩
 · refine ⟨its.toList, r, ⟨o, I.kIn a o hk, hc, n, by simpa using hs⟩, ?_⟩
   have e := r.length
   simp only [Array.length_toList] at e
   omega
theorem Inv.list_inj (I : Inv X pins σ H s) (h : SqL X.K H a xs) (h' : SqL X.K H a ys) : xs = ys := by
 obtain ⟨its, r, ⟨o, n, e, _, _, d⟩, _⟩ := I.list h
 obtain ⟨its', r', ⟨o', n', e', _, _, d'⟩, _⟩ := I.list h'
 rw [e] at e'; cases e'
 rw [d] at d'
 injection d' with d1 _
 have : its = its' := by simpa using congrArg Array.toList d1
 subst this
 exact r.inj r'
theorem Inv.tuple_inj (I : Inv X pins σ H s) (h : SqT X.K H a xs) (h' : SqT X.K H a ys) : xs = ys := by
 obtain ⟨its, r, ⟨o, e, _, n, d⟩, _⟩ := I.tuple h
 obtain ⟨its', r', ⟨o', e', _, n', d'⟩, _⟩ := I.tuple h'
 rw [e] at e'; cases e'
 rw [d] at d'
 injection d' with d1 _
 have : its = its' := by simpa using congrArg Array.toList d1
 subst this
 exact r.inj r'
end
abbrev Cx.wish (X : Cx) (E : Value → Shared → Prop) : Cx := { X with xe := E }
abbrev Cx.nox (X : Cx) : Cx := X.wish fun _ _ => False
theorem Cx.Ok.wish {X : Cx} (ok : X.Ok) (E : Value → Shared → Prop) : (X.wish E).Ok :=
 ⟨ok.mod, ok.kind, ok.glob, ok.blt, ok.above, ok.inj, ok.has, ok.cab, ok.hd, ok.frames, ok.stk, ok.exf, ok.bs, ok.bsz, ok.noex, ok.exfs, ok.funs, ok.frf⟩
theorem Cx.Ok.unwish {X : Cx} {E : Value → Shared → Prop} (ok : (X.wish E).Ok) : X.Ok :=
 ⟨ok.mod, ok.kind, ok.glob, ok.blt, ok.above, ok.inj, ok.has, ok.cab, ok.hd, ok.frames, ok.stk, ok.exf, ok.bs, ok.bsz, ok.noex, ok.exfs, ok.funs, ok.frf⟩
section
variable {X : Cx} {pins : List (Addr × Obj)} {σ : St} {H : Hp} {s : Shared} {E : Value → Shared → Prop}
theorem Inv.wish (I : Inv X pins σ H s) (E : Value → Shared → Prop) : Inv (X.wish E) pins σ H s := ⟨I.ok.wish E, I.os, I.bare, I.base, I.loc, I.cell, I.free, I.freeC, I.pin, I.hok, I.len⟩
theorem Inv.unwish (I : Inv (X.wish E) pins σ H s) : Inv X pins σ H s := ⟨I.ok.unwish, I.os, I.bare, I.base, I.loc, I.cell, I.free, I.freeC, I.pin, I.hok, I.len⟩
theorem SP.unwish {D : Ends} {f : Flow} {s' : Shared} (h : SP (X.wish E) pins D f s') : SP X pins D f s' := by
 cases f with
 | next => obtain ⟨σ', H', I, q⟩ := h; exact ⟨σ', H', I.unwish, q⟩
 | brk => obtain ⟨σ', H', I, q⟩ := h; exact ⟨σ', H', I.unwish, q⟩
 | cont => obtain ⟨σ', H', I, q⟩ := h; exact ⟨σ', H', I.unwish, q⟩
 | ret u => obtain ⟨v, σ', H', I, r, q⟩ := h; exact ⟨v, σ', H', I.unwish, r, q⟩
theorem PE.nox {e : Expr} {t : TE} (h : PE X.nox e t) : PE X e t := fun pins s σ H Q I hw =>
 wpAny_mono (h pins s σ H Q (I.wish _) hw) (fun _ _ ⟨v, H', I', r, q⟩ => ⟨v, H', I'.unwish, r, q⟩) fun _ _ z => False.elim z
theorem PT.nox {e : Expr} {t : TT} (h : PT X.nox e t) : PT X e t := fun pins s σ H Q I hw =>
 wpAny_mono (h pins s σ H Q (I.wish _) hw) (fun _ _ ⟨H', I', q⟩ => ⟨H', I'.unwish, q⟩) fun _ _ z => False.elim z
theorem PSs.nox {st : List Stmt} {t : TS} (h : PSs X.nox st t) : PSs X st t := fun pins s σ H D I hw =>
 wpAny_mono (h pins s σ H D (I.wish _) hw) (fun _ _ q => q.unwish) fun _ _ z => False.elim z
end
section
variable {X : Cx} {st : Stmt} {rest : List Stmt} {t u : TS} {e : Expr} {te : TE} {pos : Pos}
def tNext : TS := fun D σ H => D.nx σ H
def tSeq (t u : TS) : TS := fun D σ H => t { D with nx := u D } σ H
theorem pss_nil : PSs X [] tNext := fun _ _ σ H _ I h => wpAny_execs_nil ⟨σ, H, I, h⟩
theorem zF (h1 : PS X st t) (h2 : PSs X rest u) : PSs X (st :: rest) (tSeq t u) := by
 intro pins s σ H D I h
 refine wpAny_execs_cons (thn (h1 pins s σ H { D with nx := u D } I h) fun f s1 q => ?_)
 cases f with
 | next =>
   obtain ⟨σ', H', I', q⟩ := q
   exact h2 pins s1 σ' H' D I' q
 | ret v => exact q
 | brk => exact q
 | cont => exact q
theorem zC (h1 : PS X st t) : PSs X [st] t := by
 intro pins s σ H D I h
 refine wpAny_execs_cons (thn (h1 pins s σ H D I h) fun f s1 q => ?_)
 cases f with
 | next => exact wpAny_execs_nil q
 | ret v => exact q
 | brk => exact q
 | cont => exact q
theorem Inv.quiet {pins : List (Addr × Obj)} {σ : St} {H : Hp} {s : Shared} (I : Inv X pins σ H s) : interactive X.env = false := by simp [interactive, I.ok.kind]
def tDrop (te : TE) : TS := fun D σ H => te σ H fun _ H1 => D.nx σ H1
theorem ps_expr (he : PE X e te) (hs : swapsWith e none pos.line X.env = pure false := by rfl) : PS X (.Expr e pos) (tDrop te) := by
 intro pins s σ H D I h
 exact wpAny_Expr_any (thn (he pins s σ H _ I h) fun v s1 ⟨x, H1, I1, r1, q1⟩ => ⟨σ, H1, I1, q1⟩) I.quiet hs
def tRet (te : TE) : TS := fun D σ H => te σ H D.rt
theorem zH (he : PE X e te) : PS X (.Return (some e) pos) (tRet te) := by
 intro pins s σ H D I h
 exact wpAny_Return_some (thn (he pins s σ H _ I h) fun v s1 ⟨x, H1, I1, r1, q1⟩ => ⟨x, σ, H1, I1, r1, q1⟩)
def tIfS (c : TT) (t u : TS) : TS := fun D σ H => c σ H fun b H1 => if b = true then t D σ H1 else u D σ H1
theorem ps_if {c : Expr} {a b : List Stmt} {tc : TT} (hc : PT X c tc) (ha : PSs X a t) (hb : PSs X b u) : PS X (.If c a b pos) (tIfS tc t u) := by
 intro pins s σ H D I h
 refine wpAny_If (thn (hc pins s σ H _ I h) fun d s1 ⟨H1, I1, q1⟩ => ?_)
 cases d with
 | true => exact ha pins s1 σ H1 D I1 q1
 | false => exact hb pins s1 σ H1 D I1 q1
end
abbrev TG := V → St → Hp → (St → Hp → Prop) → Prop
abbrev TGs := List V → St → Hp → (St → Hp → Prop) → Prop
def PG (X : Cx) (target : Expr) (t : TG) : Prop :=
 ∀ (pins : List (Addr × Obj)) (s : Shared) (σ : St) (H : Hp) (v : V) (u : Value) (Q : St → Hp → Prop), Inv X pins σ H s → RelV v u → t v σ H Q →
   wpAny (model X.prog X.w) X.A (assign target X.env u) (fun _ s' => ∃ σ' H', Inv X pins σ' H' s' ∧ Q σ' H') X.xe s
def PGs (X : Cx) (ts : List Expr) (t : TGs) : Prop :=
 ∀ (pins : List (Addr × Obj)) (s : Shared) (σ : St) (H : Hp) (vs : List V) (us : List Value) (Q : St → Hp → Prop), Inv X pins σ H s → Vals vs us → t vs σ H Q →
   wpAny (model X.prog X.w) X.A (assignInOrder ((assignEach ts X.env).map (·.2)) us) (fun _ s' => ∃ σ' H', Inv X pins σ' H' s' ∧ Q σ' H') X.xe s
abbrev TSet := V → V → V → Hp → (Hp → Prop) → Prop
def PSet (X : Cx) (t : TSet) : Prop :=
 ∀ (pins : List (Addr × Obj)) (s : Shared) (σ : St) (H : Hp) (o i v : V) (ov iv u : Value) (Q : Hp → Prop), Inv X pins σ H s → RelV o ov → RelV i iv → RelV v u → t o i v H Q →
   wpAny (model X.prog X.w) X.A (setItem ov iv u) (fun _ s' => ∃ H', Inv X pins σ H' s' ∧ Q H') X.xe s
section
variable {X : Cx} {pos : Pos}
def gName (i : Nat) : TG := fun v σ H Q => Q (σ.set i (some v)) H
theorem pg_name {i : Nat} {x : Str} (hN : X.N.Nodup) (hi : X.N[i]? = some x) (hx : Loc X.env.scope x) (hf : X.fn x = true ∨ X.env.scope.names.lookup x = some .local := by first | exact .inl rfl | exact .inr rfl | assumption) : PG X (.Name x pos) (gName i) := by
 intro pins s σ H v u Q I r h
 exact wpAny_assign_Name (store_ok I hN hi hx r (fun s' I' => ⟨_, H, I', h⟩) hf)
def gNil : TGs := fun vs σ H Q => vs = [] ∧ Q σ H
def gCons (t : TG) (u : TGs) : TGs := fun vs σ H Q => ∃ v r, vs = v :: r ∧ t v σ H fun σ' H' => u r σ' H' Q
theorem pgs_nil : PGs X [] gNil := by
 intro pins s σ H vs us Q I r h
 obtain ⟨e, h⟩ := h
 subst e
 cases r
 exact assignInOrder_nil ⟨σ, H, I, h⟩
theorem pgs_cons {e : Expr} {es : List Expr} {t : TG} {u : TGs} (h1 : PG X e t) (h2 : PGs X es u)
   (hs : (assignEach (e :: es) X.env).map (·.2) = assign e X.env :: (assignEach es X.env).map (·.2) := by rfl) : PGs X (e :: es) (gCons t u) := by
 intro pins s σ H vs us Q I r h
 obtain ⟨v, vr, e1, h⟩ := h
 subst e1
 cases r with
 | cons r rr =>
   rw [hs]
   refine assignInOrder_cons (thn (h1 pins s σ H _ _ _ I r h) fun _ s1 ⟨σ1, H1, I1, q1⟩ => ?_)
   exact h2 pins s1 σ1 H1 _ _ Q I1 rr q1
def gTup (K : PySem.W.Frag) (n : Nat) (t : TGs) : TG := fun v σ H Q => ∃ a xs, v = .ref a ∧ SqT K H a xs ∧ xs.length = n ∧ t xs σ H Q
theorem pg_tup {es : List Expr} {k : Nat} {t : TGs} {n : Nat} (hc : X.calm = true) (h : PGs X es t)
   (hn : (assignEach es X.env).length = n := by rfl) (hst : (assignEach es X.env).findIdx? (·.1) = none := by rfl) : PG X (.Tuple es k pos) (gTup X.K n t) := by
 intro pins s σ H v u Q I r hw
 obtain ⟨a, xs, e1, hq, hl, hw⟩ := hw
 subst e1
 cases r
 obtain ⟨its, rv, ht, hz⟩ := I.tuple hq
 refine assign_Tuple_tuple (I.ok.hd hc) ht (by simp [hn, ← hl, rv.length]) hst fun h' hx => ?_
 have I1 : Inv X pins σ H { s with heap := h' } := I.kept (t' := s.toks) fun b o e => hx b o (Nat.ne_of_lt (Heap.lt_size e)) e
 exact h pins _ σ H xs _ Q I1 (by simpa using rv) hw
def gSub (to ti : TE) (t : TSet) : TG := fun v σ H Q => to σ H fun o H1 => ti σ H1 fun i H2 => t o i v H2 fun H3 => Q σ H3
theorem pg_sub {o i : Expr} {to ti : TE} {t : TSet} (ho : PE X o to) (hi : PE X i ti) (hs : PSet X t)
   (ha : ∀ v, assign (.Subscript o i pos) X.env v = (do
     let ov ← holding [v] (eval o X.env)
     let iv ← holding [v, ov] (eval i X.env)
     standAt pos
     holding [v, ov, iv] (setItem ov iv v)
     release [v, ov, iv] []) := by intro _; rfl) : PG X (.Subscript o i pos) (gSub to ti t) := by
 intro pins s σ H v u Q I r h
 rw [ha]
 refine wpAny_bind (wpAny_holding (thn (ho pins s σ H _ I h) fun ov s1 ⟨x, H1, I1, r1, q1⟩ => ?_))
 refine wpAny_bind (wpAny_holding (thn (hi pins s1 σ H1 _ I1 q1) fun iv s2 ⟨y, H2, I2, r2, q2⟩ => ?_))
 refine wpAny_bind (wpAny_standAt (wpAny_bind (wpAny_holding (thn (hs pins s2 σ H2 x y v ov iv u _ I2 r1 r2 r q2) fun _ s3 ⟨H3, I3, q3⟩ => ?_))))
 exact wpAny_release ⟨σ, H3, I3, q3⟩
def tAsg (te : TE) (g : TG) : TS := fun D σ H => te σ H fun x H1 => g x σ H1 D.nx
theorem ps_asg {tg e : Expr} {te : TE} {g : TG} (he : PE X e te) (hg : PG X tg g) (hs : swapsWithSole [tg] e pos.line X.env = pure false := by rfl) (hw : swappedStores [tg] e X.env = pure none := by rfl)
   (h1 : (assignEach [tg] X.env).map (·.2) = [assign tg X.env] := by rfl) : PS X (.Assign [tg] e pos) (tAsg te g) := by
 intro pins s σ H D I h
 refine wpAny_Assign_stores (thn (he pins s σ H _ I h) fun v s1 ⟨x, H1, I1, r1, q1⟩ => ?_) hs hw
 rw [h1]
 exact thn (hg pins s1 σ H1 x v _ I1 r1 q1) fun _ s2 q => q
theorem ps_set {i : Nat} {x : Str} {e : Expr} {te : TE} {pos' : Pos} (hN : X.N.Nodup) (hi : X.N[i]? = some x) (hx : Loc X.env.scope x) (he : PE X e te) (hs : swapsWith e (some (.Name x pos')) pos.line X.env = pure false := by rfl) (hf : X.fn x = true ∨ X.env.scope.names.lookup x = some .local := by first | exact .inl rfl | exact .inr rfl | assumption) :
   PS X (.Assign [.Name x pos'] e pos) (tAsg te (gName i)) := by
 intro pins s σ H D I h
 refine wpAny_Assign_Name (thn (he pins s σ H _ I h) fun v s1 ⟨y, H1, I1, r1, q1⟩ => ?_) hs
 exact store_ok I1 hN hi hx r1 (fun s2 I2 => ⟨_, H1, I2, q1⟩) hf
end
section
variable {X : Cx} {pos : Pos}
def tWhile (c : TT) (tb : TS) : TS := fun D σ H => ∃ W : Nat → St → Hp → Prop, (∃ m, W m σ H) ∧ ∀ m σ H, W m σ H →
 c σ H fun b H1 => if b = true then ∃ N : St → Hp → Prop, (∀ σ' H', N σ' H' → ∃ m', m' < m ∧ W m' σ' H') ∧ tb { D with nx := N, ct := N, bk := D.nx } σ H1 else D.nx σ H1
theorem ps_while {c : Expr} {body : List Stmt} {tc : TT} {tb : TS} (hp : PassesOwn (model X.prog X.w) X.A X.env X.xe) (hc : PT X c tc) (hb : PSs X body tb) : PS X (.While c body [] pos) (tWhile tc tb) := by
 intro pins s σ H D I h
 obtain ⟨W, ⟨m0, w0⟩, turn⟩ := h
 refine wpAny_While (codeAny_whileLoop (fun n s' => ∃ σ' H', Inv X pins σ' H' s' ∧ W n σ' H') ?_ m0 ⟨σ, H, I, w0⟩)
 rintro n s1 ⟨σ1, H1, I1, w1⟩
 refine wpAny_passesOwn hp (thn (hc pins s1 σ1 H1 _ I1 (turn n σ1 H1 w1)) fun b s2 ⟨H2, I2, q2⟩ => ?_)
 cases b with
 | true =>
   obtain ⟨N, hN, q2⟩ := q2
   rw [if_pos rfl]
   refine wpAny_passesOwn hp (thn (hb pins s2 σ1 H2 _ I2 q2) fun f s3 q3 => ?_)
   cases f with
   | next =>
     obtain ⟨σ3, H3, I3, n3⟩ := q3
     obtain ⟨m', hm, w3⟩ := hN σ3 H3 n3
     exact ⟨m', hm, σ3, H3, I3, w3⟩
   | cont =>
     obtain ⟨σ3, H3, I3, n3⟩ := q3
     obtain ⟨m', hm, w3⟩ := hN σ3 H3 n3
     exact ⟨m', hm, σ3, H3, I3, w3⟩
   | brk => exact q3
   | ret v => exact q3
 | false =>
   rw [if_neg Bool.false_ne_true]
   exact wpAny_execs_nil ⟨σ1, H2, I2, q2⟩
end
structure It where
 go : Nat → Hp → Prop
 yld : Nat → Hp → V → Hp → Prop
 stop : Nat → Hp → Prop
def FpOk (X : Cx) (pins : List (Addr × Obj)) (H : Hp) (b : Addr) : Prop :=
 H b = none ∧ b ≠ X.env.locals ∧ b ∉ X.fs ∧ (b ∈ X.ex ∨ X.s₀.heap.objs.size ≤ b) ∧ (∀ x c, X.env.cells.lookup x = some c → c ≠ b) ∧ ∀ p ∈ X.pn ++ pins, p.1 ≠ b
theorem Inv.fpOk {X : Cx} {pins : List (Addr × Obj)} {σ : St} {H H' : Hp} {s : Shared} {b : Addr} (I : Inv X pins σ H s) (hb : s.heap.objs.size ≤ b) (hn : H' b = none) : FpOk X pins H' b := by
 refine ⟨hn, Nat.ne_of_gt (Nat.lt_of_lt_of_le I.lt hb), I.nofs hb, .inr (Nat.le_trans I.sz hb), fun x c e z => ?_, fun p hp z => ?_⟩
 · obtain ⟨v, q⟩ := I.cell x c e
   exact absurd (Nat.lt_of_lt_of_le q.lt (by rw [z]; exact hb)) (Nat.lt_irrefl _)
 · exact absurd (Nat.lt_of_lt_of_le (Heap.lt_size (I.pin p hp).1) (by rw [z]; exact hb)) (Nat.lt_irrefl _)
structure Turn (P : Program) (w : World) (K : PySem.W.Frag) (tg : Expr) (J : It) (fp : List Addr) (it : Addr) (tn : Nat → Heap → Prop) : Prop where
 mem : it ∈ fp
 obj : ∀ i h, tn i h → ∀ b ∈ fp, ∃ o, h.get? b = some o ∧ ∀ v, o.data ≠ .cell v
 keep : ∀ i h h', tn i h → (∀ b ∈ fp, ∀ o, h.get? b = some o → h'.get? b = some o) → tn i h'
 item : ∀ (X : Cx), X.prog = P → X.w = w → X.K = K → X.calm = true → ∀ (i : Nat) (pins : List (Addr × Obj)) (s : Shared) (σ : St) (H : Hp) (E : Value → Shared → Prop), Inv X pins σ H s → (∀ b ∈ fp, FpOk X pins H b) → tn i s.heap → J.go i H →
   wpAny (model P w) X.A (pyNext (.ref it)) (fun r s1 => ∃ u, r = some u ∧
     wpAny (model P w) X.A (letOwnedTupleGo tg (.ref it) u) (fun _ s2 => ∃ x H', Inv X pins σ H' s2 ∧ RelV x u ∧ J.yld i H x H' ∧ tn (i + 1) s2.heap ∧ ∀ b ∈ fp, H' b = none) E s1) E s
 done : ∀ (X : Cx), X.prog = P → X.w = w → X.K = K → X.calm = true → ∀ (i : Nat) (pins : List (Addr × Obj)) (s : Shared) (σ : St) (H : Hp) (E : Value → Shared → Prop), Inv X pins σ H s → (∀ b ∈ fp, FpOk X pins H b) → tn i s.heap → J.stop i H →
   wpAny (model P w) X.A (pyNext (.ref it)) (fun r s1 => r = none ∧ Inv X pins σ H s1) E s
 self : ∀ (A : Around) (i : Nat) (s : Shared) (Q : Value → Shared → Prop) (E : Value → Shared → Prop), tn i s.heap → Q (.ref it) s → wpAny (model P w) A (pyIter (.ref it)) Q E s
abbrev TI := St → Hp → (It → Hp → Prop) → Prop
def PIE (X : Cx) (pins : List (Addr × Obj)) (σ : St) (tg : Expr) (R : It → Hp → Prop) (itv : Value) (s2 : Shared) : Prop :=
 ∃ (it : Addr) (fp : List Addr) (tn : Nat → Heap → Prop) (J : It) (H' : Hp), itv = .ref it ∧ Inv X pins σ H' s2 ∧ Turn X.prog X.w X.K tg J fp it tn ∧ tn 0 s2.heap ∧ (∀ b ∈ fp, FpOk X pins H' b) ∧ R J H'
def PI (X : Cx) (tg iter : Expr) (wi : TI) : Prop :=
 ∀ (pins : List (Addr × Obj)) (s : Shared) (σ : St) (H : Hp) (R : It → Hp → Prop), Inv X pins σ H s → wi σ H R →
   wpAny (model X.prog X.w) X.A (eval iter X.env) (fun v s1 => wpAny (model X.prog X.w) X.A (pyIter v) (PIE X pins σ tg R) X.xe s1) X.xe s
theorem go_of {M : Model} {A : Around} {E : Value → Shared → Prop} {s : Shared} {tg : Expr} {it : Addr} {u : Value} {o : Obj} {n : String} {vs : Array Value} {Q : Unit → Shared → Prop} (ho : s.heap.get? it = some o) (hc : o.cls = .type n) (hd : o.data = .fields vs)
   (hn : ["enumerate", "zip", "dict_itemiterator", "dict_reverseitemiterator", "odict_iterator", "itertools.zip_longest", "itertools.pairwise"].contains n = false) (hQ : Q () s) : wpAny M A (letOwnedTupleGo tg (.ref it) u) Q E s := by
 unfold letOwnedTupleGo
 cases tg <;> first
   | exact wpAny_pure hQ
   | (cases u <;> first
       | exact wpAny_pure hQ
       | (refine wpAny_bind (wpAny_load ho ?_)
          rw [hc, hd]
          show wpAny M A (if (["enumerate", "zip", "dict_itemiterator", "dict_reverseitemiterator", "odict_iterator", "itertools.zip_longest", "itertools.pairwise"].contains n && vs[0]? == some (rawInt _)) = true then _ else _) Q E s
          rw [if_neg (by intro h; rw [hn, Bool.false_and] at h; cases h)]
          exact wpAny_pure hQ))
def Itl (K : PySem.W.Frag) (a : Addr) : It :=
 ⟨fun i H => ∃ xs x, SqL K H a xs ∧ xs[i]? = some x, fun i H x H' => H' = H ∧ ∀ xs, SqL K H a xs → xs[i]? = some x, fun i H => ∃ xs, SqL K H a xs ∧ xs.length ≤ i⟩
def Itt (K : PySem.W.Frag) (a : Addr) : It :=
 ⟨fun i H => ∃ xs x, SqT K H a xs ∧ xs[i]? = some x, fun i H x H' => H' = H ∧ ∀ xs, SqT K H a xs → xs[i]? = some x, fun i H => ∃ xs, SqT K H a xs ∧ xs.length ≤ i⟩
def Itr (lo : Int) (n : Nat) : It := ⟨fun i _ => i < n, fun i H x H' => H' = H ∧ x = .int (lo + i), fun i _ => n ≤ i⟩
theorem turn_list {P : Program} {w : World} {K : PySem.W.Frag} {tg : Expr} (a it : Addr) : Turn P w K tg (Itl K a) [it] it (fun i h => h.IsListIter it a i) where
 mem := by simp
 obj := fun i h st b hb => by
   have e : b = it := by simpa using hb
   subst e
   obtain ⟨o, e, c, d⟩ := st
   exact ⟨o, e, fun v z => by rw [d] at z; cases z⟩
 keep := fun i h h' st k => st.at fun o e => k it (by simp) o e
 item := by
   intro X hP hw hK hc i pins s σ H E I hf st hg
   subst hP hw hK
   obtain ⟨xs, x, hq, hx⟩ := hg
   obtain ⟨its, rv, p, hz⟩ := I.list hq
   obtain ⟨u, hu, ru⟩ := rv.get hx
   obtain ⟨f0, f1, f2, f3, f4, f5⟩ := hf it (by simp)
   refine wpAny_pyNext_list_item st p.isList (x := u) (by simpa using hu) fun h' st' sb => ?_
   have I1 : Inv X pins σ H { s with heap := h' } := I.turned (t' := s.toks) (fun b o hb e => (sb.2 b hb).trans e) f0 f1 f3 f4 f5
   obtain ⟨o, e, c, d⟩ := id st'
   exact ⟨u, rfl, go_of (s := { s with heap := h' }) e c d (by decide) ⟨x, H, I1, ru, ⟨rfl, fun ys hy => by rw [I.list_inj hy hq]; exact hx⟩, st', fun b hb => (hf b hb).1⟩⟩
 done := by
   intro X hP hw hK hc i pins s σ H E I hf st hg
   subst hP hw hK
   obtain ⟨xs, hq, hx⟩ := hg
   obtain ⟨its, rv, p, hz⟩ := I.list hq
   obtain ⟨f0, f1, f2, f3, f4, f5⟩ := hf it (by simp)
   have hl := rv.length
   exact wpAny_pyNext_list_end (I.ok.hd hc) st p.isList (by simp; omega) fun h' eb => ⟨rfl, I.turned (t' := s.toks) (fun b o hb e => eb b o hb e) f0 f1 f3 f4 f5⟩
 self := fun _ _ _ _ _ st h => wpAny_pyIter_listiter st h
theorem turn_tuple {P : Program} {w : World} {K : PySem.W.Frag} {tg : Expr} (a it : Addr) : Turn P w K tg (Itt K a) [it] it (fun i h => h.IsTupleIter it a i) where
 mem := by simp
 obj := fun i h st b hb => by
   have e : b = it := by simpa using hb
   subst e
   obtain ⟨o, e, c, d⟩ := st
   exact ⟨o, e, fun v z => by rw [d] at z; cases z⟩
 keep := fun i h h' st k => st.at fun o e => k it (by simp) o e
 item := by
   intro X hP hw hK hc i pins s σ H E I hf st hg
   subst hP hw hK
   obtain ⟨xs, x, hq, hx⟩ := hg
   obtain ⟨its, rv, p, hz⟩ := I.tuple hq
   obtain ⟨u, hu, ru⟩ := rv.get hx
   obtain ⟨f0, f1, f2, f3, f4, f5⟩ := hf it (by simp)
   refine wpAny_pyNext_tuple_item st (show s.heap.IsTuple a its.toArray from p) (x := u) (by simpa using hu) fun h' st' sb => ?_
   have I1 : Inv X pins σ H { s with heap := h' } := I.turned (t' := s.toks) (fun b o hb e => (sb.2 b hb).trans e) f0 f1 f3 f4 f5
   obtain ⟨o, e, c, d⟩ := id st'
   exact ⟨u, rfl, go_of (s := { s with heap := h' }) e c d (by decide) ⟨x, H, I1, ru, ⟨rfl, fun ys hy => by rw [I.tuple_inj hy hq]; exact hx⟩, st', fun b hb => (hf b hb).1⟩⟩
 done := by
   intro X hP hw hK hc i pins s σ H E I hf st hg
   subst hP hw hK
   obtain ⟨xs, hq, hx⟩ := hg
   obtain ⟨its, rv, p, hz⟩ := I.tuple hq
   obtain ⟨f0, f1, f2, f3, f4, f5⟩ := hf it (by simp)
   have hl := rv.length
   exact wpAny_pyNext_tuple_end (I.ok.hd hc) st (show s.heap.IsTuple a its.toArray from p) (by simp; omega) fun h' eb => ⟨rfl, I.turned (t' := s.toks) (fun b o hb e => eb b o hb e) f0 f1 f3 f4 f5⟩
 self := fun _ _ _ _ _ st h => wpAny_pyIter_tupleiter st h
theorem turn_range {P : Program} {w : World} {K : PySem.W.Frag} {tg : Expr} (it : Addr) (lo : Int) (n : Nat) : Turn P w K tg (Itr lo n) [it] it (fun i h => IsRangeIter h it (lo + (i : Nat) * 1) ((n : Int) - (i : Nat)) 1) where
 mem := by simp
 obj := fun i h st b hb => by
   have e : b = it := by simpa using hb
   subst e
   exact ⟨_, st, fun v z => by
     have z' : Data.fields _ = Data.cell v := z
     cases z'⟩
 keep := fun i h h' st k => k it (by simp) _ st
 item := by
   intro X hP hw hK hc i pins s σ H E I hf st hg
   subst hP hw hK
   obtain ⟨f0, f1, f2, f3, f4, f5⟩ := hf it (by simp)
   have W := Walks.range (prog := X.prog) (w := X.w) (I.ok.hd hc) it lo 1 n
   refine W.item i s _ _ hg st fun v h' tk hv st' kk => ?_
   obtain ⟨t, rfl⟩ := hv
   have I1 : Inv X pins σ H { s with heap := h', toks := tk } := I.turned (fun b o hb e => kk b o (by simpa using hb) e) f0 f1 f3 f4 f5
   refine ⟨_, rfl, go_of (s := { s with heap := h', toks := tk }) (n := "range_iterator") st' rfl rfl (by decide) ⟨.int (lo + i), H, I1, ⟨t, ?_⟩, ⟨rfl, rfl⟩, st', fun b hb => (hf b hb).1⟩⟩
   rw [Int.mul_one]
 done := by
   intro X hP hw hK hc i pins s σ H E I hf st hg
   subst hP hw hK
   obtain ⟨f0, f1, f2, f3, f4, f5⟩ := hf it (by simp)
   exact wpAny_pyNext_range_end (I.ok.hd hc) st (by have : n ≤ i := hg; omega) fun h' eb => ⟨rfl, I.turned (t' := s.toks) (fun b o hb e => eb b o hb e) f0 f1 f3 f4 f5⟩
 self := fun _ _ _ _ _ st h => wpAny_pyIter_rangeiter st h
end L2
namespace L2
open PySem PySem.Spec PyProof.Rows
section
variable {X : Cx} {tg : Expr}
def iList (K : PySem.W.Frag) (tl : TE) : TI := fun σ H R => tl σ H fun x H1 => ∃ a, x = .ref a ∧ (∃ xs, SqL K H1 a xs) ∧ R (Itl K a) H1
def iTup (K : PySem.W.Frag) (tl : TE) : TI := fun σ H R => tl σ H fun x H1 => ∃ a, x = .ref a ∧ (∃ xs, SqT K H1 a xs) ∧ R (Itt K a) H1
theorem pi_list {l : Expr} {tl : TE} (hl : PE X l tl) : PI X tg l (iList X.K tl) := by
 intro pins s σ H R I h
 refine thn (hl pins s σ H _ I h) fun v s1 ⟨x, H1, I1, r1, q1⟩ => ?_
 obtain ⟨a, e, ⟨xs, hq⟩, q⟩ := q1
 subst e
 cases r1
 obtain ⟨its, rv, p, hz⟩ := I1.list hq
 refine wpAny_pyIter_list p.isList ?_
 refine ⟨s1.heap.objs.size, [s1.heap.objs.size], _, _, H1, rfl, I1.kept (t' := s1.toks) fun b o e => Heap.get?_push_of_some _ e, turn_list a _, ⟨_, Heap.get?_push_size _ rfl, rfl, rfl⟩, fun b hb => ?_, q⟩
 have e : b = s1.heap.objs.size := by simpa using hb
 subst e
 exact I1.fpOk (Nat.le_refl _) (I1.hok.fresh (Nat.le_refl _))
theorem pi_tup {l : Expr} {tl : TE} (hl : PE X l tl) : PI X tg l (iTup X.K tl) := by
 intro pins s σ H R I h
 refine thn (hl pins s σ H _ I h) fun v s1 ⟨x, H1, I1, r1, q1⟩ => ?_
 obtain ⟨a, e, ⟨xs, hq⟩, q⟩ := q1
 subst e
 cases r1
 obtain ⟨its, rv, p, hz⟩ := I1.tuple hq
 refine wpAny_pyIter_tuple (show s1.heap.IsTuple a its.toArray from p) ?_
 refine ⟨s1.heap.objs.size, [s1.heap.objs.size], _, _, H1, rfl, I1.kept (t' := s1.toks) fun b o e => Heap.get?_push_of_some _ e, turn_tuple a _, ⟨_, Heap.get?_push_size _ rfl, rfl, rfl⟩, fun b hb => ?_, q⟩
 have e : b = s1.heap.objs.size := by simpa using hb
 subst e
 exact I1.fpOk (Nat.le_refl _) (I1.hok.fresh (Nat.le_refl _))
theorem range_it {pins : List (Addr × Obj)} {σ : St} {H : Hp} {s : Shared} {R : It → Hp → Prop} {E : Value → Shared → Prop} {lo hi : Int} {t u v : Tok} {tk : Nat} (I : Inv X pins σ H s) (h1 : -(2 ^ 62) ≤ lo) (h2 : lo < 2 ^ 62) (h3 : -(2 ^ 62) ≤ hi) (h4 : hi < 2 ^ 62)
   (q : R (Itr lo (hi - lo).toNat) H) : wpAny (model X.prog X.w) X.A (pyIter (.ref s.heap.objs.size)) (PIE X pins σ tg R) E { s with heap := s.heap.push { cls := .type "range", data := .fields #[.int lo t, .int hi u, .int 1 v] }, toks := tk } := by
 refine wpAny_pyIter_range (IsRange.new ..) (small_one h1 h2 h3 h4) ?_
 have I1 : Inv X pins σ H { s with heap := s.heap.push { cls := .type "range", data := .fields #[.int lo t, .int hi u, .int 1 v] }, toks := tk } := I.kept fun b o e => Heap.get?_push_of_some _ e
 refine ⟨(s.heap.push { cls := .type "range", data := .fields #[.int lo t, .int hi u, .int 1 v] }).objs.size, [(s.heap.push { cls := .type "range", data := .fields #[.int lo t, .int hi u, .int 1 v] }).objs.size], _, _, H, rfl,
   I1.kept (t' := tk) fun b o e => Heap.get?_push_of_some _ e, turn_range _ lo (hi - lo).toNat, ?_, fun b hb => ?_, q⟩
 · have e1 : lo + ((0 : Nat) : Int) * 1 = lo := by simp
   have e2 : (((hi - lo).toNat : Nat) : Int) - ((0 : Nat) : Int) = Builtin.Range.rangeSize lo hi 1 := by rw [rangeSize_one]; split <;> omega
   show IsRangeIter _ _ (lo + ((0 : Nat) : Int) * 1) ((((hi - lo).toNat : Nat) : Int) - ((0 : Nat) : Int)) 1
   rw [e1, e2]
   exact Heap.get?_push_size _ rfl
 · have e : b = (s.heap.push { cls := .type "range", data := .fields #[.int lo t, .int hi u, .int 1 v] }).objs.size := by simpa using hb
   subst e
   exact I1.fpOk (Nat.le_refl _) (I1.hok.fresh (Nat.le_refl _))
def iRng1 (ta : TA) : TI := fun σ H R => ta σ H fun vs H1 => ∃ j : Int, vs = [.int j] ∧ -(2 ^ 62) ≤ j ∧ j < 2 ^ 62 ∧ R (Itr 0 j.toNat) H1
theorem pi_range1 {a : Expr} {ta : TA} {p pos : Pos} (hg : Gl X "range") (hm : X.mg "range" = none) (ha : PA X [a] ta) (hs : starEach [a] X.env = [(false, eval a X.env)] := by rfl) : PI X tg (.Call (.Name "range" p) [a] [] pos) (iRng1 ta) := by
 intro pins s σ H R I h
 refine Call_ (ld_blt I hg hm boot_range (PyProof.Rows.callWith_type1 (thn (ha pos pins s σ H _ I h) fun us s1 ⟨vs, H1, I1, r1, q1⟩ => ?_) hs rfl))
 obtain ⟨j, e, q1, q2, q⟩ := q1
 subst e
 cases r1 with
 | cons r rr =>
   cases rr
   obtain ⟨t, rfl⟩ := r
   exact call_range_1 (range_it I1 (by omega) (by omega) q1 q2 (by simpa using q))
def tFor (wi : TI) (g : TG) (tb : TS) : TS := fun D σ H => wi σ H fun J H1 => ∃ W : Nat → Nat → St → Hp → Prop, (∃ m, W 0 m σ H1) ∧ ∀ i m σ H, W i m σ H →
 (J.stop i H ∧ D.nx σ H) ∨ (J.go i H ∧ ∃ N : St → Hp → Prop, (∀ σ' H', N σ' H' → ∃ m', m' < m ∧ W (i + 1) m' σ' H') ∧ ∀ x H', J.yld i H x H' → g x σ H' fun σ2 H2 => tb { D with nx := N, ct := N, bk := D.nx } σ2 H2)
def pinsAt (fp : List Addr) (h : Heap) : List (Addr × Obj) := fp.filterMap fun b => (h.get? b).map fun o => (b, o)
theorem mem_pinsAt {fp : List Addr} {h : Heap} {b : Addr} {o : Obj} (hb : b ∈ fp) (e : h.get? b = some o) : (b, o) ∈ pinsAt fp h := List.mem_filterMap.mpr ⟨b, hb, by rw [e]; rfl⟩
theorem of_pinsAt {fp : List Addr} {h : Heap} {p : Addr × Obj} (hp : p ∈ pinsAt fp h) : p.1 ∈ fp ∧ h.get? p.1 = some p.2 := by
 obtain ⟨b, hb, e⟩ := List.mem_filterMap.mp hp
 cases q : h.get? b with
 | none => rw [q] at e; cases e
 | some o =>
   rw [q] at e
   have e' : (b, o) = p := Option.some.inj e
   subst e'
   exact ⟨hb, q⟩
theorem Inv.pinned {pins : List (Addr × Obj)} {σ : St} {H : Hp} {s : Shared} {fp : List Addr} (I : Inv X pins σ H s) (hf : ∀ b ∈ fp, FpOk X pins H b) (ho : ∀ b ∈ fp, ∃ o, s.heap.get? b = some o ∧ ∀ v, o.data ≠ .cell v) : Inv X (pins ++ pinsAt fp s.heap) σ H s :=
 I.pins_of fun p hp => (List.mem_append.mp hp).elim (fun z => I.pin p (List.mem_append_right _ z)) fun z => by
   obtain ⟨hb, e⟩ := of_pinsAt z
   obtain ⟨f0, f1, f2, _⟩ := hf p.1 hb
   obtain ⟨o, e', d⟩ := ho p.1 hb
   rw [e] at e'; cases e'
   exact ⟨e, f0, f1, f2, d⟩
theorem Inv.unpinned {pins pl : List (Addr × Obj)} {σ : St} {H : Hp} {s : Shared} (I : Inv X (pins ++ pl) σ H s) : Inv X pins σ H s := I.pins_of fun p hp => I.pin p (List.mem_append_right _ (List.mem_append_left _ hp))
theorem ps_for {iter : Expr} {body : List Stmt} {wi : TI} {g : TG} {tb : TS} {pos : Pos} (hp : PassesOwn (model X.prog X.w) X.A X.env X.xe) (hc : X.calm = true) (hi : PI X tg iter wi) (hg : PG X tg g) (hb : PSs X body tb)
   (hs : ∀ x, foldedSetIterable iter X.env x = pure x := by intro _; rfl) : PS X (.For tg iter body [] pos) (tFor wi g tb) := by
 intro pins s σ H D I h
 refine wpAny_For (thn (hi pins s σ H _ I h) fun v s1 h1 => thn h1 fun itv s2 h2 => ?_) hs
 obtain ⟨it, fp, tn, J, H2, e, I2, T, st2, f2, W, ⟨m0, w0⟩, turn⟩ := h2
 subst e
 have stat : ∀ {H' : Hp}, (∀ b ∈ fp, H' b = none) → ∀ b ∈ fp, FpOk X pins H' b := fun hn b hb => ⟨hn b hb, (f2 b hb).2⟩
 refine codeAny_forLoop_any (fun n s' => ∃ i σ' H', Inv X pins σ' H' s' ∧ tn i s'.heap ∧ (∀ b ∈ fp, H' b = none) ∧ W i n σ' H') ?_ m0 ⟨0, σ, H2, I2, st2, fun b hb => (f2 b hb).1, w0⟩
 rintro n s3 ⟨i, σ3, H3, I3, st3, fr3, w3⟩
 rcases turn i n σ3 H3 w3 with ⟨stop, qn⟩ | ⟨go, N, hN, step⟩
 · refine wpAny_passesOwn hp (thn (T.done X rfl rfl rfl hc i pins s3 σ3 H3 X.xe I3 (stat fr3) st3 stop) fun r s4 ⟨hr, I4⟩ => ?_)
   subst hr
   exact wpAny_execs_nil ⟨σ3, H3, I4, qn⟩
 · refine wpAny_passesOwn hp (thn (T.item X rfl rfl rfl hc i pins s3 σ3 H3 X.xe I3 (stat fr3) st3 go) fun r s4 ⟨u, hr, h4⟩ => ?_)
   subst hr
   refine wpAny_passesOwn hp (thn h4 fun _ s5 ⟨x, H5, I5, r5, y5, st5, fr5⟩ => ?_)
   have I5' := I5.pinned (stat fr5) (T.obj _ _ st5)
   refine wpAny_passesOwn hp (thn (hg _ s5 σ3 H5 x u _ I5' r5 (step x H5 y5)) fun _ s6 ⟨σ6, H6, I6, q6⟩ => ?_)
   refine wpAny_passesOwn hp (thn (hb _ s6 σ6 H6 _ I6 q6) fun f s7 q7 => ?_)
   have again : ∀ {σ7 : St} {H7 : Hp}, Inv X (pins ++ pinsAt fp s5.heap) σ7 H7 s7 → N σ7 H7 → ∃ m, m < n ∧ ∃ i σ' H', Inv X pins σ' H' s7 ∧ tn i s7.heap ∧ (∀ b ∈ fp, H' b = none) ∧ W i m σ' H' := fun {σ7 H7} I7 n7 => by
     obtain ⟨m', hm, w7⟩ := hN σ7 H7 n7
     refine ⟨m', hm, i + 1, σ7, H7, I7.unpinned, T.keep _ _ _ st5 fun b hb o e => (I7.pin (b, o) (List.mem_append_right _ (List.mem_append_right _ (mem_pinsAt hb e)))).1, fun b hb => ?_, w7⟩
     obtain ⟨o, e, d⟩ := T.obj _ _ st5 b hb
     exact (I7.pin (b, o) (List.mem_append_right _ (List.mem_append_right _ (mem_pinsAt hb e)))).2.1
   cases f with
   | next => obtain ⟨σ7, H7, I7, n7⟩ := q7; exact again I7 n7
   | cont => obtain ⟨σ7, H7, I7, n7⟩ := q7; exact again I7 n7
   | brk => obtain ⟨σ7, H7, I7, q7⟩ := q7; exact ⟨σ7, H7, I7.unpinned, q7⟩
   | ret v => obtain ⟨x7, σ7, H7, I7, r7, q7⟩ := q7; exact ⟨x7, σ7, H7, I7.unpinned, r7, q7⟩
end
theorem for_list {K : PySem.W.Frag} {a : Addr} {xs : List V} {g : TG} {tb : TS} {D : Ends} {σ : St} {H : Hp} (Pv : Nat → St → Hp → Prop) (h0 : Pv 0 σ H) (hl : ∀ i σ H, i ≤ xs.length → Pv i σ H → SqL K H a xs)
   (hs : ∀ i x σ H, xs[i]? = some x → Pv i σ H → g x σ H fun σ2 H2 => tb { D with nx := Pv (i + 1), ct := Pv (i + 1), bk := D.nx } σ2 H2) (hd : ∀ σ H, Pv xs.length σ H → D.nx σ H) :
   ∃ W : Nat → Nat → St → Hp → Prop, (∃ m, W 0 m σ H) ∧ ∀ i m σ H, W i m σ H →
     ((Itl K a).stop i H ∧ D.nx σ H) ∨ ((Itl K a).go i H ∧ ∃ N : St → Hp → Prop, (∀ σ' H', N σ' H' → ∃ m', m' < m ∧ W (i + 1) m' σ' H') ∧ ∀ x H', (Itl K a).yld i H x H' → g x σ H' fun σ2 H2 => tb { D with nx := N, ct := N, bk := D.nx } σ2 H2) := by
 refine ⟨fun i m σ H => m = xs.length - i ∧ i ≤ xs.length ∧ Pv i σ H, ⟨xs.length, by simp, Nat.zero_le _, h0⟩, ?_⟩
 rintro i m σ H ⟨rfl, hi, p⟩
 have q := hl i σ H hi p
 by_cases hlt : i < xs.length
 · refine .inr ⟨⟨xs, xs[i], q, by simp [hlt]⟩, Pv (i + 1), fun σ' H' p' => ⟨xs.length - (i + 1), by omega, rfl, hlt, p'⟩, fun x H' y => ?_⟩
   obtain ⟨e, y⟩ := y
   subst e
   exact hs i x σ _ (y xs q) p
 · have e : i = xs.length := by omega
   subst e
   exact .inl ⟨⟨xs, q, Nat.le_refl _⟩, hd σ H p⟩
theorem for_range {lo : Int} {n : Nat} {g : TG} {tb : TS} {D : Ends} {σ : St} {H : Hp} (Pv : Nat → St → Hp → Prop) (h0 : Pv 0 σ H)
   (hs : ∀ i σ H, i < n → Pv i σ H → g (.int (lo + i)) σ H fun σ2 H2 => tb { D with nx := Pv (i + 1), ct := Pv (i + 1), bk := D.nx } σ2 H2) (hd : ∀ σ H, Pv n σ H → D.nx σ H) :
   ∃ W : Nat → Nat → St → Hp → Prop, (∃ m, W 0 m σ H) ∧ ∀ i m σ H, W i m σ H →
     ((Itr lo n).stop i H ∧ D.nx σ H) ∨ ((Itr lo n).go i H ∧ ∃ N : St → Hp → Prop, (∀ σ' H', N σ' H' → ∃ m', m' < m ∧ W (i + 1) m' σ' H') ∧ ∀ x H', (Itr lo n).yld i H x H' → g x σ H' fun σ2 H2 => tb { D with nx := N, ct := N, bk := D.nx } σ2 H2) := by
 refine ⟨fun i m σ H => m = n - i ∧ i ≤ n ∧ Pv i σ H, ⟨n, by simp, Nat.zero_le _, h0⟩, ?_⟩
 rintro i m σ H ⟨rfl, hi, p⟩
 by_cases hlt : i < n
 · refine .inr ⟨hlt, Pv (i + 1), fun σ' H' p' => ⟨n - (i + 1), by omega, rfl, hlt, p'⟩, fun x H' y => ?_⟩
   obtain ⟨e, y⟩ := y
   subst e y
   exact hs i σ _ hlt p
 · have e : i = n := by omega
   subst e
   exact .inl ⟨Nat.le_refl _, hd σ H p⟩
end L2
namespace L2
open PySem PySem.Spec PyProof.Rows
abbrev R2 := V → V → Hp → VK → Prop
def OpR (X : Cx) (f : Value → Value → Sem Value) (r : R2) : Prop :=
 ∀ (pins : List (Addr × Obj)) (s : Shared) (σ : St) (H : Hp) (x y : V) (v u : Value) (Q : VK), Inv X pins σ H s → RelV x v → RelV y u → r x y H Q →
   wpAny (model X.prog X.w) X.A (f v u) (EP X pins σ Q) X.xe s
def UnR (X : Cx) (f : Value → Sem Value) (r : V → Hp → VK → Prop) : Prop :=
 ∀ (pins : List (Addr × Obj)) (s : Shared) (σ : St) (H : Hp) (x : V) (v : Value) (Q : VK), Inv X pins σ H s → RelV x v → r x H Q →
   wpAny (model X.prog X.w) X.A (f v) (EP X pins σ Q) X.xe s
def CallR (X : Cx) (f : Value) (r : List V → Hp → VK → Prop) : Prop :=
 ∀ (pins : List (Addr × Obj)) (s : Shared) (σ : St) (H : Hp) (xs : List V) (us : List Value) (Q : VK), Inv X pins σ H s → Vals xs us → r xs H Q →
   wpAny (model X.prog X.w) X.A (call f us) (EP X pins σ Q) X.xe s
def TruR (X : Cx) (r : V → Hp → (Bool → Hp → Prop) → Prop) : Prop :=
 ∀ (pins : List (Addr × Obj)) (s : Shared) (σ : St) (H : Hp) (x : V) (v : Value) (Q : Bool → Hp → Prop), Inv X pins σ H s → RelV x v → r x H Q →
   wpAny (model X.prog X.w) X.A (truthy v) (TP X pins σ Q) X.xe s
def tOp (r : R2) (ta tb : TE) : TE := fun σ H Q => ta σ H fun x H1 => tb σ H1 fun y H2 => r x y H2 Q
def tUn (r : V → Hp → VK → Prop) (ta : TE) : TE := fun σ H Q => ta σ H fun x H1 => r x H1 Q
def rI (C : Int → Int → Prop) (g : Int → Int → V) : R2 := fun x y H Q => ∃ i j, x = .int i ∧ y = .int j ∧ C i j ∧ Q (g i j) H
def rI0 (g : Int → Int → V) : R2 := fun x y H Q => ∃ i j, x = .int i ∧ y = .int j ∧ Q (g i j) H
def rU (g : Int → V) : V → Hp → VK → Prop := fun x H Q => ∃ i, x = .int i ∧ Q (g i) H
section
variable {X : Cx} {a b c : Expr} {ta tb tc : TE} {pos : Pos}
theorem binT (ha : PE X a ta) (hb : PE X b tb) {pins : List (Addr × Obj)} {s : Shared} {σ : St} {H : Hp} {R : V → V → Hp → Prop} (I : Inv X pins σ H s)
   (h : ta σ H fun x H1 => tb σ H1 fun y H2 => R x y H2) {Q : Value → Shared → Prop} {f : Value → Value → Sem Value}
   (hf : ∀ v u s2 x y H2, Inv X pins σ H2 s2 → RelV x v → RelV y u → R x y H2 → wpAny (model X.prog X.w) X.A (f v u) Q X.xe s2) :
   wpAny (model X.prog X.w) X.A (eval a X.env) (fun v s₁ => wpAny (model X.prog X.w) X.A (eval b X.env) (fun u s₂ => wpAny (model X.prog X.w) X.A (f v u) Q X.xe s₂) X.xe s₁) X.xe s := by
 refine thn (ha pins s σ H _ I h) fun v s1 ⟨x, H1, I1, r1, q1⟩ => ?_
 refine thn (hb pins s1 σ H1 _ I1 q1) fun u s2 ⟨y, H2, I2, r2, q2⟩ => ?_
 exact hf v u s2 x y H2 I2 r1 r2 q2
theorem zK {op : Operator} {r : R2} (ho : OpR X (binaryOp op) r) (ha : PE X a ta) (hb : PE X b tb) : PE X (.BinOp a op b pos) (tOp r ta tb) := by
 intro pins s σ H Q I h
 exact wpAny_BinOp (binT ha hb I h fun v u s2 x y H2 I2 rx ry q => ho pins s2 σ H2 x y v u Q I2 rx ry q)
theorem pe_un {op : UnaryOp} {r : V → Hp → VK → Prop} (ho : UnR X (unaryOp op) r) (ha : PE X a ta) : PE X (.UnaryOp op a pos) (tUn r ta) := by
 intro pins s σ H Q I h
 exact UnaryOp_ (thn (ha pins s σ H _ I h) fun v s1 ⟨x, H1, I1, r1, q1⟩ => ho pins s1 σ H1 x v Q I1 r1 q1)
theorem opI {f : Value → Value → Sem Value} {C : Int → Int → Prop} {g : Int → Int → Int}
   (rule : ∀ (i j : Int) (t u : Tok) (s : Shared) (Q : Value → Shared → Prop) (E : Value → Shared → Prop), C i j → Q (.int (g i j) s.toks) { s with toks := s.toks + 1 } → wpAny (model X.prog X.w) X.A (f (.int i t) (.int j u)) Q E s) :
   OpR X f (rI C fun i j => .int (g i j)) := by
 intro pins s σ H x y v u Q I rx ry h
 obtain ⟨i, j, rfl, rfl, hc, q⟩ := h
 obtain ⟨t, rfl⟩ := rx
 obtain ⟨t', rfl⟩ := ry
 exact rule i j t t' s _ _ hc ⟨.int (g i j), H, I.tok _, ⟨_, rfl⟩, q⟩
theorem opI0 {f : Value → Value → Sem Value} {g : Int → Int → Int}
   (rule : ∀ (i j : Int) (t u : Tok) (s : Shared) (Q : Value → Shared → Prop) (E : Value → Shared → Prop), Q (.int (g i j) s.toks) { s with toks := s.toks + 1 } → wpAny (model X.prog X.w) X.A (f (.int i t) (.int j u)) Q E s) :
   OpR X f (rI0 fun i j => .int (g i j)) := by
 intro pins s σ H x y v u Q I rx ry h
 obtain ⟨i, j, rfl, rfl, q⟩ := h
 obtain ⟨t, rfl⟩ := rx
 obtain ⟨t', rfl⟩ := ry
 exact rule i j t t' s _ _ ⟨.int (g i j), H, I.tok _, ⟨_, rfl⟩, q⟩
theorem opB0 {f : Value → Value → Sem Value} {g : Int → Int → Bool}
   (rule : ∀ (i j : Int) (t u : Tok) (s : Shared) (Q : Value → Shared → Prop) (E : Value → Shared → Prop), Q (.bool (g i j)) s → wpAny (model X.prog X.w) X.A (f (.int i t) (.int j u)) Q E s) :
   OpR X f (rI0 fun i j => .bl (g i j)) := by
 intro pins s σ H x y v u Q I rx ry h
 obtain ⟨i, j, rfl, rfl, q⟩ := h
 obtain ⟨t, rfl⟩ := rx
 obtain ⟨t', rfl⟩ := ry
 exact rule i j t t' s _ _ ⟨.bl (g i j), H, I, rfl, q⟩
def CDiv (i j : Int) : Prop := 0 < j ∧ j < 1073741824
def CPow (i j : Int) : Prop := 0 ≤ j ∧ j ≤ 1000000 ∧ i.natAbs < 2 ^ 64
def CMul (i j : Int) : Prop := (-(2 ^ 64) < i ∧ i < 2 ^ 64) ∨ (-(2 ^ 64) < j ∧ j < 2 ^ 64)
theorem CMul.ok {i j : Int} (h : CMul i j) : IntMulOk i j := by
 rcases h with ⟨h1, h2⟩ | ⟨h1, h2⟩
 · exact .of_left (intBits_le_64 h1 h2)
 · exact .of_right (intBits_le_64 h1 h2)
theorem op_add : OpR X (binaryOp .Add) (rI0 fun i j => .int (i + j)) := opI0 fun _ _ _ _ _ _ _ q => add_int q
theorem op_sub : OpR X (binaryOp .Sub) (rI0 fun i j => .int (i - j)) := opI0 fun _ _ _ _ _ _ _ q => sub_int q
theorem op_fdiv : OpR X (binaryOp .FloorDiv) (rI CDiv fun i j => .int (i / j)) := opI fun i j _ _ _ _ _ hc q => by
 have h1 : (0 : Int) < j := hc.1
 have h2 : j < 1073741824 := hc.2
 exact floordiv_int (by omega) (by rw [Int.fdiv_eq_ediv_of_nonneg i (by omega)]; exact q) (.inl (PyProof.noPylong_small (by omega)))
theorem op_mod : OpR X (binaryOp .Mod) (rI (fun _ j => 0 < j) fun i j => .int (i % j)) := opI fun i j _ _ _ _ _ hc q => by
 have h1 : (0 : Int) < j := hc
 exact mod_int' (by omega) (by rw [Int.fmod_eq_emod_of_nonneg i (by omega)]; exact q)
theorem op_pow : OpR X (binaryOp .Pow) (rI CPow fun i j => .int (i ^ j.toNat)) := opI fun _ _ _ _ _ _ _ hc q => pow_int_small hc.1 hc.2.1 hc.2.2 q
theorem unI {f : Value → Sem Value} {g : Int → Int}
   (rule : ∀ (i : Int) (t : Tok) (s : Shared) (Q : Value → Shared → Prop) (E : Value → Shared → Prop), Q (.int (g i) s.toks) { s with toks := s.toks + 1 } → wpAny (model X.prog X.w) X.A (f (.int i t)) Q E s) :
   UnR X f (rU fun i => .int (g i)) := by
 intro pins s σ H x v Q I rx h
 obtain ⟨i, rfl, q⟩ := h
 obtain ⟨t, rfl⟩ := rx
 exact rule i t s _ _ ⟨.int (g i), H, I.tok _, ⟨_, rfl⟩, q⟩
theorem un_neg : UnR X (unaryOp .USub) (rU fun i => .int (-i)) := unI fun _ _ _ _ _ q => neg_int q
end
def scal : V → V → Bool
 | .non, .non => true | .non, .int _ => true | .int _, .non => true | .non, .bl _ => true | .bl _, .non => true | .non, .str _ => true | .str _, .non => true
 | .int _, .int _ => true | .bl _, .bl _ => true | .str _, .str _ => true | .byt _, .byt _ => true
 | .int _, .str _ => true | .str _, .int _ => true | .bl _, .str _ => true | .str _, .bl _ => true
 | _, _ => false
def rEq : R2 := fun x y H Q => scal x y = true ∧ Q (.bl (decide (x = y))) H
def rNe : R2 := fun x y H Q => scal x y = true ∧ Q (.bl (!decide (x = y))) H
theorem dec_int {i j : Int} : decide (V.int i = V.int j) = (i == j) := by
 rw [Bool.eq_iff_iff]
 simp
theorem dec_bl {i j : Bool} : decide (V.bl i = V.bl j) = (i == j) := by
 rw [Bool.eq_iff_iff]
 simp
theorem dec_str {i j : Str} : decide (V.str i = V.str j) = (i == j) := by
 rw [Bool.eq_iff_iff]
 simp
theorem dec_byt {i j : Array UInt8} : decide (V.byt i = V.byt j) = (i.toList == j.toList) := by
 rw [Bool.eq_iff_iff]
 cases i
 cases j
 simp
section
variable {X : Cx} {a b c : Expr} {ta tb tc : TE} {pos : Pos}
theorem fin_bl {pins : List (Addr × Obj)} {σ : St} {H : Hp} {s : Shared} {Q : VK} {k k' : Bool} (I : Inv X pins σ H s) (q : Q (.bl k) H) (e : k = k') : EP X pins σ Q (.bool k') s := by
 subst e
 exact ⟨.bl k, H, I, rfl, q⟩
theorem op_eq : OpR X (compareOp .Eq) rEq := by
 intro pins s σ H x y v u Q I rx ry h
 obtain ⟨hs, q⟩ := h
 cases x with
 | non =>
   cases rx
   cases y with
   | non => cases ry; exact PySem.EqNone.eq_none_none (fin_bl I q (by simp))
   | bl j => cases ry; exact PySem.EqNone.eq_none_bool (fin_bl I q (by simp))
   | int j => obtain ⟨t', rfl⟩ := ry; exact PySem.EqNone.eq_none_int (fin_bl I q (by simp))
   | str j => obtain ⟨t', rfl⟩ := ry; exact PySem.EqNone.eq_none_str (fin_bl I q (by simp))
   | _ => exact absurd (show false = true from hs) Bool.false_ne_true
 | bl i =>
   cases rx
   cases y with
   | non => cases ry; exact PySem.EqNone.eq_bool_none (fin_bl I q (by simp))
   | bl j => cases ry; exact eq_bool (fin_bl I q dec_bl)
   | str j => obtain ⟨t', rfl⟩ := ry; exact PySem.EqMixed.eq_bool_str (fin_bl I q (by simp))
   | _ => exact absurd (show false = true from hs) Bool.false_ne_true
 | int i =>
   obtain ⟨t, rfl⟩ := rx
   cases y with
   | non => cases ry; exact PySem.EqNone.eq_int_none (fin_bl I q (by simp))
   | int j => obtain ⟨t', rfl⟩ := ry; exact eq_int (fin_bl I q dec_int)
   | str j => obtain ⟨t', rfl⟩ := ry; exact PySem.EqMixed.eq_int_str (fin_bl I q (by simp))
   | _ => exact absurd (show false = true from hs) Bool.false_ne_true
 | str i =>
   obtain ⟨t, rfl⟩ := rx
   cases y with
   | non => cases ry; exact PySem.EqNone.eq_str_none (fin_bl I q (by simp))
   | bl j => cases ry; exact PySem.EqMixed.eq_str_bool (fin_bl I q (by simp))
   | int j => obtain ⟨t', rfl⟩ := ry; exact PySem.EqMixed.eq_str_int (fin_bl I q (by simp))
   | str j => obtain ⟨t', rfl⟩ := ry; exact eq_str (fin_bl I q dec_str)
   | _ => exact absurd (show false = true from hs) Bool.false_ne_true
 | byt i =>
   obtain ⟨t, rfl⟩ := rx
   cases y with
   | byt j => obtain ⟨t', rfl⟩ := ry; exact PySem.W.eq_bytes (fin_bl I q dec_byt)
   | _ => exact absurd (show false = true from hs) Bool.false_ne_true
 | _ => cases y <;> exact absurd (show false = true from hs) Bool.false_ne_true
theorem op_ne : OpR X (compareOp .NotEq) rNe := by
 intro pins s σ H x y v u Q I rx ry h
 obtain ⟨hs, q⟩ := h
 cases x with
 | non =>
   cases rx
   cases y with
   | non => cases ry; exact PySem.EqNone.ne_none_none (fin_bl I q (by simp))
   | bl j => cases ry; exact PySem.EqNone.ne_none_bool (fin_bl I q (by simp))
   | int j => obtain ⟨t', rfl⟩ := ry; exact PySem.EqNone.ne_none_int (fin_bl I q (by simp))
   | str j => obtain ⟨t', rfl⟩ := ry; exact PySem.EqNone.ne_none_str (fin_bl I q (by simp))
   | _ => exact absurd (show false = true from hs) Bool.false_ne_true
 | bl i =>
   cases rx
   cases y with
   | non => cases ry; exact PySem.EqNone.ne_bool_none (fin_bl I q (by simp))
   | bl j => cases ry; exact ne_bool (fin_bl I q (congrArg not dec_bl))
   | str j => obtain ⟨t', rfl⟩ := ry; exact PySem.EqMixed.ne_bool_str (fin_bl I q (by simp))
   | _ => exact absurd (show false = true from hs) Bool.false_ne_true
 | int i =>
   obtain ⟨t, rfl⟩ := rx
   cases y with
   | non => cases ry; exact PySem.EqNone.ne_int_none (fin_bl I q (by simp))
   | int j => obtain ⟨t', rfl⟩ := ry; exact ne_int (fin_bl I q (congrArg not dec_int))
   | str j => obtain ⟨t', rfl⟩ := ry; exact PySem.EqMixed.ne_int_str (fin_bl I q (by simp))
   | _ => exact absurd (show false = true from hs) Bool.false_ne_true
 | str i =>
   obtain ⟨t, rfl⟩ := rx
   cases y with
   | non => cases ry; exact PySem.EqNone.ne_str_none (fin_bl I q (by simp))
   | bl j => cases ry; exact PySem.EqMixed.ne_str_bool (fin_bl I q (by simp))
   | int j => obtain ⟨t', rfl⟩ := ry; exact PySem.EqMixed.ne_str_int (fin_bl I q (by simp))
   | str j => obtain ⟨t', rfl⟩ := ry; exact ne_str (fin_bl I q (congrArg not dec_str))
   | _ => exact absurd (show false = true from hs) Bool.false_ne_true
 | byt i =>
   obtain ⟨t, rfl⟩ := rx
   cases y with
   | byt j => obtain ⟨t', rfl⟩ := ry; exact PySem.W.ne_bytes (fin_bl I q (congrArg not dec_byt))
   | _ => exact absurd (show false = true from hs) Bool.false_ne_true
 | _ => cases y <;> exact absurd (show false = true from hs) Bool.false_ne_true
theorem op_lt : OpR X (compareOp .Lt) (rI0 fun i j => .bl (decide (i < j))) := opB0 fun _ _ _ _ _ _ _ q => lt_int q
theorem op_le : OpR X (compareOp .LtE) (rI0 fun i j => .bl (decide (i ≤ j))) := opB0 fun _ _ _ _ _ _ _ q => le_int q
theorem op_gt : OpR X (compareOp .Gt) (rI0 fun i j => .bl (decide (j < i))) := opB0 fun _ _ _ _ _ _ _ q => gt_int q
theorem op_in_str : OpR X (compareOp .In) (fun x y H Q => ∃ i j, x = .str i ∧ y = .str j ∧ Q (.bl (!(Builtin.Str.occurrences j i 0 j.length 1).isEmpty)) H) := by
 intro pins s σ H x y v u Q I rx ry h
 obtain ⟨i, j, rfl, rfl, q⟩ := h
 obtain ⟨t, rfl⟩ := rx
 obtain ⟨t', rfl⟩ := ry
 exact in_str (fin_bl I q rfl)
theorem op_isN : OpR X (compareOp .Is) (fun x y H Q => y = .non ∧ Q (.bl (decide (x = .non))) H) := by
 intro pins s σ H x y v u Q I rx ry h
 obtain ⟨rfl, q⟩ := h
 cases ry
 refine is_none_gen (fin_bl I q ?_)
 cases x <;> first
   | (cases rx; rfl)
   | (obtain ⟨t, rfl⟩ := rx; rfl)
theorem op_notN : OpR X (compareOp .IsNot) (fun x y H Q => y = .non ∧ Q (.bl (!decide (x = .non))) H) := by
 intro pins s σ H x y v u Q I rx ry h
 obtain ⟨rfl, q⟩ := h
 cases ry
 refine isnot_none_gen (fin_bl I q ?_)
 cases x <;> first
   | (cases rx; rfl)
   | (obtain ⟨t, rfl⟩ := rx; rfl)
theorem OpR.or {f : Value → Value → Sem Value} {r r' : R2} (h : OpR X f r) (h' : OpR X f r') : OpR X f (fun x y H Q => r x y H Q ∨ r' x y H Q) := by
 intro pins s σ H x y v u Q I rx ry q
 rcases q with q | q
 · exact h pins s σ H x y v u Q I rx ry q
 · exact h' pins s σ H x y v u Q I rx ry q
theorem nomark (b : Expr) {op : CmpOp} (h : op ≠ .In := by decide) (h2 : op ≠ .NotIn := by decide) : behindInMarks op b = false := by
 have e1 : (op == CmpOp.In) = false := by cases op <;> first | rfl | exact absurd rfl h
 have e2 : (op == CmpOp.NotIn) = false := by cases op <;> first | rfl | exact absurd rfl h2
 cases b <;> simp [behindInMarks, e1, e2]
theorem pe_cmpR {op : CmpOp} {r : R2} (ho : OpR X (compareOp op) r) (ha : PE X a ta) (hb : PE X b tb) (hm : behindInMarks op b = false) : PE X (.Compare a [op] [b] pos) (tOp r ta tb) := by
 intro pins s σ H Q I h
 exact wpAny_Compare1 (binT ha hb I h fun v u s2 x y H2 I2 rx ry q => ho pins s2 σ H2 x y v u Q I2 rx ry q) hm
def tTest (t : TE) : TT := fun σ H Q => t σ H fun x H' => ∃ k, x = .bl k ∧ Q k H'
theorem pt_cmpR {op : CmpOp} {r : R2} (ho : OpR X (compareOp op) r) (ha : PE X a ta) (hb : PE X b tb) (hm : behindInMarks op b = false) : PT X (.Compare a [op] [b] pos) (tTest (tOp r ta tb)) := by
 intro pins s σ H Q I h
 refine wpAny_isTrue_Compare1 (thn (ha pins s σ H _ I h) fun v s1 ⟨x, H1, I1, r1, q1⟩ => thn (hb pins s1 σ H1 _ I1 q1) fun u s2 ⟨y, H2, I2, r2, q2⟩ =>
   thn (ho pins s2 σ H2 x y v u _ I2 r1 r2 q2) fun c s3 ⟨z, H3, I3, r3, k, e, q3⟩ => ?_) hm
 subst e
 cases r3
 exact wpAny_truthy_bool ⟨H3, I3, q3⟩
def tChain (r r' : R2) (ta tb tc : TE) : TE := fun σ H Q => ta σ H fun x H1 => tb σ H1 fun y H2 => r x y H2 fun z H3 => ∃ k, z = .bl k ∧
 (if k = true then tc σ H3 fun w' H4 => r' y w' H4 Q else Q (.bl false) H3)
theorem pe_chain {op op' : CmpOp} {r r' : R2} (ho : OpR X (compareOp op) r) (ho' : OpR X (compareOp op') r') (ha : PE X a ta) (hb : PE X b tb) (hc : PE X c tc)
   (hm : lastMarks [op, op'] [b, c] = false := by with_unfolding_all rfl) : PE X (.Compare a [op, op'] [b, c] pos) (tChain r r' ta tb tc) := by
 intro pins s σ H Q I h
 refine Compare_chain (thn (ha pins s σ H _ I h) fun v s1 ⟨x, H1, I1, r1, q1⟩ => chain_link (thn (hb pins s1 σ H1 _ I1 q1) fun u s2 ⟨y, H2, I2, r2, q2⟩ =>
   thn (ho pins s2 σ H2 x y v u _ I2 r1 r2 q2) fun d s3 ⟨z, H3, I3, r3, k, e, q3⟩ => ?_)) hm
 subst e
 cases r3
 refine wpAny_truthy_bool ?_
 cases k with
 | false => exact ite_ff ⟨.bl false, H3, I3, rfl, q3⟩
 | true => exact ite_tt (chain_last (thn (hc pins s3 σ H3 _ I3 q3) fun w' s4 ⟨z', H4, I4, r4, q4⟩ => ho' pins s4 σ H4 y z' u w' Q I4 r2 r4 q4))
theorem pt_chain {op op' : CmpOp} {r r' : R2} (ho : OpR X (compareOp op) r) (ho' : OpR X (compareOp op') r') (ha : PE X a ta) (hb : PE X b tb) (hc : PE X c tc)
   (hm : lastMarks [op, op'] [b, c] = false := by with_unfolding_all rfl) : PT X (.Compare a [op, op'] [b, c] pos) (tTest (tChain r r' ta tb tc)) := by
 intro pins s σ H Q I h
 refine isTrue_chain (thn (ha pins s σ H _ I h) fun v s1 ⟨x, H1, I1, r1, q1⟩ => test_link (thn (hb pins s1 σ H1 _ I1 q1) fun u s2 ⟨y, H2, I2, r2, q2⟩ =>
   thn (ho pins s2 σ H2 x y v u _ I2 r1 r2 q2) fun d s3 ⟨z, H3, I3, r3, k, e, q3⟩ => ?_)) hm
 subst e
 cases r3
 refine wpAny_truthy_bool ?_
 cases k with
 | false =>
   obtain ⟨k', e', q'⟩ := q3
   cases e'
   exact ite_ff ⟨H3, I3, q'⟩
 | true =>
   refine ite_tt (test_last (thn (hc pins s3 σ H3 _ I3 q3) fun w' s4 ⟨z', H4, I4, r4, q4⟩ => thn (ho' pins s4 σ H4 y z' u w' _ I4 r2 r4 q4) fun d' s5 ⟨z2, H5, I5, r5, k2, e2, q5⟩ => ?_))
   subst e2
   cases r5
   exact wpAny_truthy_bool ⟨H5, I5, q5⟩
theorem line63 : (sizeLine : Nat) < 2 ^ 63 := by rw [sizeLine_eq]; decide
theorem zM : OpR X (binaryOp .Add) (fun x y H Q => ∃ i j, x = .str i ∧ y = .str j ∧ i.length + j.length ≤ sizeLine ∧ Q (.str (i ++ j)) H) := by
 intro pins s σ H x y v u Q I rx ry h
 obtain ⟨i, j, rfl, rfl, hz, q⟩ := h
 obtain ⟨t, rfl⟩ := rx
 obtain ⟨t', rfl⟩ := ry
 exact add_str (fun t' tk => ⟨.str (i ++ j), H, I.tok _, ⟨_, rfl⟩, q⟩) hz
theorem vals1 {x : V} {us : List Value} (r : Vals [x] us) : ∃ u, us = [u] ∧ RelV x u := by
 cases r with
 | cons r1 r2 => cases r2; exact ⟨_, rfl, r1⟩
theorem vals2 {x y : V} {us : List Value} (r : Vals [x, y] us) : ∃ u w', us = [u, w'] ∧ RelV x u ∧ RelV y w' := by
 cases r with
 | cons r1 r2 =>
   cases r2 with
   | cons r3 r4 => cases r4; exact ⟨_, _, rfl, r1, r3⟩
theorem call_abs : CallR X (.builtin "abs") (fun xs H Q => ∃ i, xs = [.int i] ∧ Q (.int (if i < 0 then -i else i)) H) := by
 intro pins s σ H xs us Q I r h
 obtain ⟨i, rfl, q⟩ := h
 obtain ⟨u, rfl, t, rfl⟩ := vals1 r
 exact call_abs_int fun u tk => ⟨.int (if i < 0 then -i else i), H, I.tok _, ⟨_, rfl⟩, q⟩
theorem call_str_int : CallR X (.type "str") (fun xs H Q => ∃ i, xs = [.int i] ∧ i.natAbs.log2 < 1920 ∧ Q (.str (toString i)) H) := by
 intro pins s σ H xs us Q I r h
 obtain ⟨i, rfl, hz, q⟩ := h
 obtain ⟨u, rfl, t, rfl⟩ := vals1 r
 exact PySem.P.str_of_int hz ⟨.str _, H, I.tok _, ⟨_, rfl⟩, q⟩
end
end L2
namespace L2
open PySem PySem.Spec PyProof.Rows
structure ObjM (h : Heap) (x dx C : Addr) (mA : Str → Option Value) : Prop where
 obj : h.get? x = some (PySem.W.instObj C dx)
 ns : h.Ns1 dx mA
 ne : dx ≠ x
theorem lookIn_ns {h : Heap} {dx : Addr} {mA : Str → Option Value} (n : h.Ns1 dx mA) : ∃ od, h.get? dx = some od ∧ ∀ name, PySem.W.lookIn name od = some (mA name) := by
 obtain ⟨o, es, ep, ho, hd, hk, _, hm⟩ := n
 refine ⟨o, ho, fun name => ?_⟩
 have e := hm name
 unfold nsFind findBy at e
 rw [← Array.find?_toList] at e
 unfold PySem.W.lookIn
 rw [hd]
 dsimp only
 split
 · rename_i y q
   rw [q] at e
   exact congrArg some e
 · rename_i q
   rw [q] at e
   have a : es.toList.any (·.refKey) = false := by
     rw [List.any_eq_false]
     intro y hy
     obtain ⟨z, t, hkey⟩ := hk y (Array.mem_toList_iff.mp hy)
     simp [DictEntry.refKey, hkey]
   have a' : ¬ es.toList.any (·.refKey) = true := by rw [a]; exact Bool.false_ne_true
   rw [if_neg a']
   exact congrArg some e
theorem ObjM.look {h : Heap} {x dx C : Addr} {mA : Str → Option Value} (I : ObjM h x dx C mA) : ∃ od, PySem.W.InstAt h x (PySem.W.instObj C dx) C (some od) ∧ ∀ name, PySem.W.lookIn name od = some (mA name) :=
 let ⟨od, ho, hl⟩ := lookIn_ns I.ns
 ⟨od, ⟨I.obj, rfl, rfl, ho⟩, hl⟩
section
variable {prog : Program} {w : World} {A : Around} {E : Value → Shared → Prop} {s : Shared} {K : PySem.W.Frag} {x dx C f : Addr} {mA : Str → Option Value} {name : Str} {v : Value}
theorem get_map {expr : Bool} {Q : Value → Shared → Prop} (X : K.In s.heap) (I : ObjM s.heap x dx C mA) (hg : PySem.W.plainGet K C name = true) (hh : PySem.W.hasDictIn K C = true)
   (ha : PySem.W.findIn K (.ref C) name = some none) (hv : mA name = some v) (hv' : PySem.W.handedIn v = true) (h : Q v { s with toks := s.toks + 1 }) :
   wpAny (model prog w) A (getAttr (.ref x) name expr) Q E s := by
 obtain ⟨od, J, hl⟩ := I.look
 exact PySem.W.get_value X J (PySem.W.plainGet_of hg).1 (PySem.W.findObj_own hh ha rfl (by rw [hl, hv])) hv' h
theorem get_meth {pl : Sem Bool} {Q : Value × List Value → Shared → Prop} (X : K.In s.heap) (I : ObjM s.heap x dx C mA) (hg : PySem.W.plainGet K C name = true)
   (hf : PySem.W.findIn K (.ref C) name = some (some (.ref f))) (ht : PySem.W.isFn K (.ref f) = true) (hv : mA name = none) (h : Q (.ref f, [.ref x]) s) :
   wpAny (model prog w) A (getMethod (.ref x) name pl) Q E s := by
 obtain ⟨od, J, hl⟩ := I.look
 exact PySem.W.method_fn X J (PySem.W.plainGet_of hg).1 (PySem.W.plainGet_of hg).2 hf (beq_iff_eq.mp ht) (by show (PySem.W.lookIn name od).map (·.isSome) = some false; rw [hl, hv]; rfl) h
theorem set_map {ns : List Str} {Q : Unit → Shared → Prop} (X : K.In s.heap) (I : ObjM s.heap x dx C mA)
   (hs : PySem.W.findIn K (.ref C) "__setattr__" = some (some (.builtin "object.__setattr__"))) (hp : PySem.W.plainOver K C = true) (ht : PySem.W.takerIn K C name = some none) (hh : PySem.W.hasDictIn K C = true)
   (hw : PySem.Within mA ns) (hsz : ns.length ≤ sizeLine)
   (h : ∀ h', ObjM h' x dx C (fun y => if y = name then some v else mA y) → Heap.SameBut dx s.heap h' → Q () { s with heap := h', toks := s.toks + 2 }) :
   wpAny (model prog w) A (setAttr (.ref x) name v) Q E s := by
 obtain ⟨od, J, hl⟩ := I.look
 refine PySem.W.set_plain X J hs (PySem.W.osa_open (s := { s with toks := s.toks + 1 }) (r := none) X J hp ht fun b => ?_)
 obtain ⟨cd, hc, hd'⟩ := PySem.W.any_some hh
 have hx : s.heap.get? x = some ⟨.ref C, some dx, .plain, #[]⟩ := I.obj
 refine wpAny_bind (wpAny_pure (wpAny_bind (wpAny_bind (wpAny_loadPart hx (wpAny_bind (PySem.W.Looks.here (s := { s with toks := s.toks + 1 }) (PySem.W.looks_clsIn X hc) ?_))))))
 rw [hd']
 refine wpAny_pure (a := some dx) (wpAny_bind (wpAny_pure (wpAny_bind ?_)))
 refine wpAny_nsSet1 (s := { s with toks := s.toks + 1 }) I.ns fun h' hn2 hs2 => ?_
 obtain ⟨oD, esD, epD, hoD, hdD, hcD⟩ := hn2.count (PySem.Within.cons name v hw)
 refine wpAny_bind (wpAny_lookBehind hoD (by rw [hdD]; exact pastItsLine_dict (Nat.le_trans hcD (by rw [List.length_cons]; omega))) ?_)
 exact wpAny_pure (h _ ⟨(hs2.2 _ (Ne.symm I.ne)).trans I.obj, hn2, I.ne⟩ hs2)
theorem make_map {R : Result → Shared → Prop} {vs : List Value} {kw : List (Str × Value)} (X : K.In s.heap) (hm : PySem.W.makesIn K C = true)
   (hi : PySem.W.findIn K (.ref C) "__init__" = some (some (.ref f))) (hf : PySem.W.typeIn K (.ref f) = some (.type "function"))
   (h : codeAny (model prog w) (A.under (.builtin "type.__call__" ⟨.ref C :: vs, kw⟩)) (.call (.ref f) ⟨.ref (s.heap.objs.size + 1) :: vs, kw⟩) (PySem.W.InitBack (s.heap.objs.size + 1) R)
     { s with heap := (s.heap.push PySem.W.emptyDict).push (PySem.W.instObj C s.heap.objs.size) }) :
   codeAny (model prog w) A (.call (.ref C) ⟨vs, kw⟩) R s := by
 obtain ⟨hh, g, d, t, os⟩ := s
 exact PySem.W.make_core (PySem.W.makes_of X hm) (PySem.W.looks_findIn X hi) (fun self => PySem.W.bind_fn X self hf) (.inl rfl) h
end
def putF (f : Str) (v : V) : List (Str × V) → List (Str × V)
 | [] => [(f, v)]
 | (g, x) :: r => if g = f then (g, v) :: r else (g, x) :: putF f v r
theorem lookup_putF (f g : Str) (v : V) : ∀ fs : List (Str × V), (putF f v fs).lookup g = if g = f then some v else fs.lookup g
 | [] => by
   show List.lookup g [(f, v)] = _
   by_cases h : g = f
   · have hb : (g == f) = true := beq_iff_eq.mpr h
     simp only [List.lookup, hb, if_pos h]
   · have hb : (g == f) = false := beq_eq_false_iff_ne.mpr h
     simp only [List.lookup, hb, if_neg h]
 | (k, x) :: r => by
   have ih := lookup_putF f g v r
   rw [show putF f v ((k, x) :: r) = (if k = f then (k, v) :: r else (k, x) :: putF f v r) from rfl]
   by_cases hk : k = f
   · rw [if_pos hk]
     by_cases h : g = k
     · have hb : (g == k) = true := beq_iff_eq.mpr h
       simp only [List.lookup, hb, if_pos (h.trans hk)]
     · have hb : (g == k) = false := beq_eq_false_iff_ne.mpr h
       simp only [List.lookup, hb, if_neg (fun e : g = f => h (e.trans hk.symm))]
   · rw [if_neg hk]
     by_cases h : g = k
     · have hb : (g == k) = true := beq_iff_eq.mpr h
       simp only [List.lookup, hb, if_neg (fun e : g = f => hk (h.symm.trans e))]
     · have hb : (g == k) = false := beq_eq_false_iff_ne.mpr h
       simp only [List.lookup, hb]
       exact ih
theorem keys_putF (f : Str) (v : V) : ∀ fs : List (Str × V), f ∈ (putF f v fs).map (·.1) ∧ ∀ g, g ∈ fs.map (·.1) → g ∈ (putF f v fs).map (·.1)
 | [] => ⟨by simp [putF], fun g h => by simp at h⟩
 | (k, x) :: r => by
   obtain ⟨i1, i2⟩ := keys_putF f v r
   rw [show putF f v ((k, x) :: r) = (if k = f then (k, v) :: r else (k, x) :: putF f v r) from rfl]
   by_cases hk : k = f
   · rw [if_pos hk]
     subst hk
     exact ⟨by simp, fun g h => by simpa using h⟩
   · rw [if_neg hk]
     refine ⟨?_, fun g h => ?_⟩
     · rw [List.map_cons]
       exact List.mem_cons_of_mem _ i1
     · rw [List.map_cons] at h ⊢
       rcases List.mem_cons.mp h with e | e
       · exact List.mem_cons.mpr (.inl e)
       · exact List.mem_cons_of_mem _ (i2 g e)
theorem length_putF (f : Str) (v : V) : ∀ fs : List (Str × V), (putF f v fs).length ≤ fs.length + 1
 | [] => by simp [putF]
 | (k, x) :: r => by
   have ih := length_putF f v r
   rw [show putF f v ((k, x) :: r) = (if k = f then (k, v) :: r else (k, x) :: putF f v r) from rfl]
   by_cases hk : k = f
   · rw [if_pos hk, List.length_cons, List.length_cons]; omega
   · rw [if_neg hk, List.length_cons, List.length_cons]; omega
theorem RelO.some_of {v : V} {o : Option Value} (r : RelO (some v) o) : ∃ u, o = some u ∧ RelV v u := by
 cases o with
 | none => exact (show False from r).elim
 | some u => exact ⟨u, rfl, r⟩
theorem RelO.none_of {o : Option Value} (r : RelO none o) : o = none := by
 cases o with
 | none => rfl
 | some u => exact (show False from r).elim
theorem handed_of {v : V} {u : Value} (r : RelV v u) : PySem.W.handedIn u = true := by
 cases v with
 | non => cases (show u = Value.none from r); rfl
 | bl b => cases (show u = Value.bool b from r); rfl
 | int i => obtain ⟨t, e⟩ := (show ∃ t, u = Value.int i t from r); cases e; rfl
 | str x => obtain ⟨t, e⟩ := (show ∃ t, u = Value.str x t from r); cases e; rfl
 | byt b => obtain ⟨t, e⟩ := (show ∃ t, u = Value.bytes b t from r); cases e; rfl
 | flt b => obtain ⟨t, e⟩ := (show ∃ t, u = Value.float b t from r); cases e; rfl
 | ref a => cases (show u = Value.ref a from r); rfl
 | ty n => cases (show u = Value.type n from r); rfl
section
variable {P : Program} {w : World} {H H' : Hp} {h h' : Heap} {a C dx : Addr} {fs fs' : List (Str × V)}
theorem ins_get (hok : HOk P w H h) (e : H a = some (.ins C dx fs)) : ∃ mA, ObjM h a dx C mA ∧ (∀ f, RelO (fs.lookup f) (mA f)) ∧ PySem.Within mA (fs.map (·.1)) ∧ fs.length ≤ 1000 ∧ H dx = some (.own a) := by
 obtain ⟨d, z, ne, ob, mA, n, r, q⟩ := (show ObjOk P w H h a (.ins C dx fs) from hok a _ e)
 exact ⟨mA, ⟨ob, n, ne⟩, r, q, z, d⟩
end
structure Cls (K : PySem.W.Frag) (C : Addr) : Prop where
 pg : PySem.W.plainGet K C Str.empty = true
 hd : PySem.W.hasDictIn K C = true
 po : PySem.W.plainOver K C = true
 sa : PySem.W.findIn K (.ref C) "__setattr__" = some (some (.builtin "object.__setattr__"))
theorem Cls.get {K : PySem.W.Frag} {C : Addr} (c : Cls K C) (f : Str) : PySem.W.plainGet K C f = true := c.pg
def NoAttr (K : PySem.W.Frag) (C : Addr) (f : Str) : Prop := PySem.W.findIn K (.ref C) f = some none
theorem NoAttr.taker {K : PySem.W.Frag} {C : Addr} {f : Str} (n : NoAttr K C f) : PySem.W.takerIn K C f = some none := by
 unfold PySem.W.takerIn
 rw [show PySem.W.findIn K (.ref C) f = some none from n]
 rfl
structure Con (K : PySem.W.Frag) (C : Addr) (f : Str) (v : V) (u : Value) : Prop where
 at_ : PySem.W.findIn K (.ref C) f = some (some u)
 rel : RelV v u
 get : PySem.W.specialIn K u "__get__" = some none
 cp : PySem.W.copiedNames.contains f = false
structure Meth (K : PySem.W.Frag) (C : Addr) (m : Str) (f : Addr) : Prop where
 at_ : PySem.W.findIn K (.ref C) m = some (some (.ref f))
 fn : PySem.W.isFn K (.ref f) = true
 kp : PySem.W.keepIn K (.ref f) = true
section
variable {X : Cx} {pins : List (Addr × Obj)} {σ : St} {H : Hp} {s : Shared} {a C dx : Addr} {fs : List (Str × V)} {f : Str} {v : V} {A : Around} {E : Value → Shared → Prop}
theorem getattr_ok {b : Bool} {Q : Value → Shared → Prop} (I : Inv X pins σ H s) (e : H a = some (.ins C dx fs)) (c : Cls X.K C) (n : NoAttr X.K C f) (l : fs.lookup f = some v)
   (h : ∀ u s', Inv X pins σ H s' → RelV v u → Q u s') : wpAny (model X.prog X.w) A (getAttr (.ref a) f b) Q E s := by
 obtain ⟨mA, O, r, _, _, _⟩ := ins_get I.hok e
 obtain ⟨u, hu, ru⟩ := RelO.some_of (v := v) (o := mA f) (by rw [← l]; exact r f)
 exact get_map I.kIn O (c.get f) c.hd n hu (handed_of ru) (h u _ (I.tok _) ru)
theorem getmeth_ok {m : Str} {g : Addr} {pl : Sem Bool} {Q : Value × List Value → Shared → Prop} (I : Inv X pins σ H s) (e : H a = some (.ins C dx fs)) (c : Cls X.K C) (k : Meth X.K C m g) (l : fs.lookup m = none)
   (h : Q (.ref g, [.ref a]) s) : wpAny (model X.prog X.w) A (getMethod (.ref a) m pl) Q E s := by
 obtain ⟨mA, O, r, _, _, _⟩ := ins_get I.hok e
 have hn : mA m = none := RelO.none_of (by rw [← l]; exact r m)
 exact get_meth I.kIn O (c.get m) k.at_ k.fn hn h
theorem setattr_ok {y : V} {u : Value} {Q : Unit → Shared → Prop} (I : Inv X pins σ H s) (e : H a = some (.ins C dx fs)) (c : Cls X.K C) (n : NoAttr X.K C f) (hl : fs.length < 1000) (ry : RelV y u)
   (h : ∀ s', Inv X pins σ (upd H a (.ins C dx (putF f y fs))) s' → Q () s') : wpAny (model X.prog X.w) A (setAttr (.ref a) f u) Q E s := by
 obtain ⟨mA, O, r, wi, _, ho⟩ := ins_get I.hok e
 have hz : (fs.map (·.1)).length ≤ sizeLine := by rw [List.length_map, sizeLine_eq]; omega
 refine set_map I.kIn O c.sa c.po n.taker c.hd wi hz fun h' O' sb => h _ ?_
 have hd : ∃ o, h'.get? dx = some o := let ⟨o, _, _, e', _⟩ := O'.ns; ⟨o, e'⟩
 refine I.write (x := a) (e := dx) (by rw [e]; exact True.intro) (.inr ho) (fun b q hb z => (sb.2 b hb).trans z) hd ?_
 refine ⟨by rw [zO O.ne]; exact ho, ?_, O.ne, O'.obj, _, O'.ns, fun g => ?_, fun g hg => ?_⟩
 · have := length_putF f y fs; omega
 · show RelO ((putF f y fs).lookup g) (if g = f then some u else mA g)
   rw [lookup_putF]
   by_cases q : g = f
   · rw [if_pos q, if_pos q]; exact ry
   · rw [if_neg q, if_neg q]; exact r g
 · by_cases q : g = f
   · rw [q]; exact (keys_putF f y fs).1
   · refine (keys_putF f y fs).2 g (wi g fun z => hg ?_)
     show (if g = f then some u else mA g) = none
     rw [if_neg q]; exact z
theorem Inv.made (I : Inv X pins σ H s) : Inv X pins σ (upd (upd H s.heap.objs.size (.own (s.heap.objs.size + 1))) (s.heap.objs.size + 1) (.ins C s.heap.objs.size []))
   { s with heap := (s.heap.push PySem.W.emptyDict).push (PySem.W.instObj C s.heap.objs.size) } := by
 have e1 : (s.heap.push PySem.W.emptyDict).get? s.heap.objs.size = some PySem.W.emptyDict := Heap.get?_push_size s.heap rfl
 have e2 : ((s.heap.push PySem.W.emptyDict).push (PySem.W.instObj C s.heap.objs.size)).get? (s.heap.objs.size + 1) = some (PySem.W.instObj C s.heap.objs.size) := by
   have := Heap.get?_push_size (s.heap.push PySem.W.emptyDict) (o := PySem.W.instObj C s.heap.objs.size) rfl
   rwa [Heap.size_push] at this
 have e3 : (s.heap.push PySem.W.emptyDict).Ns s.heap.objs.size (fun _ => none) := ⟨PySem.W.emptyDict, #[], _, e1, rfl, (fun e he => absurd he (by simp)), fun _ => rfl⟩
 have I1 := I.laid (a := s.heap.objs.size) (o := .own (s.heap.objs.size + 1)) (h' := s.heap.push PySem.W.emptyDict) (t' := s.toks) (fun b u q => Heap.get?_push_of_some _ q) (Nat.le_refl _) ⟨_, e1⟩
 refine I1.laid (a := s.heap.objs.size + 1) (o := .ins C s.heap.objs.size []) (t' := s.toks) (fun b u q => Heap.get?_push_of_some _ q) (Nat.le_of_eq (Heap.size_push _ _)) ?_
 have ne : s.heap.objs.size ≠ s.heap.objs.size + 1 := Nat.ne_of_lt (Nat.lt_succ_self _)
 refine ⟨by rw [zO ne, zE], Nat.zero_le _, ne, e2, fun _ => none, (Heap.Ns1.of_empty e3).at fun o q => Heap.get?_push_of_some _ q, fun _ => True.intro, fun y hy => absurd rfl hy⟩
theorem attr_of {prog : Program} {w : World} {env : Env} {e : Expr} {f : Str} {pos : Pos} {s : Shared} {Q : Value → Shared → Prop} (hb : attributeBase e f env (eval e env) = eval e env)
   (h : wpAny (model prog w) A (eval e env) (fun o s₁ => wpAny (model prog w) A (getAttr o f true) Q E s₁) E s) : wpAny (model prog w) A (eval (.Attribute e f pos) env) Q E s :=
 Attribute_any_ h (by rw [arm_eval_Attribute, hb])
end
def tFld (K : PySem.W.Frag) (ta : TE) (f : Str) : TE := fun σ H Q => ta σ H fun x H1 => ∃ a C dx fs v, x = .ref a ∧ H1 a = some (.ins C dx fs) ∧ Cls K C ∧ NoAttr K C f ∧ fs.lookup f = some v ∧ Q v H1
def sFld (K : PySem.W.Frag) (ta tv : TE) (f : Str) : TS := fun D σ H => tv σ H fun y H1 => ta σ H1 fun x H2 => ∃ a C dx fs, x = .ref a ∧ H2 a = some (.ins C dx fs) ∧ Cls K C ∧ NoAttr K C f ∧ fs.length < 1000 ∧
 D.nx σ (upd H2 a (.ins C dx (putF f y fs)))
section
variable {X : Cx} {o e value : Expr} {f : Str} {pos pos' tpos : Pos} {ta tv : TE}
theorem pe_fld (he : PE X e ta) (hb : attributeBase e f X.env (eval e X.env) = eval e X.env) : PE X (.Attribute e f pos) (tFld X.K ta f) := by
 intro pins s σ H Q I h
 refine attr_of hb (thn (he pins s σ H _ I h) fun u s1 ⟨x, H1, I1, rx, a, C, dx, fs, v, ex, ea, c, n, l, q⟩ => ?_)
 subst ex
 obtain rfl : u = Value.ref a := rx
 exact getattr_ok I1 ea c n l fun u' s2 I2 ru => ⟨v, H1, I2, ru, q⟩
theorem ps_fld (ha : PE X o ta) (hv : PE X value tv) (hs : swapsWith value (some (.Attribute o f pos')) pos.line X.env = pure false) : PS X (.Assign [.Attribute o f pos'] value pos) (sFld X.K ta tv f) := by
 intro pins s σ H D I h
 refine plainObj_wpAny_Assign_Attribute (thn (hv pins s σ H _ I h) fun u s1 ⟨y, H1, I1, ry, q⟩ => thn (ha pins s1 σ H1 _ I1 q) fun ov s2 ⟨x, H2, I2, rx, a, C, dx, fs, ex, ea, c, n, l, q2⟩ => ?_) hs
 subst ex
 obtain rfl : ov = Value.ref a := rx
 exact setattr_ok I2 ea c n l ry fun s3 I3 => ⟨σ, _, I3, q2⟩
end
section
variable {X : Cx} {pins : List (Addr × Obj)} {σ : St} {H : Hp} {s : Shared} {A : Around} {E : Value → Shared → Prop} {Q : Value → Shared → Prop} {c : Value} {b : Bool}
inductive TyOf (K : PySem.W.Frag) (H : Hp) : V → Value → Prop where
 | non : TyOf K H .non (.type "NoneType")
 | bl (x : Bool) : TyOf K H (.bl x) (.type "bool")
 | int (i : Int) : TyOf K H (.int i) (.type "int")
 | str (x : Str) : TyOf K H (.str x) (.type "str")
 | flt (x : UInt64) : TyOf K H (.flt x) (.type "float")
 | lst {a : Addr} {xs : List V} (e : H a = some (.lst xs)) : TyOf K H (.ref a) (.type "list")
 | frz {a : Addr} {o : Obj} {xs : List V} (e : H a = some (.frz o (.lst xs))) : TyOf K H (.ref a) (.type "list")
 | tup {a : Addr} {xs : List V} (e : H a = some (.tup xs)) : TyOf K H (.ref a) (.type "tuple")
 | dK {a : Addr} {kvs : List (Key × V)} (e : H a = some (.dK kvs)) : TyOf K H (.ref a) (.type "dict")
 | dT {a : Addr} {kvs : List (List Key × V)} (e : H a = some (.dT kvs)) : TyOf K H (.ref a) (.type "dict")
 | ins {a C dx : Addr} {fs : List (Str × V)} (e : H a = some (.ins C dx fs)) (cl : Cls K C) (ha : PySem.W.findIn K (.ref C) "__class__" = some (some (.builtin "object.__class__")))
     (hn : PySem.W.specialIn K (.builtin "object.__class__") "__get__" = some (some (.builtin "getset_descriptor.__get__"))) (htk : PySem.W.takesIn K (.builtin "object.__class__") = some true)
     (hm : PySem.W.mroIn K C (.type "object") = some true) : TyOf K H (.ref a) (.ref C)
end
end L2
namespace L2
open PySem PySem.Spec PyProof.Rows
structure Room (k : Nat) (A : Around) : Prop where
 hd : A.handled = none
 dp : A.depth + 3 * k + 5 < recursionLimit
 un : A.units + 16 * k + 200 < cLine
theorem Room.mono {j k : Nat} {A : Around} (r : Room k A) (h : j ≤ k) : Room j A := ⟨r.hd, by have := r.dp; omega, by have := r.un; omega⟩
theorem Room.deeper {k : Nat} {A : Around} (r : Room (k + 1) A) (env : Env) : Room k (A.deeper env) :=
 ⟨r.hd, by have := r.dp; show A.depth + 1 + 3 * k + 5 < _; omega, by have := r.un; show A.units + 3 + 16 * k + 200 < _; omega⟩
theorem Room.in1 {k : Nat} {A : Around} (r : Room (k + 1) A) : Room k A.in1 :=
 ⟨r.hd, by have := r.dp; show A.depth + 3 * k + 5 < _; omega, by have := r.un; show A.units + 1 + 16 * k + 200 < _; omega⟩
theorem make_depth {A : Around} {C : Addr} {us : List Value} {kw : List (Str × Value)} : (A.under (.builtin "type.__call__" ⟨.ref C :: us, kw⟩)).depth = A.depth + 1 := by
 first | rfl | simp [Around.under, Code.weight, Code.isCreation, Code.isGuard, Code.isCaller, Code.frames, Code.isFrame, guardIds]
theorem make_units {A : Around} {C : Addr} {us : List Value} {kw : List (Str × Value)} : (A.under (.builtin "type.__call__" ⟨.ref C :: us, kw⟩)).units = A.units + 1 := by
 first | rfl | simp [Around.under, Code.cUnits, Code.frames, Code.isFrame]
theorem Room.make {k : Nat} {A : Around} (r : Room (k + 1) A) (C : Addr) (us : List Value) (kw : List (Str × Value)) : Room k (A.under (.builtin "type.__call__" ⟨.ref C :: us, kw⟩)) :=
 ⟨r.hd, by have := r.dp; rw [make_depth]; omega, by have := r.un; rw [make_units]; omega⟩
theorem Room.depth {k : Nat} {A : Around} (r : Room k A) : A.depth < recursionLimit := by have := r.dp; omega
theorem Room.units {k : Nat} {A : Around} (r : Room k A) : A.units + 64 < cLine := by have := r.un; omega
def tNil : TA := fun _ H Q => Q [] H
def tCons (ta : TE) (tr : TA) : TA := fun σ H Q => ta σ H fun x H1 => tr σ H1 fun xs H2 => Q (x :: xs) H2
section
variable {X : Cx} {e : Expr} {es : List Expr} {te : TE} {t : TA} {pos : Pos}
theorem zB : PA X [] tNil := fun _ _ _ _ H Q I h => Calls.spliced_nil ⟨[], H, I, .nil, h⟩
theorem zA (ha : PE X e te) (hr : PA X es t) (hs : starEach (e :: es) X.env = (false, eval e X.env) :: starEach es X.env := by rfl) : PA X (e :: es) (tCons te t) := by
 intro pos pins s σ H Q I h
 rw [hs]
 show wpAny _ _ (spliced ((false, eval e X.env) :: backTo pos (starEach es X.env))) _ _ s
 refine Calls.spliced_cons (thn (ha pins s σ H _ I h) fun u s1 ⟨x, H1, I1, r1, q1⟩ => ?_)
 exact thn (hr pos pins s1 σ H1 _ I1 q1) fun us s2 ⟨xs, H2, I2, r2, q2⟩ => ⟨x :: xs, H2, I2, .cons r1 r2, q2⟩
def tTup (t : TA) : TE := fun σ H Q => t σ H fun xs H1 => xs.length ≤ sizeLine ∧ ∀ p, H1 p = none → Q (.ref p) (upd H1 p (.tup xs))
def tLst (t : TA) : TE := fun σ H Q => t σ H fun xs H1 => xs.length ≤ sizeLine ∧ ∀ p, H1 p = none → Q (.ref p) (upd H1 p (.lst xs))
theorem pe_tup {x1} (h : PA X es t) : PE X (.Tuple es x1 pos) (tTup t) := by
 intro pins s σ H Q I hq
 refine wpAny_Tuple_spliced (thn (h pos pins s σ H _ I hq) fun us s1 ⟨xs, H1, I1, r, z, q⟩ => ⟨by rw [← r.length]; exact z, ?_⟩)
 have hf : H1 s1.heap.objs.size = none := I1.hok.fresh (Nat.le_refl _)
 refine ⟨.ref s1.heap.objs.size, upd H1 s1.heap.objs.size (.tup xs), I1.laid (t' := s1.toks) (fun b u e => Heap.get?_push_of_some _ e) (Nat.le_refl _) ?_, rfl, q _ hf⟩
 exact ⟨z, us, r, ⟨_, Heap.get?_push_size _ rfl, rfl, _, rfl⟩⟩
theorem pe_lst (h : PA X es t) : PE X (.List es pos) (tLst t) := by
 intro pins s σ H Q I hq
 refine wpAny_List_spliced (thn (h pos pins s σ H _ I hq) fun us s1 ⟨xs, H1, I1, r, z, q⟩ => ⟨by rw [← r.length]; exact z, ?_⟩)
 have hf : H1 s1.heap.objs.size = none := I1.hok.fresh (Nat.le_refl _)
 refine ⟨.ref s1.heap.objs.size, upd H1 s1.heap.objs.size (.lst xs), I1.laid (t' := s1.toks) (fun b u e => Heap.get?_push_of_some _ e) (Nat.le_refl _) ?_, rfl, q _ hf⟩
 exact ⟨z, us, 0, r, Heap.get?_push_size _ rfl⟩
end
abbrev Sp := List V → Hp → VK → XK → Prop
abbrev CXT := List Env → Hp → Shared → XK → Value → Shared → Prop
structure Env0 (P : Program) (w : World) (K : PySem.W.Frag) (mg : Str → Option Value) (base : Heap) (A : Around) (outer : List Env) (s : Shared) (H : Hp) : Prop where
 frames : A.frames = some outer
 mod : Mod K mg base
 bs : ∀ b o, base.get? b = some o → s.heap.get? b = some o ∧ H b = none
 bsz : base.objs.size ≤ s.heap.objs.size
 funs : s.heap.FunFrames base outer
 frf : ∀ b ∈ frs outer, H b = none
 hok : HOk P w H s.heap
 bare : AllBare s.gens
def CE (outer : List Env) (P : Program) (w : World) (H : Hp) (s : Shared) (Q : VK) (u : Value) (s' : Shared) : Prop :=
 ∃ v H', s'.os = s.os ∧ AllBare s'.gens ∧ Un (frs outer) [] H H' s.heap s'.heap ∧ HOk P w H' s'.heap ∧ RelV v u ∧ Q v H'
def CR (CX : CXT) (outer : List Env) (P : Program) (w : World) (H : Hp) (s : Shared) (Q : VK) (E : XK) (r : Result) (s' : Shared) : Prop :=
 match r with
 | .ok (.ret u) => CE outer P w H s Q u s'
 | .ok _ => False
 | .error e => CX outer H s E e s'
structure FnOk (P : Program) (w : World) (K : PySem.W.Frag) (mg : Str → Option Value) (base : Heap) (CX : CXT) (k : Nat) (f : Addr) (fd : FuncData) (ps : List Str) (sp : Sp) : Prop where
 len : ∀ vs H Q E, sp vs H Q E → vs.length = ps.length
 run : ∀ (A : Around) (outer : List Env) (s : Shared) (H : Hp) (args : Args) (us : List Value) (vs : List V) (Q : VK) (E : XK), Room k A → Env0 P w K mg base A outer s H → BindsTo s fd args (ps.zip us) → Vals vs us → sp vs H Q E →
   codeAny (model P w) A (.call (.ref f) args) (CR CX outer P w H s Q E) s
theorem FnOk.mono {P : Program} {w : World} {K : PySem.W.Frag} {mg : Str → Option Value} {base : Heap} {CX : CXT} {j k : Nat} {f : Addr} {fd : FuncData} {ps : List Str} {sp : Sp} (F : FnOk P w K mg base CX j f fd ps sp) (h : j ≤ k) :
   FnOk P w K mg base CX k f fd ps sp := ⟨F.len, fun A outer s H args us vs Q E hr => F.run A outer s H args us vs Q E (hr.mono h)⟩
theorem FnOk.imp {P : Program} {w : World} {K : PySem.W.Frag} {mg : Str → Option Value} {base : Heap} {CX : CXT} {k : Nat} {f : Addr} {fd : FuncData} {ps : List Str} {sp sp' : Sp} (F : FnOk P w K mg base CX k f fd ps sp)
   (h : ∀ vs H Q E, sp' vs H Q E → sp vs H Q E) : FnOk P w K mg base CX k f fd ps sp' :=
 ⟨fun vs H Q E q => F.len vs H Q E (h _ _ _ _ q), fun A outer s H args us vs Q E hr he hb hv hs => F.run A outer s H args us vs Q E hr he hb hv (h _ _ _ _ hs)⟩
theorem Env0.make {P : Program} {w : World} {K : PySem.W.Frag} {mg : Str → Option Value} {base : Heap} {A : Around} {outer : List Env} {s : Shared} {H : Hp} (e : Env0 P w K mg base A outer s H) (C : Addr) (us : List Value) (kw : List (Str × Value)) :
   Env0 P w K mg base (A.under (.builtin "type.__call__" ⟨.ref C :: us, kw⟩)) outer s H := ⟨by first | exact e.frames | (simpa [Around.under, Code.envs, Code.isFrame, pushEnvs] using e.frames), e.mod, e.bs, e.bsz, e.funs, e.frf, e.hok, e.bare⟩
theorem Env0.in1 {P : Program} {w : World} {K : PySem.W.Frag} {mg : Str → Option Value} {base : Heap} {A : Around} {outer : List Env} {s : Shared} {H : Hp} (e : Env0 P w K mg base A outer s H) :
   Env0 P w K mg base A.in1 outer s H := ⟨e.frames, e.mod, e.bs, e.bsz, e.funs, e.frf, e.hok, e.bare⟩
section
variable {X : Cx} {pins : List (Addr × Obj)} {σ : St} {H : Hp} {s s' : Shared}
theorem Inv.env0 (I : Inv X pins σ H s) : Env0 X.prog X.w X.K X.mg X.base X.A X.stack s H :=
 ⟨I.ok.frames, I.ok.mod, I.bs, Nat.le_trans I.ok.bsz I.sz, I.stack, I.stkFree, I.hok, I.bare⟩
theorem Inv.after {Q : VK} {u : Value} (I : Inv X pins σ H s) (h : CE X.stack X.prog X.w H s Q u s') : EP X pins σ Q u s' := by
 obtain ⟨v, H', os, bare, un, hok, r, q⟩ := h
 obtain ⟨hh, g, d, t, os'⟩ := s'
 obtain rfl : os' = s.os := os
 exact ⟨v, H', I.call (h' := hh) (g' := g) (d' := d) (t' := t) (ch := []) un hok bare (fun b z => absurd z (by simp)), r, q⟩
end
def tCall (sp : Sp) (dvs : List V) (E : XK) (t : TA) : TE := fun σ H Q => t σ H fun vs H1 => sp (vs ++ dvs) H1 Q E
def tMake (C : Addr) (sp : Sp) (dvs : List V) (E : XK) (t : TA) : TE := fun σ H Q => t σ H fun vs H1 => ∀ x dx, H1 x = none → H1 dx = none → dx ≠ x →
 sp (.ref x :: (vs ++ dvs)) (upd (upd H1 dx (.own x)) x (.ins C dx [])) (fun v H2 => v = .non ∧ Q (.ref x) H2) E
def Binds (K : PySem.W.Frag) (fd : FuncData) (ps : List Str) (ds : List Value) : Prop :=
 ∀ (s : Shared) (us : List Value), K.In s.heap → (us ++ ds).length = ps.length → BindsTo s fd ⟨us, []⟩ (ps.zip (us ++ ds))
theorem Binds.all {K : PySem.W.Frag} {fd : FuncData} {ps : List Str} (h : ∀ us : List Value, us.length = ps.length → bindArgs fd ⟨us, []⟩ = pure (ps.zip us)) : Binds K fd ps [] := fun s us _ hl => by
 rw [List.append_nil] at hl ⊢
 exact .of_eq (h us hl)
def Passes (CX : CXT) (X : Cx) (E : XK) : Prop := ∀ (pins : List (Addr × Obj)) (σ : St) (H : Hp) (s : Shared) (e : Value) (s' : Shared), Inv X pins σ H s → CX X.stack H s E e s' → X.xe e s'
section
variable {X : Cx} {CX : CXT} {k : Nat} {f C : Addr} {fd : FuncData} {ps : List Str} {sp : Sp} {dvs : List V} {ds : List Value} {E : XK} {x m : Str} {p pos apos : Pos} {e o : Expr} {es : List Expr} {ta : TE} {t : TA}
theorem run_fn {pins : List (Addr × Obj)} {σ : St} {H : Hp} {s : Shared} {Q : VK} {us : List Value} {vs : List V} (F : FnOk X.prog X.w X.K X.mg X.base CX k f fd ps sp) (hr : Room k X.A) (hb : Binds X.K fd ps ds) (hd : Vals dvs ds) (hx : Passes CX X E)
   (I : Inv X pins σ H s) (r : Vals vs us) (h : sp (vs ++ dvs) H Q E) : wpAny (model X.prog X.w) X.A (call (.ref f) us) (EP X pins σ Q) X.xe s := by
 have r2 : Vals (vs ++ dvs) (us ++ ds) := r.append hd
 have hl : (us ++ ds).length = ps.length := by rw [← r2.length]; exact F.len _ _ _ _ h
 refine wpAny_call (codeAny_mono (F.run X.A X.stack s H ⟨us, []⟩ (us ++ ds) (vs ++ dvs) Q E hr I.env0 (hb s us I.kIn hl) r2 h) fun r s' hq => ?_)
 cases r with
 | error e => exact hx pins σ H s e s' I hq
 | ok fl =>
   cases fl with
   | ret u => exact I.after hq
   | next => exact False.elim hq
   | brk => exact False.elim hq
   | cont => exact False.elim hq
theorem zL (F : FnOk X.prog X.w X.K X.mg X.base CX k f fd ps sp) (hr : Room k X.A) (hg : Gl X x) (hm : X.mg x = some (.ref f)) (hk : PySem.W.keepIn X.K (.ref f) = true) (hb : Binds X.K fd ps ds) (hd : Vals dvs ds) (hx : Passes CX X E)
   (ha : PA X (e :: es) t) (hdb : (x == ("__debug__" : Str)) = false := by decide) (he : starEach (e :: es) X.env = (false, eval e X.env) :: starEach es X.env := by rfl) (hpl : (backTo pos (starEach es X.env)).any (·.1) = false := by rfl) :
   PE X (.Call (.Name x p) (e :: es) [] pos) (tCall sp dvs E t) := by
 intro pins s σ H Q I h
 refine wpAny_Call_Name_kw (ld_glob I hg hm ?_ hdb)
 refine PySem.W.callWith_K (h₀ := X.base) I.ok.mod.kin hk (thn (ha pos pins s σ H _ I h) fun us s1 ⟨vs, H1, I1, r, q⟩ => ⟨I1.kIn, ?_⟩) he hpl
 exact run_fn F hr hb hd hx I1 r q
structure Mk (K : PySem.W.Frag) (C f : Addr) : Prop where
 makes : PySem.W.makesIn K C = true
 init : PySem.W.findIn K (.ref C) "__init__" = some (some (.ref f))
 fn : PySem.W.isFn K (.ref f) = true
 kp : PySem.W.keepIn K (.ref C) = true
theorem run_make {pins : List (Addr × Obj)} {σ : St} {H : Hp} {s : Shared} {Q : VK} {us : List Value} {vs : List V} (M : Mk X.K C f) (F : FnOk X.prog X.w X.K X.mg X.base CX k f fd ps sp) (hr : Room (k + 1) X.A) (hb : Binds X.K fd ps ds) (hd : Vals dvs ds)
   (hx : Passes CX X E) (I : Inv X pins σ H s) (r : Vals vs us)
   (h : ∀ x dx, H x = none → H dx = none → dx ≠ x → sp (.ref x :: (vs ++ dvs)) (upd (upd H dx (.own x)) x (.ins C dx [])) (fun v H2 => v = .non ∧ Q (.ref x) H2) E) :
   wpAny (model X.prog X.w) X.A (call (.ref C) us) (EP X pins σ Q) X.xe s := by
 have hq := h (s.heap.objs.size + 1) s.heap.objs.size (I.hok.fresh (Nat.le_succ _)) (I.hok.fresh (Nat.le_refl _)) (Nat.ne_of_lt (Nat.lt_succ_self _))
 have I2 := Inv.made (C := C) I
 have r2 : Vals (V.ref (s.heap.objs.size + 1) :: (vs ++ dvs)) (Value.ref (s.heap.objs.size + 1) :: (us ++ ds)) := .cons rfl (r.append hd)
 have hl : (Value.ref (s.heap.objs.size + 1) :: us ++ ds).length = ps.length := by
   have e := r2.length
   rw [F.len _ _ _ _ hq] at e
   exact e.symm
 refine wpAny_call (make_map (f := f) I.kIn M.makes M.init (beq_iff_eq.mp M.fn) (codeAny_mono (F.run _ X.stack _ _ ⟨Value.ref (s.heap.objs.size + 1) :: us, []⟩ (Value.ref (s.heap.objs.size + 1) :: (us ++ ds)) _ _ E (hr.make C us [])
   (I2.env0.make C us []) (hb _ (Value.ref (s.heap.objs.size + 1) :: us) I2.kIn hl) r2 hq) fun r s' hq' => ?_))
 cases r with
 | error e => exact hx pins σ _ _ e s' I2 hq'
 | ok fl =>
   cases fl with
   | ret u =>
     obtain ⟨v, H', I3, rv, ev, q3⟩ := I2.after hq'
     subst ev
     exact ⟨rv, ⟨V.ref (s.heap.objs.size + 1), H', I3, rfl, q3⟩⟩
   | next => exact False.elim hq'
   | brk => exact False.elim hq'
   | cont => exact False.elim hq'
theorem pe_make (M : Mk X.K C f) (F : FnOk X.prog X.w X.K X.mg X.base CX k f fd ps sp) (hr : Room (k + 1) X.A) (hg : Gl X x) (hm : X.mg x = some (.ref C)) (hb : Binds X.K fd ps ds) (hd : Vals dvs ds) (hx : Passes CX X E)
   (ha : PA X (e :: es) t) (hdb : (x == ("__debug__" : Str)) = false := by decide) (he : starEach (e :: es) X.env = (false, eval e X.env) :: starEach es X.env := by rfl) (hpl : (backTo pos (starEach es X.env)).any (·.1) = false := by rfl) :
   PE X (.Call (.Name x p) (e :: es) [] pos) (tMake C sp dvs E t) := by
 intro pins s σ H Q I h
 refine wpAny_Call_Name_kw (ld_glob I hg hm ?_ hdb)
 refine PySem.W.callWith_K (h₀ := X.base) I.ok.mod.kin M.kp (thn (ha pos pins s σ H _ I h) fun us s1 ⟨vs, H1, I1, r, q⟩ => ⟨I1.kIn, ?_⟩) he hpl
 exact run_make M F hr hb hd hx I1 r q
theorem pe_make0 (M : Mk X.K C f) (F : FnOk X.prog X.w X.K X.mg X.base CX k f fd ps sp) (hr : Room (k + 1) X.A) (hg : Gl X x) (hm : X.mg x = some (.ref C)) (hb : Binds X.K fd ps ds) (hd : Vals dvs ds) (hx : Passes CX X E)
   (hdb : (x == ("__debug__" : Str)) = false := by decide) : PE X (.Call (.Name x p) [] [] pos) (tMake C sp dvs E tNil) := by
 intro pins s σ H Q I h
 refine wpAny_Call_Name_kw (ld_glob I hg hm ?_ hdb)
 exact PySem.W.callWith_K0 I.kIn M.kp (run_make (us := []) M F hr hb hd hx I .nil h)
end
section
variable {X : Cx} {CX : CXT} {k : Nat} {f C : Addr} {fd : FuncData} {ps ks : List Str} {sp : Sp} {E : XK} {x m : Str} {p pos apos kpos : Pos} {e o : Expr} {es : List Expr} {kws : List Keyword} {te ta : TE} {t tk : TA} {nm : Option Str}
structure KBinds (K : PySem.W.Frag) (fd : FuncData) (ps ks : List Str) (g : List Value → List Value → List Value) (gV : List V → List V → List V) : Prop where
 to : ∀ (s : Shared) (us ws : List Value), K.In s.heap → (g us ws).length = ps.length → BindsTo s fd ⟨us, ks.zip ws⟩ (ps.zip (g us ws))
 rel : ∀ {vs : List V} {us : List Value} {zs : List V} {ws : List Value}, Vals vs us → Vals zs ws → Vals (gV vs zs) (g us ws)
variable {g : List Value → List Value → List Value} {gV : List V → List V → List V}
end
structure FnScope (N P : List Str) (sc : Scope) : Prop where
 kind : sc.kind = .function
 co : sc.isCoroutine = false
 gen : sc.isGenerator = false
 nd : N.Nodup
 pre : N.take P.length = P
 par : ∀ x ∈ P, sc.names.lookup x = some .local ∨ sc.names.lookup x = some .cell
 nofree : ∀ y ∈ sc.names, y.2 ≠ .free
theorem bindL_out {kindOf : Str → Option NameKind} {x : Str} : ∀ {binds : List (Str × Value)} {m : Str → Option Value}, (∀ v, (x, v) ∉ binds) → bindL kindOf binds m x = m x
 | [], _, _ => rfl
 | (n, v) :: r, m, h => by
   unfold bindL
   rw [bindL_out fun w hw => h w (List.mem_cons_of_mem _ hw)]
   split
   · have : x ≠ n := by rintro rfl; exact h v List.mem_cons_self
     simp [this]
   · rfl
theorem bindC_out {kindOf : Str → Option NameKind} {x : Str} : ∀ {binds : List (Str × Value)} {m : Str → Option Value}, (∀ v, (x, v) ∉ binds) → bindC kindOf binds m x = m x
 | [], _, _ => rfl
 | (n, v) :: r, m, h => by
   unfold bindC
   rw [bindC_out fun w hw => h w (List.mem_cons_of_mem _ hw)]
   split
   · rfl
   · have : x ≠ n := by rintro rfl; exact h v List.mem_cons_self
     simp [this]
theorem bindL_get {kindOf : Str → Option NameKind} {x : Str} {v : Value} : ∀ {P : List Str} {vs : List Value} {i : Nat} {m : Str → Option Value}, P.Nodup → P[i]? = some x → vs[i]? = some v → kindOf x = some .local →
   bindL kindOf (P.zip vs) m x = some v
 | [], _, _, _, _, h, _, _ => by simp at h
 | _ :: _, [], _, _, _, _, h, _ => by simp at h
 | p :: P, w :: vs, 0, m, nd, h1, h2, hk => by
   simp at h1 h2; subst h1; subst h2
   show bindL kindOf ((p, w) :: P.zip vs) m p = _
   unfold bindL
   rw [bindL_out fun v hv => (List.nodup_cons.mp nd).1 (List.of_mem_zip hv).1, if_pos hk]
   simp
 | p :: P, w :: vs, i + 1, m, nd, h1, h2, hk => by
   show bindL kindOf ((p, w) :: P.zip vs) m x = _
   unfold bindL
   exact bindL_get (i := i) (List.nodup_cons.mp nd).2 (by simpa using h1) (by simpa using h2) hk
theorem bindC_get {kindOf : Str → Option NameKind} {x : Str} {v : Value} : ∀ {P : List Str} {vs : List Value} {i : Nat} {m : Str → Option Value}, P.Nodup → P[i]? = some x → vs[i]? = some v → kindOf x ≠ some .local →
   bindC kindOf (P.zip vs) m x = some v
 | [], _, _, _, _, h, _, _ => by simp at h
 | _ :: _, [], _, _, _, _, h, _ => by simp at h
 | p :: P, w :: vs, 0, m, nd, h1, h2, hk => by
   simp at h1 h2; subst h1; subst h2
   show bindC kindOf ((p, w) :: P.zip vs) m p = _
   unfold bindC
   rw [bindC_out fun v hv => (List.nodup_cons.mp nd).1 (List.of_mem_zip hv).1, if_neg hk]
   simp
 | p :: P, w :: vs, i + 1, m, nd, h1, h2, hk => by
   show bindC kindOf ((p, w) :: P.zip vs) m x = _
   unfold bindC
   exact bindC_get (i := i) (List.nodup_cons.mp nd).2 (by simpa using h1) (by simpa using h2) hk
def start (N : List Str) (vs : List V) : St := vs.map some ++ List.replicate (N.length - vs.length) none
def cxOf (CX : CXT) (P : Program) (w : World) (K : PySem.W.Frag) (mg : Str → Option Value) (base : Heap) (N : List Str) (qual : Str) (scope : Scope) (f : Addr) (cd : Value) (A : Around) (outer : List Env) (s : Shared) (H : Hp) (E : XK) : Cx where
 prog := P
 w := w
 K := K
 mg := mg
 base := base
 A := A.deeper (envOfC qual scope s.heap.objs.size f cd)
 N := N
 s₀ := s
 H₀ := H
 env := envOfC qual scope s.heap.objs.size f cd
 outer := outer
 stack := envOfC qual scope s.heap.objs.size f cd :: outer
 ex := []
 calm := true
 fn := fun _ => true
 pn := []
 xe := fun e s' => wpAny (model P w) (A.deeper (envOfC qual scope s.heap.objs.size f cd)) (leaving (envOfC qual scope s.heap.objs.size f cd) e) (fun _ s'' => CX outer H s E e s'') (fun e' s'' => CX outer H s E e' s'') s'
theorem cell_has {sc : Scope} {n : Nat} {x : Str} (h : sc.names.lookup x = some .cell) : ∃ c, (cellsFrom n sc.names []).lookup x = some c := by
 have q := PySem.W.cellsFrom_some sc.names n [] (.inl h)
 exact Option.isSome_iff_exists.mp q
theorem inv_start {CX : CXT} {P : Program} {w : World} {K : PySem.W.Frag} {mg : Str → Option Value} {base : Heap} {N ps : List Str} {qual : Str} {scope : Scope} {f : Addr} {cd : Value} {A : Around} {outer : List Env} {s s1 : Shared} {H : Hp} {E : XK} {us : List Value} {vs : List V}
   (S : FnScope N ps scope) (hd : A.handled = none) (e0 : Env0 P w K mg base A outer s H) (hl : vs.length = ps.length) (r : Vals vs us)
   (x : InCallC s s.heap.objs.size (bindL (envOfC qual scope s.heap.objs.size f cd).kindOf (ps.zip us) fun _ => none) (cellsFrom (s.heap.objs.size + 1) scope.names []) (bindC (envOfC qual scope s.heap.objs.size f cd).kindOf (ps.zip us) fun _ => none) s1) :
   Inv (cxOf CX P w K mg base N qual scope f cd A outer s H E) [] (start N vs) H s1 := by
 have hpl : ps.length ≤ N.length := by have := congrArg List.length S.pre; rw [List.length_take] at this; omega
 obtain ⟨h1, tk, rfl, hk⟩ := x.done
 have noA : ∀ b : Addr, b ∉ (cxOf CX P w K mg base N qual scope f cd A outer s H E).ex := fun b z => absurd (show b ∈ ([] : List Addr) from z) (by simp)
 refine ⟨⟨e0.mod, S.kind, rfl, rfl, Nat.le_refl _, fun y z c h1 h2 => ?_, fun y hy => ?_, fun y c _ h => ?_, fun _ => hd, Around.frames_deeper e0.frames, .inr ⟨rfl, rfl⟩, fun b z => absurd z (noA b), e0.bs, e0.bsz, fun b _ _ => noA b, fun b z => absurd z (noA b), e0.funs, e0.frf⟩,
   rfl, e0.bare, Un.kept hk, ⟨_, x.toInCall.ns, fun i y v h1 h2 h3 => ?_⟩, fun y c h => ⟨_, x.cell y c h⟩, e0.hok.fresh (Nat.le_refl _), fun y c h => ?_, fun p hp => absurd (show p ∈ ([] : List (Addr × Obj)) from hp) (by simp), e0.hok.kept hk, ?_⟩
 · exact name_of_addr x.apart (PySem.mem_of_lookup h1) (PySem.mem_of_lookup h2)
 · have hy : scope.names.lookup y = some .cell ∨ scope.names.lookup y = some .free := hy
   rcases hy with hy | hy
   · exact cell_has hy
   · exact absurd rfl (S.nofree _ (PySem.mem_of_lookup hy))
 · exact Nat.le_of_lt (x.above y c (PySem.mem_of_lookup h))
 · have hi : i < vs.length := by
     unfold start at h2
     by_cases hi : i < vs.length
     · exact hi
     · rw [List.getElem?_append_right (by simpa using hi)] at h2
       rw [List.getElem?_replicate] at h2
       split at h2 <;> cases h2
   have ha : vs[i]? = some v := by
     unfold start at h2
     rw [List.getElem?_append_left (by simpa using hi), List.getElem?_map] at h2
     cases e : vs[i]? with
     | none => rw [e] at h2; cases h2
     | some a => rw [e] at h2; cases h2; rfl
   obtain ⟨u, hu, rv⟩ := r.get ha
   have hp : ps[i]? = some y := by
     rw [← S.pre, List.getElem?_take_of_lt (by omega)]; exact h1
   have ndP : ps.Nodup := by rw [← S.pre]; exact S.nd.sublist (List.take_sublist _ _)
   refine ⟨u, rv, ?_⟩
   rcases S.par y (List.mem_of_getElem? hp) with k | k
   · exact .inl ⟨k, bindL_get ndP hp hu k⟩
   · obtain ⟨c, e⟩ := cell_has (n := s.heap.objs.size + 1) k
     refine .inr ⟨.inl k, c, e, ?_⟩
     have q := x.cell y c e
     rw [bindC_get ndP hp hu (by show scope.names.lookup y ≠ _; rw [k]; decide)] at q
     exact q
 · exact e0.hok.fresh (Nat.le_of_lt (x.above y c (PySem.mem_of_lookup h)))
 · unfold start
   show _ = N.length
   rw [List.length_append, List.length_map, List.length_replicate]
   omega
theorem fn_of {CX : CXT} {P : Program} {w : World} {K : PySem.W.Frag} {mg : Str → Option Value} {base : Heap} {k : Nat} {f : Addr} {name qual : Str} {params : Arguments} {body : List Stmt} {scope : Scope} {dV kV doc pm cdv ct oc : Value} {an od : Option Addr}
   {osl : Array (Option Value)} {N ps : List Str} {sp : Sp} (lk : K.lookup f = some ⟨oc, od, .func (PySem.W.fnOf name qual params body scope dV kV doc pm an cdv ct), osl⟩) (hcd : PySem.W.codeIn K cdv qual = true) (S : FnScope N ps scope)
   (len : ∀ vs H Q E, sp vs H Q E → vs.length = ps.length)
   (hbody : ∀ (A : Around) (outer : List Env) (s : Shared) (H : Hp) (vs : List V) (Q : VK) (E : XK), Room k (A.deeper (envOfC qual scope s.heap.objs.size f cdv)) → sp vs H Q E →
     ∃ t, PSs (cxOf CX P w K mg base N qual scope f cdv A outer s H E) body t ∧ t { nx := fun _ H' => Q .non H', rt := Q } (start N vs) H) :
   FnOk P w K mg base CX (k + 1) f (PySem.W.fnOf name qual params body scope dV kV doc pm an cdv ct) ps sp := by
 refine ⟨len, fun A outer s H args us vs Q E hr e0 hb r hsp => ?_⟩
 have hl := len _ _ _ _ hsp
 have KX : K.In s.heap := e0.mod.kin.keeps fun b o e => (e0.bs b o e).1
 have lim : s.heap.NoLimit := e0.mod.nolimit.keeps fun b o e => (e0.bs b o e).1
 have hkind : ∀ y ∈ ps.zip us, scope.names.lookup y.1 = some .local ∨ (scope.names.lookup y.1 = some .cell ∧ ((cellsFrom (s.heap.objs.size + 1) scope.names []).lookup y.1).isSome = true) := fun ⟨n, v⟩ hy => by
   rcases S.par n (List.of_mem_zip hy).1 with q | q
   · exact .inl q
   · exact .inr ⟨q, PySem.W.cellsFrom_some _ _ _ (.inl q)⟩
 refine codeAny_call_function hr.depth (KX _ _ lk) rfl S.co S.gen rfl (PySem.W.codeRec_of KX hcd) (hb _ _ _ _ ?_)
 refine wpAny_newFunctionEnv_cells S.kind hkind fun env he s1 x => ?_
 subst he
 refine ⟨lim.keeps x.toInCall.keep, codeAny_func ?_⟩
 obtain ⟨t, ht, hq⟩ := hbody A outer s H vs Q E (hr.deeper _) hsp
 have I : Inv (cxOf CX P w K mg base N qual scope f cdv A outer s H E) [] (start N vs) H s1 := inv_start S hr.hd e0 hl r x
 refine wpAny_mono (ht [] s1 (start N vs) H _ I hq) (fun fl s' hs => ?_) fun e s' hs => hs
 have fin : ∀ {σ' : St} {H' : Hp} {v : V} {u : Value}, Inv (cxOf CX P w K mg base N qual scope f cdv A outer s H E) [] σ' H' s' → RelV v u → Q v H' → CE outer P w H s Q u s' :=
   fun {σ' H' v u} J rv q => ⟨v, H', J.os, J.bare, J.base, J.hok, rv, q⟩
 cases fl with
 | ret u =>
   obtain ⟨v, σ', H', J, rv, q⟩ := hs
   exact fin J rv q
 | next =>
   obtain ⟨σ', H', J, q⟩ := hs
   exact fin (v := V.non) (u := Value.none) J rfl q
 | brk =>
   obtain ⟨_, _, _, q⟩ := hs
   exact False.elim q
 | cont =>
   obtain ⟨_, _, _, q⟩ := hs
   exact False.elim q
end L2
namespace L2
open PySem PySem.Spec PyProof.Rows
section
variable {X : Cx} {x : Str} {p pos : Pos} {e : Expr} {es : List Expr} {t : TA} {id T : String} {r : List V → Hp → VK → Prop}
def tCB (r : List V → Hp → VK → Prop) (t : TA) : TE := fun σ H Q => t σ H fun vs H1 => r vs H1 Q
theorem zI (hc : CallR X (.builtin id) r) (hg : Gl X x) (hm : X.mg x = none) (hv : bootBuiltins x = some (.builtin id)) (ha : PA X (e :: es) t) (hn : x ≠ "__name__" := by decide) (hdb : (x == ("__debug__" : Str)) = false := by decide)
   (he : starEach (e :: es) X.env = (false, eval e X.env) :: starEach es X.env := by rfl) (hpl : (backTo pos (starEach es X.env)).any (·.1) = false := by rfl) : PE X (.Call (.Name x p) (e :: es) [] pos) (tCB r t) := by
 intro pins s σ H Q I h
 refine wpAny_Call_Name_kw (ld_blt I hg hm hv ?_ hn hdb)
 exact PyProof.Rows.callWith_builtin1 (thn (ha pos pins s σ H _ I h) fun us s1 ⟨vs, H1, I1, r1, q1⟩ => hc pins s1 σ H1 vs us Q I1 r1 q1) he hpl
theorem pe_callTy (hc : CallR X (.type T) r) (hg : Gl X x) (hm : X.mg x = none) (hv : bootBuiltins x = some (.type T)) (ha : PA X (e :: es) t) (hn : x ≠ "__name__" := by decide) (hdb : (x == ("__debug__" : Str)) = false := by decide)
   (he : starEach (e :: es) X.env = (false, eval e X.env) :: starEach es X.env := by rfl) (hpl : (backTo pos (starEach es X.env)).any (·.1) = false := by rfl) : PE X (.Call (.Name x p) (e :: es) [] pos) (tCB r t) := by
 intro pins s σ H Q I h
 refine wpAny_Call_Name_kw (ld_blt I hg hm hv ?_ hn hdb)
 exact PyProof.Rows.callWith_type1 (thn (ha pos pins s σ H _ I h) fun us s1 ⟨vs, H1, I1, r1, q1⟩ => hc pins s1 σ H1 vs us Q I1 r1 q1) he hpl
end
end L2
namespace HT
open PySem PyProof.Rows
section
open PySem.SeqAt
open PySem.AutoSeq1 (wpAny_loadPart')
open PySem.MeetsSeq PySem.MeetsSeq2 PySem.MeetsSeq3
end
section
variable {prog : Program} {w : World} {A : Around} {E : Value → Shared → Prop} {s : Shared}
def sIx (n d : Nat) : Option Int → Nat
 | none => d
 | some v => if v < 0 then (v + (n : Int)).toNat else min v.toNat n
theorem sIx_nat (n d k : Nat) : sIx n d (some (k : Int)) = min k n := by
 show (if (k : Int) < 0 then ((k : Int) + (n : Int)).toNat else min (k : Int).toNat n) = min k n
 rw [if_neg (by omega), Int.toNat_natCast]
theorem sIx_le (n d : Nat) (hd : d ≤ n) (o : Option Int) : sIx n d o ≤ n := by
 cases o with
 | none => exact hd
 | some v =>
   show (if v < 0 then (v + (n : Int)).toNat else min v.toNat n) ≤ n
   by_cases hv : v < 0
   · rw [if_pos hv]; omega
   · rw [if_neg hv]; exact Nat.min_le_right _ _
theorem clip_eq (v : Int) (n d : Nat) : (if v < 0 then max (v + (n : Int)) 0 else min v (n : Int)) = ((sIx n d (some v) : Nat) : Int) := by
 show (if v < 0 then max (v + (n : Int)) 0 else min v (n : Int)) = (((if v < 0 then (v + (n : Int)).toNat else min v.toNat n) : Nat) : Int)
 by_cases hv : v < 0
 · simp only [if_pos hv]; omega
 · simp only [if_neg hv]; omega
theorem adjust_gen (lo hi : Option Int) (n : Nat) : Builtin.Slice.sliceAdjust lo hi 1 (n : Int) = (((sIx n 0 lo : Nat) : Int), ((sIx n n hi : Nat) : Int)) := by
 have h1 : ¬ ((1 : Int) < 0) := by omega
 unfold Builtin.Slice.sliceAdjust
 simp only [h1, if_false]
 refine Prod.ext ?_ ?_
 · cases lo with
   | none => rfl
   | some v => exact clip_eq v n 0
 · cases hi with
   | none => rfl
   | some v => exact clip_eq v n n
theorem places_gen (i j : Nat) : Builtin.Slice.slicePlaces (i : Int) (j : Int) 1 = j - i := by
 unfold Builtin.Slice.slicePlaces
 have h1 : (1 : Int) > 0 := by omega
 simp only [h1, if_true, Int.ediv_one]
 split <;> omega
theorem slicePart_ {v : Value} {o : Option Int} {Q : Option Int → Shared → Prop} (p : IsPart v o) (h : Q o s) : wpAny (model prog w) A (Builtin.Slice.slicePartIndex v) Q E s := by
 cases p with
 | none => exact slicePart_none h
 | int i t => exact slicePart_int h
theorem sliceApplied_gen {sl : Addr} {vl vu : Value} {lo hi : Option Int} {n : Nat} {Q : Int × Int × Nat → Shared → Prop} (hs : s.heap.IsSliceOf sl vl vu .none) (pl : IsPart vl lo) (pu : IsPart vu hi)
   (h : Q (((sIx n 0 lo : Nat) : Int), 1, sIx n n hi - sIx n 0 lo) s) : wpAny (model prog w) A (Builtin.Slice.sliceApplied (.ref sl) (pure (n : Int))) Q E s := by
 obtain ⟨os, hos, hcs, hds⟩ := id hs
 unfold Builtin.Slice.sliceApplied Builtin.Slice.sliceFields
 refine wpAny_bind (wpAny_bind (wpAny_field hos hds (x := vl) rfl (wpAny_bind (wpAny_field hos hds (x := vu) rfl (wpAny_bind (wpAny_field hos hds (x := .none) rfl (wpAny_pure ?_)))))))
 refine wpAny_bind (slicePart_none ?_)
 show wpAny _ _ (if ((1 : Int) == 0) = true then _ else _) _ _ s
 rw [if_neg (by decide)]
 refine wpAny_bind (slicePart_ pl (wpAny_bind (slicePart_ pu (wpAny_bind (wpAny_pure ?_)))))
 show wpAny _ _ (match Builtin.Slice.sliceAdjust lo hi 1 (n : Int) with | (lo, hi) => pure (lo, (1 : Int), Builtin.Slice.slicePlaces lo hi 1)) _ _ s
 rw [adjust_gen lo hi n]
 show wpAny _ _ (pure (((sIx n 0 lo : Nat) : Int), (1 : Int), Builtin.Slice.slicePlaces ((sIx n 0 lo : Nat) : Int) ((sIx n n hi : Nat) : Int) 1)) _ _ s
 rw [places_gen]
 exact wpAny_pure h
theorem pick_gen (xs : Array Value) (i k : Nat) : ((List.range k).filterMap fun (m : Nat) => xs[((i : Int) + (m : Int) * 1).toNat]?).toArray = ((xs.toList.drop i).take k).toArray := by
 have e : (fun (m : Nat) => xs[((i : Int) + (m : Int) * 1).toNat]?) = fun m => xs[i + m]? := by
   funext m
   have : ((i : Int) + (m : Int) * 1).toNat = i + m := by omega
   rw [this]
 rw [e]
 have := pick_run xs i k
 rw [List.filterMap_map] at this
 have e2 : ((fun x => xs[x]?) ∘ fun x => i + x) = fun m => xs[i + m]? := rfl
 rw [e2] at this
 rw [this]
theorem getItem_tuple_cut {t sl : Addr} {items : Array Value} {vl vu : Value} {lo hi : Option Int} {Q : Value → Shared → Prop} (ht : IsTup s.heap t items) (hs : s.heap.IsSliceOf sl vl vu .none) (pl : IsPart vl lo) (pu : IsPart vu hi)
   (hw : ¬ (sIx items.size 0 lo = 0 ∧ sIx items.size items.size hi = items.size))
   (h : Q (.ref s.heap.objs.size) { s with heap := s.heap.push { cls := .type "tuple", data := .seq ((items.toList.drop (sIx items.size 0 lo)).take (sIx items.size items.size hi - sIx items.size 0 lo)).toArray } })
   (hsz : items.size ≤ sizeLine) : wpAny (model prog w) A (getItem (.ref t) (.ref sl)) Q E s := by
 have htake : sizeOk (.seq ((items.toList.drop (sIx items.size 0 lo)).take (sIx items.size items.size hi - sIx items.size 0 lo)).toArray) := by
   show ((items.toList.drop (sIx items.size 0 lo)).take (sIx items.size items.size hi - sIx items.size 0 lo)).toArray.size ≤ sizeLine
   rw [List.size_toArray, List.length_take, List.length_drop, Array.length_toList]
   omega
 have hj : sIx items.size items.size hi ≤ items.size := sIx_le _ _ (Nat.le_refl _) hi
 obtain ⟨os, hos, hcs, hds⟩ := id hs
 have hTs : s.TypeIs (.ref sl) "slice" := ⟨os, hos, hcs⟩
 unfold getItem
 try with_reducible refine wpAny_holding ?_
 first | refine wpAny_bind (wpAny_pure ?_) | skip
 refine wpAny_bind (wpAny_sequenceKey ht.typeIs (by decide) ?_)
 refine wpAny_bind (wpAny_callSpecial?_slot (name := Str.ofString "__getitem__") ht.typeIs PyProof.Rows.slot_tuple_getitem
   (wpAny_call_entry PyProof.Rows.slot_tuple_getitem ht.typeIs entry_tuple_getitem ?_ (args_tuple_getitem _ _)))
 show wpAny _ _ (Builtin.Tuple.tupleItemsOf (.ref t) >>= _) _ _ s
 refine wpAny_bind (tupleItemsOf_ ht ?_)
 refine wpAny_bind (wpAny_typeOf hTs ?_)
 rw [if_pos (by decide)]
 refine wpAny_bind (sliceApplied_gen hs pl pu ?_)
 have hno : ¬ ((((sIx items.size 0 lo : Nat) : Int) == 0 && (1 : Int) == 1 && (sIx items.size items.size hi - sIx items.size 0 lo) == items.size) = true) := by
   intro q
   rw [Bool.and_eq_true, Bool.and_eq_true] at q
   have q1 : ((sIx items.size 0 lo : Nat) : Int) = 0 := eq_of_beq q.1.1
   have q2 : sIx items.size items.size hi - sIx items.size 0 lo = items.size := eq_of_beq q.2
   exact hw ⟨by omega, by omega⟩
 show wpAny _ _ (if (((sIx items.size 0 lo : Nat) : Int) == 0 && (1 : Int) == 1 && (sIx items.size items.size hi - sIx items.size 0 lo) == items.size) = true then _ else _) _ _ s
 rw [if_neg hno, pick_gen]
 first
   | exact wpAny_bind (m := Builtin.Tuple.tupleExact _) (wpAny_newObj_type (wpAny_pure ⟨_, rfl, wpAny_pure h⟩) htake)
   | exact wpAny_bind (m := Builtin.Tuple.tupleExact _) (wpAny_newObj_type (wpAny_bind (wpAny_pure (wpAny_pure ⟨_, rfl, wpAny_pure h⟩))) htake)
   | exact wpAny_bind (wpAny_bind (m := Builtin.Tuple.tupleExact _) (wpAny_newObj_type (wpAny_pure (wpAny_pure ⟨_, rfl, wpAny_pure h⟩)) htake))
   | exact wpAny_bind (wpAny_bind (m := Builtin.Tuple.tupleExact _) (wpAny_newObj_type (wpAny_pure ⟨_, rfl, wpAny_pure h⟩) htake))
end
end HT
namespace L2
open PySem PySem.Spec PyProof.Rows
abbrev TO := St → Hp → (Option Int → Hp → Prop) → Prop
def PO (X : Cx) (e : Option Expr) (t : TO) : Prop :=
 ∀ (pins : List (Addr × Obj)) (s : Shared) (σ : St) (H : Hp) (Q : Option Int → Hp → Prop), Inv X pins σ H s → t σ H Q →
   wpAny (model X.prog X.w) X.A (evalPart e X.env) (fun u s' => ∃ o H', Inv X pins σ H' s' ∧ IsPart u o ∧ Q o H') X.xe s
def tNoPart : TO := fun _ H Q => Q none H
def tPart (t : TE) : TO := fun σ H Q => t σ H fun x H1 => ∃ i, x = .int i ∧ Q (some i) H1
section
variable {X : Cx} {e : Expr} {te : TE} {lo hi : Option Expr} {tl th : TO} {pos p2 : Pos}
theorem po_none : PO X none tNoPart := by
 intro pins s σ H Q I h
 rw [evalPart_none]
 exact wpAny_pure ⟨none, H, I, .none, h⟩
theorem po_some (h : PE X e te) : PO X (some e) (tPart te) := by
 intro pins s σ H Q I hw
 rw [evalPart_some]
 refine thn (h pins s σ H _ I hw) fun u s1 ⟨x, H1, I1, r1, q1⟩ => ?_
 obtain ⟨i, rfl, q⟩ := q1
 obtain ⟨t, rfl⟩ := r1
 exact ⟨some i, H1, I1, .int i t, q⟩
def SlR (X : Cx) (r : V → Option Int → Option Int → Hp → VK → Prop) : Prop :=
 ∀ (pins : List (Addr × Obj)) (s : Shared) (σ : St) (H : Hp) (x : V) (v vl vu : Value) (lo hi : Option Int) (sl : Addr) (Q : VK), Inv X pins σ H s → RelV x v → s.heap.IsSliceOf sl vl vu .none → IsPart vl lo → IsPart vu hi → r x lo hi H Q →
   ∃ T id, typeLookup (.type T) "__getitem__" = pure (some (.builtin id)) ∧ s.TypeIs v T ∧ wpAny (model X.prog X.w) X.A (getItem v (.ref sl)) (EP X pins σ Q) X.xe s
theorem SlR.or {r r' : V → Option Int → Option Int → Hp → VK → Prop} (h : SlR X r) (h' : SlR X r') : SlR X (fun x lo hi H Q => r x lo hi H Q ∨ r' x lo hi H Q) := by
 intro pins s σ H x v vl vu lo hi sl Q I rx hs pl pu q
 rcases q with q | q
 · exact h pins s σ H x v vl vu lo hi sl Q I rx hs pl pu q
 · exact h' pins s σ H x v vl vu lo hi sl Q I rx hs pl pu q
def tSl (r : V → Option Int → Option Int → Hp → VK → Prop) (te : TE) (tl th : TO) : TE := fun σ H Q => te σ H fun x H1 => tl σ H1 fun l H2 => th σ H2 fun u H3 => r x l u H3 Q
theorem pe_slice {r : V → Option Int → Option Int → Hp → VK → Prop} (hr : SlR X r) (he : PE X e te) (hl : PO X lo tl) (hu : PO X hi th) : PE X (.Subscript e (.Slice lo hi none p2) pos) (tSl r te tl th) := by
 intro pins s σ H Q I h
 refine Subscript_ (thn (he pins s σ H _ I h) fun v s1 ⟨x, H1, I1, r1, q1⟩ => ?_)
 refine wpAny_Slice (thn (hl pins s1 σ H1 _ I1 q1) fun vl s2 ⟨l, H2, I2, pl, q2⟩ => thn (hu pins s2 σ H2 _ I2 q2) fun vu s3 ⟨u, H3, I3, pu, q3⟩ => ?_)
 rw [evalPart_none]
 refine wpAny_pure ?_
 have I4 : Inv X pins σ H3 { s3 with heap := s3.heap.push { cls := .type "slice", data := .fields #[vl, vu, .none] } } := I3.kept (t' := s3.toks) fun b ob q => Heap.get?_push_of_some _ q
 obtain ⟨T, id, hT, ht, hg⟩ := hr pins { s3 with heap := s3.heap.push { cls := .type "slice", data := .fields #[vl, vu, .none] } } σ H3 x v vl vu l u s3.heap.objs.size Q I4 r1 (Heap.IsSliceOf.new ..) pl pu q3
 show wpAny (model X.prog X.w) X.A (subscriptTail e (.Slice lo hi none p2) v (.ref s3.heap.objs.size)) (EP X pins σ Q) X.xe { s3 with heap := s3.heap.push { cls := .type "slice", data := .fields #[vl, vu, .none] } }
 exact tail_any (ops := [.ref s3.heap.objs.size, v]) ht hT hg (by with_unfolding_all rfl)
def cutV (xs : List V) (lo hi : Option Int) : List V := (xs.drop (HT.sIx xs.length 0 lo)).take (HT.sIx xs.length xs.length hi - HT.sIx xs.length 0 lo)
theorem cutV_length (xs : List V) (lo hi : Option Int) : (cutV xs lo hi).length ≤ xs.length := by
 unfold cutV
 rw [List.length_take, List.length_drop]
 omega
def rSlT (K : PySem.W.Frag) : V → Option Int → Option Int → Hp → VK → Prop := fun x lo hi H Q => ∃ a xs, x = .ref a ∧ SqT K H a xs ∧
 ¬ (HT.sIx xs.length 0 lo = 0 ∧ HT.sIx xs.length xs.length hi = xs.length) ∧ ∀ p, H p = none → Q (.ref p) (upd H p (.tup (cutV xs lo hi)))
theorem sl_tup : SlR X (rSlT X.K) := by
 intro pins s σ H x v vl vu lo hi sl Q I rx hs pl pu h
 obtain ⟨a, xs, rfl, hx, hw, q⟩ := h
 cases rx
 obtain ⟨its, r, ht, hz⟩ := I.tuple hx
 have hlen : its.toArray.size = xs.length := by rw [List.size_toArray]; exact r.length.symm
 refine ⟨"tuple", _, PyProof.Rows.slot_tuple_getitem.lookup, ht.typeIs, ?_⟩
 refine HT.getItem_tuple_cut ht hs pl pu (by rw [hlen]; exact hw) ?_ (by rw [hlen]; exact hz)
 rw [hlen]
 refine ⟨.ref s.heap.objs.size, _, I.laid (t' := s.toks) (o := .tup (cutV xs lo hi)) (fun b ob q => Heap.get?_push_of_some _ q) (Nat.le_refl _) ?_, rfl, q _ (I.hok.fresh (Nat.le_refl _))⟩
 exact ⟨Nat.le_trans (cutV_length xs lo hi) hz, _, (r.drop (HT.sIx xs.length 0 lo)).take (HT.sIx xs.length xs.length hi - HT.sIx xs.length 0 lo), IsTup.new _ _⟩
end
end L2
namespace L2
open PySem PySem.Spec PyProof.Rows
def ixN (n : Nat) (i : Int) : Option Nat := if 0 ≤ i then (if i < n then some i.toNat else none) else if -(n : Int) ≤ i then some (i + n).toNat else none
def atI {α : Type} (xs : List α) (i : Int) : Option α := (ixN xs.length i).bind fun j => xs[j]?
theorem ixN_seq {n : Nat} {i : Int} {j : Nat} (h : ixN n i = some j) : seqIndex? i n = some j ∧ j < n ∧ -(n : Int) ≤ i ∧ i < n := by
 unfold ixN at h
 by_cases h0 : 0 ≤ i
 · rw [if_pos h0] at h
   by_cases h1 : i < n
   · rw [if_pos h1] at h
     have e : i.toNat = j := Option.some.inj h
     exact ⟨by rw [seqIndex_of h0 h1, e], by omega, by omega, h1⟩
   · rw [if_neg h1] at h; cases h
 · rw [if_neg h0] at h
   by_cases h1 : -(n : Int) ≤ i
   · rw [if_pos h1] at h
     have e : (i + n).toNat = j := Option.some.inj h
     exact ⟨by rw [seqIndex_neg (by omega) h1, e], by omega, h1, by omega⟩
   · rw [if_neg h1] at h; cases h
theorem atI_get {α : Type} {xs : List α} {i : Int} {v : α} (h : atI xs i = some v) : ∃ j, seqIndex? i xs.length = some j ∧ xs[j]? = some v ∧ j < xs.length ∧ -(xs.length : Int) ≤ i ∧ i < xs.length := by
 unfold atI at h
 cases e : ixN xs.length i with
 | none => rw [e] at h; cases h
 | some j =>
   rw [e] at h
   obtain ⟨h1, h2, h3, h4⟩ := ixN_seq e
   exact ⟨j, h1, h, h2, h3, h4⟩
theorem atI_nat {α : Type} {xs : List α} {j : Nat} {v : α} (h : xs[j]? = some v) : atI xs (j : Int) = some v := by
 have hj : j < xs.length := (List.getElem?_eq_some_iff.mp h).1
 have e : ixN xs.length (j : Int) = some j := by
   unfold ixN
   rw [if_pos (by omega), if_pos (by omega)]; simp
 unfold atI; rw [e]; exact h
def PlainIx (b : Expr) : Prop := ∀ o i, subscripted b false o i = operate [o, i] (getItem o i)
def IxR (X : Cx) (r : R2) : Prop :=
 ∀ (value slice : Expr) (pins : List (Addr × Obj)) (s : Shared) (σ : St) (H : Hp) (x y : V) (v u : Value) (Q : VK), Inv X pins σ H s → RelV x v → RelV y u → r x y H Q →
   subscripted slice false v u = operate [v, u] (getItem v u) → wpAny (model X.prog X.w) X.A (subscriptTail value slice v u) (EP X pins σ Q) X.xe s
def MtR (X : Cx) (id : String) (r : V → List V → Hp → VK → Prop) : Prop :=
 ∀ (pins : List (Addr × Obj)) (s : Shared) (σ : St) (H : Hp) (x : V) (xs : List V) (v : Value) (us : List Value) (Q : VK), Inv X pins σ H s → RelV x v → Vals xs us → r x xs H Q →
   wpAny (model X.prog X.w) X.A (call (.builtin id) (v :: us)) (EP X pins σ Q) X.xe s
section
variable {X : Cx} {a b : Expr} {ta tb : TE} {pos : Pos}
theorem IxR.or {r r' : R2} (h : IxR X r) (h' : IxR X r') : IxR X (fun x y H Q => r x y H Q ∨ r' x y H Q) := by
 intro value slice pins s σ H x y v u Q I rx ry q hs
 rcases q with q | q
 · exact h value slice pins s σ H x y v u Q I rx ry q hs
 · exact h' value slice pins s σ H x y v u Q I rx ry q hs
theorem MtR.or {id : String} {r r' : V → List V → Hp → VK → Prop} (h : MtR X id r) (h' : MtR X id r') : MtR X id (fun x xs H Q => r x xs H Q ∨ r' x xs H Q) := by
 intro pins s σ H x xs v us Q I rx rs q
 rcases q with q | q
 · exact h pins s σ H x xs v us Q I rx rs q
 · exact h' pins s σ H x xs v us Q I rx rs q
theorem pe_ix {r : R2} (hr : IxR X r) (ha : PE X a ta) (hb : PE X b tb) (hs : PlainIx b) : PE X (.Subscript a b pos) (tOp r ta tb) := by
 intro pins s σ H Q I h
 exact Subscript_ (binT ha hb I h fun v u s2 x y H2 I2 rx ry q => hr a b pins s2 σ H2 x y v u Q I2 rx ry q (hs _ _))
def rIxL (K : PySem.W.Frag) : R2 := fun x y H Q => ∃ p xs i v, x = .ref p ∧ y = .int i ∧ SqL K H p xs ∧ atI xs i = some v ∧ Q v H
def rIxT (K : PySem.W.Frag) : R2 := fun x y H Q => ∃ p xs i v, x = .ref p ∧ y = .int i ∧ SqT K H p xs ∧ atI xs i = some v ∧ Q v H
def rIxS : R2 := fun x y H Q => ∃ z i c, x = .str z ∧ y = .int i ∧ z.length ≤ sizeLine ∧ atI z.cps.toList i = some c ∧ Q (.str ⟨#[c]⟩) H
theorem ix_list : IxR X (rIxL X.K) := by
 intro value slice pins s σ H x y v u Q I rx ry h hs
 obtain ⟨p, xs, i, z, rfl, rfl, hq, he, q⟩ := h
 cases rx
 obtain ⟨t, rfl⟩ := ry
 obtain ⟨its, r, pl, hz⟩ := I.list hq
 obtain ⟨j, h1, h2, h3, h4, h5⟩ := atI_get he
 obtain ⟨w, ew, rw'⟩ := r.get h2
 have hl := r.length
 have hn := line63
 have fin : EP X pins σ Q w s := ⟨z, H, I, rw', q⟩
 by_cases h0 : 0 ≤ i
 · have hj : i.toNat = j := by
     rw [seqIndex_of h0 h5] at h1
     exact Option.some.inj h1
   exact item_listR pl.isList h0 (by omega) (by rw [hj]; simpa using ew) fin hs
 · have hj : (i + (its.toArray.size : Int)).toNat = j := by
     rw [seqIndex_neg (by omega) h4] at h1
     rw [List.size_toArray, ← hl]
     exact Option.some.inj h1
   exact subscriptTail_builtinR (x := w) pl.isList.typeIs slot_list_getitem.lookup
     (wpAny_getItem_list_neg (Q := fun r s' => r = w ∧ EP X pins σ Q r s') pl.isList (by omega) (by rw [List.size_toArray] <;> omega) (by omega) (by rw [hj]; simpa using ew) ⟨rfl, fin⟩) hs
theorem ix_tup : IxR X (rIxT X.K) := by
 intro value slice pins s σ H x y v u Q I rx ry h hs
 obtain ⟨p, xs, i, z, rfl, rfl, hq, he, q⟩ := h
 cases rx
 obtain ⟨t, rfl⟩ := ry
 obtain ⟨its, r, pl, hz⟩ := I.tuple hq
 obtain ⟨j, h1, h2, h3, h4, h5⟩ := atI_get he
 obtain ⟨w, ew, rw'⟩ := r.get h2
 have hl := r.length
 have hn := line63
 have fin : EP X pins σ Q w s := ⟨z, H, I, rw', q⟩
 exact subscriptTail_builtinR (x := w) pl.typeIs slot_tuple_getitem.lookup
   (getItem_tuple (j := j) (Q := fun r s' => r = w ∧ EP X pins σ Q r s') pl (by omega) (by omega) (by rw [List.size_toArray, ← hl]; exact h1) (by simpa using ew) ⟨rfl, fin⟩) hs
theorem ix_str : IxR X rIxS := by
 intro value slice pins s σ H x y v u Q I rx ry h hs
 obtain ⟨z, i, c, rfl, rfl, hz, he, q⟩ := h
 obtain ⟨t, rfl⟩ := rx
 obtain ⟨t', rfl⟩ := ry
 obtain ⟨j, h1, h2, h3, h4, h5⟩ := atI_get he
 have hl : z.cps.toList.length = z.length := by simp [Str.length]
 rw [hl] at h1 h4 h5
 have hn := line63
 exact tail_any (typeIs_str s z t) slot_str_getitem.lookup (getItem_str (c := c) (by
   have e1 : decide (i < -(2 ^ 63 : Int)) = false := decide_eq_false (by omega)
   have e2 : decide (i ≥ 2 ^ 63) = false := decide_eq_false (by omega)
   rw [e1, e2, Bool.or_false]) (by rw [h1]; simpa using h2) ⟨.str ⟨#[c]⟩, H, I.tok _, ⟨_, rfl⟩, q⟩) hs
theorem mapSeq_set (its : List Value) (n j : Nat) (u : Value) : Obj.mapSeq (·.setIfInBounds j u) { cls := .type "list", data := .seq its.toArray n } = { cls := .type "list", data := .seq (its.set j u).toArray n } := by
 simp [Obj.mapSeq]
theorem Inv.lst {pins : List (Addr × Obj)} {σ : St} {H : Hp} {s : Shared} {p : Addr} {xs : List V} (I : Inv X pins σ H s) (h : H p = some (.lst xs)) :
   ∃ (its : List Value) (n : Nat), Vals xs its ∧ s.heap.get? p = some { cls := .type "list", data := .seq its.toArray n } ∧ xs.length ≤ sizeLine := by
 obtain ⟨z, its, n, r, e⟩ := I.hok p _ h
 exact ⟨its, n, r, e, z⟩
theorem Inv.lstUpd {pins : List (Addr × Obj)} {σ : St} {H : Hp} {s : Shared} {p : Addr} {xs ys : List V} {its its' : List Value} {n n' : Nat} {f : Obj → Obj} (I : Inv X pins σ H s) (h : H p = some (.lst xs))
   (ho : s.heap.get? p = some { cls := .type "list", data := .seq its.toArray n }) (hf : f { cls := .type "list", data := .seq its.toArray n } = { cls := .type "list", data := .seq its'.toArray n' }) (r : Vals ys its') (hz : ys.length ≤ sizeLine) (t : Nat) :
   Inv X pins σ (upd H p (.lst ys)) { s with heap := s.heap.update p f, toks := t } := by
 have e : (s.heap.update p f).get? p = some { cls := .type "list", data := .seq its'.toArray n' } := by
   rw [Heap.get?_update_self f ho (by rw [hf] <;> rfl), hf]
 refine I.write (x := p) (e := p) (by rw [h]; trivial) (.inl rfl) (fun b u hb q => (Heap.get?_update_other _ _ (Ne.symm hb)).trans q) ⟨_, e⟩ ?_
 exact ⟨hz, its', n', r, e⟩
def rSetL : V → V → V → Hp → (Hp → Prop) → Prop := fun o i v H Q => ∃ p xs k j, o = .ref p ∧ i = .int k ∧ H p = some (.lst xs) ∧ ixN xs.length k = some j ∧ Q (upd H p (.lst (xs.set j v)))
theorem set_list : PSet X rSetL := by
 intro pins s σ H o i v ov iv u Q I ro ri rv h
 obtain ⟨p, xs, k, j, rfl, rfl, hp, hj, q⟩ := h
 cases ro
 obtain ⟨t, rfl⟩ := ri
 obtain ⟨its, n, r, ho, hz⟩ := I.lst hp
 obtain ⟨h1, h2, h3, h4⟩ := ixN_seq hj
 have hl := r.length
 have hn := line63
 have I' : Inv X pins σ (upd H p (.lst (xs.set j v))) { s with heap := s.heap.update p (Obj.mapSeq (·.setIfInBounds j u)) } :=
   I.lstUpd hp ho (mapSeq_set its n j u) (r.set rv j) (by rw [List.length_set]; exact hz) s.toks
 by_cases h0 : 0 ≤ k
 · have hk : k.toNat = j := by
     rw [seqIndex_of h0 h4] at h1
     exact Option.some.inj h1
   exact PySem.W.ki_setAt ho h0 (by omega) (by rw [List.size_toArray, ← hl]; exact h4) (by rw [hk]; exact ⟨_, I', q⟩)
 · have hk : (k + (its.toArray.size : Int)).toNat = j := by
     rw [seqIndex_neg (by omega) h3] at h1
     rw [List.size_toArray, ← hl]
     exact Option.some.inj h1
   exact PySem.W.ki_setBack ho (by omega) (by rw [List.size_toArray, ← hl]; exact h3) (by omega) (by rw [hk]; exact ⟨_, I', q⟩)
theorem slice_bounds (lo hi : Option Int) (n : Nat) : (sliceBounds lo hi none n).1 = ((HT.sIx n 0 lo : Nat) : Int) ∧ (sliceBounds lo hi none n).2.1 = ((HT.sIx n n hi : Nat) : Int) ∧ (sliceBounds lo hi none n).2.2 = 1 := by
 refine ⟨?_, ?_, rfl⟩
 · cases lo with
   | none => simp [sliceBounds, HT.sIx]
   | some i =>
     simp only [sliceBounds, HT.sIx, Option.getD_none, show (1 : Int) > 0 by decide, if_true]
     by_cases h : i < 0
     · simp only [h, if_true] <;> omega
     · simp only [h, if_false] <;> omega
 · cases hi with
   | none => simp [sliceBounds, HT.sIx]
   | some i =>
     simp only [sliceBounds, HT.sIx, Option.getD_none, show (1 : Int) > 0 by decide, if_true]
     by_cases h : i < 0
     · simp only [h, if_true] <;> omega
     · simp only [h, if_false] <;> omega
theorem slicePick_cut (its : List Value) (lo hi : Option Int) : slicePick its.toArray lo hi none = ((its.drop (HT.sIx its.length 0 lo)).take (HT.sIx its.length its.length hi - HT.sIx its.length 0 lo)).toArray := by
 obtain ⟨h1, h2, h3⟩ := slice_bounds lo hi its.toArray.size
 unfold slicePick
 rw [h1, h2, h3]
 simp only [sliceRange_one, pick_run, List.size_toArray] <;> rfl
def rSlL (K : PySem.W.Frag) : V → Option Int → Option Int → Hp → VK → Prop := fun x lo hi H Q => ∃ a xs, x = .ref a ∧ SqL K H a xs ∧ ∀ p, H p = none → Q (.ref p) (upd H p (.lst (cutV xs lo hi)))
theorem sl_list : SlR X (rSlL X.K) := by
 intro pins s σ H x v vl vu lo hi sl Q I rx hs pl pu h
 obtain ⟨a, xs, rfl, hx, q⟩ := h
 cases rx
 obtain ⟨its, r, ht, hz⟩ := I.list hx
 have hlen := r.length
 refine ⟨"list", _, slot_list_getitem.lookup, ht.isList.typeIs, ?_⟩
 refine wpAny_getItem_list_slice ht.isList hs pl pu .none (by simp) ?_ (by rw [List.size_toArray] <;> omega)
 rw [slicePick_cut, ← hlen]
 refine ⟨.ref s.heap.objs.size, _, I.laid (t' := s.toks) (o := .lst (cutV xs lo hi)) (fun b ob q => Heap.get?_push_of_some _ q) (Nat.le_refl _) ?_, rfl, q _ (I.hok.fresh (Nat.le_refl _))⟩
 exact ⟨Nat.le_trans (cutV_length xs lo hi) hz, _, 0, (r.drop (HT.sIx xs.length 0 lo)).take (HT.sIx xs.length xs.length hi - HT.sIx xs.length 0 lo), Heap.get?_push_size _ rfl⟩
def flatV : V → Bool
 | .non => true
 | .bl _ => true
 | .int _ => true
 | .str _ => true
 | _ => false
def eqV : V → V → Bool
 | .non, .non => true
 | .bl a, .bl b => a == b
 | .bl a, .int b => (if a then 1 else 0) == b
 | .int a, .bl b => a == (if b then 1 else 0)
 | .int a, .int b => a == b
 | .str a, .str b => a == b
 | _, _ => false
theorem eqAt_V {A : Around} {s : Shared} {y x : V} {u v : Value} (ry : RelV y u) (rx : RelV x v) (fy : flatV y = true) (fx : flatV x = true) : SeqAt.EqAt A s u v (eqV y x) := by
 cases y with
 | non =>
   cases ry
   cases x with
   | non => cases rx; exact SeqAt.EqAt.same _
   | bl b => cases rx; exact SeqAt.EqAt.none_bool b
   | int b => obtain ⟨t, rfl⟩ := rx; exact SeqAt.EqAt.none_int b t
   | str b => obtain ⟨t, rfl⟩ := rx; exact SeqAt.EqAt.none_str b t
   | _ => exact absurd (show false = true from fx) Bool.false_ne_true
 | bl a =>
   cases ry
   cases x with
   | non => cases rx; exact SeqAt.EqAt.bool_none a
   | bl b => cases rx; exact SeqAt.EqAt.bool_bool a b
   | int b => obtain ⟨t, rfl⟩ := rx; exact SeqAt.EqAt.bool_int a b t
   | str b => obtain ⟨t, rfl⟩ := rx; exact SeqAt.EqAt.bool_str a b t
   | _ => exact absurd (show false = true from fx) Bool.false_ne_true
 | int a =>
   obtain ⟨t', rfl⟩ := ry
   cases x with
   | non => cases rx; exact SeqAt.EqAt.int_none a t'
   | bl b => cases rx; exact SeqAt.EqAt.int_bool a t' b
   | int b => obtain ⟨t, rfl⟩ := rx; exact SeqAt.EqAt.int_int a t' b t
   | str b => obtain ⟨t, rfl⟩ := rx; exact SeqAt.EqAt.int_str a t' b t
   | _ => exact absurd (show false = true from fx) Bool.false_ne_true
 | str a =>
   obtain ⟨t', rfl⟩ := ry
   cases x with
   | non => cases rx; exact SeqAt.EqAt.str_none a t'
   | bl b => cases rx; exact SeqAt.EqAt.str_bool a t' b
   | int b => obtain ⟨t, rfl⟩ := rx; exact SeqAt.EqAt.str_int a t' b t
   | str b => obtain ⟨t, rfl⟩ := rx; exact SeqAt.EqAt.str_str a t' b t
   | _ => exact absurd (show false = true from fx) Bool.false_ne_true
 | _ => exact absurd (show false = true from fy) Bool.false_ne_true
def eqU (x : V) (u : Value) : Bool := match u with
 | .none => eqV .non x
 | .bool b => eqV (.bl b) x
 | .int i _ => eqV (.int i) x
 | .str z _ => eqV (.str z) x
 | _ => false
theorem eqU_of {x y : V} {u : Value} (r : RelV y u) (f : flatV y = true) : eqU x u = eqV y x := by
 cases y with
 | non => cases r; rfl
 | bl b => cases r; rfl
 | int i => obtain ⟨t, rfl⟩ := r; rfl
 | str z => obtain ⟨t, rfl⟩ := r; rfl
 | _ => exact absurd (show false = true from f) Bool.false_ne_true
theorem any_eqU {x : V} : ∀ {xs : List V} {us : List Value}, Vals xs us → xs.all flatV = true → us.any (eqU x) = xs.any fun y => eqV y x
 | _, _, .nil, _ => rfl
 | y :: xs, u :: us, .cons r t, f => by
   rw [List.all_cons, Bool.and_eq_true] at f
   rw [List.any_cons, List.any_cons, eqU_of r f.1, any_eqU t f.2]
theorem mem_eqAt {A : Around} {s : Shared} {x : V} {v : Value} (rx : RelV x v) (fx : flatV x = true) : ∀ {xs : List V} {us : List Value}, Vals xs us → xs.all flatV = true → ∀ u ∈ us, SeqAt.EqAt A s u v (eqU x u)
 | _, _, .nil, _ => fun u hu => by cases hu
 | y :: xs, u :: us, .cons r t, f => fun u' hu => by
   rw [List.all_cons, Bool.and_eq_true] at f
   rcases List.mem_cons.mp hu with rfl | hu
   · rw [eqU_of r f.1]; exact eqAt_V r rx f.1 fx
   · exact mem_eqAt rx fx t f.2 u' hu
def inV (x : V) (xs : List V) : Bool := xs.any fun y => eqV y x
def rIn (K : PySem.W.Frag) (neg : Bool) : R2 := fun x y H Q => ∃ p xs, y = .ref p ∧ (SqL K H p xs ∨ SqT K H p xs) ∧ flatV x = true ∧ xs.all flatV = true ∧ Q (.bl (if neg then !inV x xs else inV x xs)) H
theorem op_in_seq : OpR X (compareOp .In) (rIn X.K false) := by
 intro pins s σ H x y v u Q I rx ry h
 obtain ⟨p, xs, rfl, hq, fx, fs, q⟩ := h
 cases ry
 rcases hq with hq | hq
 · obtain ⟨its, r, pl, hz⟩ := I.list hq
   refine SeqAt.in_listAt (eqU x) pl.isList (fun w hw => mem_eqAt rx fx r fs w (by simpa using hw)) ⟨.bl _, H, I, rfl, ?_⟩
   rw [show its.toArray.any (eqU x) = its.any (eqU x) by simp, any_eqU r fs]
   exact q
 · obtain ⟨its, r, pl, hz⟩ := I.tuple hq
   refine SeqAt.in_tupleAt (eqU x) pl (fun w hw => mem_eqAt rx fx r fs w (by simpa using hw)) ⟨.bl _, H, I, rfl, ?_⟩
   rw [show its.toArray.any (eqU x) = its.any (eqU x) by simp, any_eqU r fs]
   exact q
theorem op_notIn_seq : OpR X (compareOp .NotIn) (rIn X.K true) := by
 intro pins s σ H x y v u Q I rx ry h
 obtain ⟨p, xs, rfl, hq, fx, fs, q⟩ := h
 cases ry
 rcases hq with hq | hq
 · obtain ⟨its, r, pl, hz⟩ := I.list hq
   refine SeqAt.notIn_listAt (eqU x) pl.isList (fun w hw => mem_eqAt rx fx r fs w (by simpa using hw)) ⟨.bl _, H, I, rfl, ?_⟩
   rw [show its.toArray.any (eqU x) = its.any (eqU x) by simp, any_eqU r fs]
   exact q
 · obtain ⟨its, r, pl, hz⟩ := I.tuple hq
   refine SeqAt.notIn_tupleAt (eqU x) pl (fun w hw => mem_eqAt rx fx r fs w (by simpa using hw)) ⟨.bl _, H, I, rfl, ?_⟩
   rw [show its.toArray.any (eqU x) = its.any (eqU x) by simp, any_eqU r fs]
   exact q
theorem call_len_seq : CallR X (.builtin "len") (fun xs H Q => ∃ p ys, xs = [.ref p] ∧ (SqL X.K H p ys ∨ SqT X.K H p ys) ∧ Q (.int ys.length) H) := by
 intro pins s σ H xs us Q I r h
 obtain ⟨p, ys, rfl, hq, q⟩ := h
 obtain ⟨u, rfl, rx⟩ := vals1 r
 cases rx
 have hn := line63
 rcases hq with hq | hq
 · obtain ⟨its, r', pl, hz⟩ := I.list hq
   have hlen := r'.length
   exact Calls.call_len_list pl.isList (by simp only [List.size_toArray] <;> omega) ⟨.int ys.length, H, I.tok _, ⟨s.toks + 1, by rw [List.size_toArray, hlen]⟩, q⟩
 · obtain ⟨its, r', pl, hz⟩ := I.tuple hq
   have hlen := r'.length
   exact len_tuple pl (by simp only [List.size_toArray] <;> omega) ⟨.int ys.length, H, I.tok _, ⟨s.toks + 1, by rw [List.size_toArray, hlen]⟩, q⟩
theorem call_len_str : CallR X (.builtin "len") (fun xs H Q => ∃ z, xs = [.str z] ∧ z.length ≤ sizeLine ∧ Q (.int z.length) H) := by
 intro pins s σ H xs us Q I r h
 obtain ⟨z, rfl, hz, q⟩ := h
 obtain ⟨u, rfl, t, rfl⟩ := vals1 r
 have hn := line63
 exact len_str (by omega) ⟨.int z.length, H, I.tok _, ⟨_, rfl⟩, q⟩
theorem CallR.or {f : Value} {r r' : List V → Hp → VK → Prop} (h : CallR X f r) (h' : CallR X f r') : CallR X f (fun xs H Q => r xs H Q ∨ r' xs H Q) := by
 intro pins s σ H xs us Q I rs q
 rcases q with q | q
 · exact h pins s σ H xs us Q I rs q
 · exact h' pins s σ H xs us Q I rs q
theorem call_list_of : CallR X (.type "list") (fun xs H Q => ∃ p ys, xs = [.ref p] ∧ (SqL X.K H p ys ∨ SqT X.K H p ys) ∧ ∀ l, H l = none → Q (.ref l) (upd H l (.lst ys))) := by
 intro pins s σ H xs us Q I r h
 obtain ⟨p, ys, rfl, hq, q⟩ := h
 obtain ⟨u, rfl, rx⟩ := vals1 r
 cases rx
 have fin : ∀ (its : List Value), Vals ys its → ys.length ≤ sizeLine → ∀ (h' : Heap) (c' : Nat), (∀ b o', s.heap.get? b = some o' → h'.get? b = some o') →
     h'.get? s.heap.objs.size = some { cls := .type "list", dict := none, data := .seq its.toArray c', slots := #[] } → EP X pins σ Q (.ref s.heap.objs.size) { s with heap := h' } := fun its r' hz h' c' kp e =>
   ⟨.ref s.heap.objs.size, _, I.laid (t' := s.toks) kp (Nat.le_refl _) (show ObjOk X.prog X.w _ h' _ (.lst ys) from ⟨hz, its, c', r', e⟩), rfl, q _ (I.hok.fresh (Nat.le_refl _))⟩
 rcases hq with hq | hq
 · obtain ⟨its, r', pl, hz⟩ := I.list hq
   have hlen := r'.length
   obtain ⟨o, ho, hc, n, hd⟩ := pl.isList
   exact call_list_seq p (.inl rfl) ho hc hd (fun h' c' kp e => fin its r' hz h' c' kp e) (by simp only [List.size_toArray] <;> omega)
 · obtain ⟨its, r', pl, hz⟩ := I.tuple hq
   have hlen := r'.length
   obtain ⟨o, ho, hc, n, hd⟩ := pl
   exact call_list_seq p (.inr rfl) ho hc hd (fun h' c' kp e => fin its r' hz h' c' kp e) (by simp only [List.size_toArray] <;> omega)
theorem call_tuple_of : CallR X (.type "tuple") (fun xs H Q => ∃ p ys, xs = [.ref p] ∧ ((SqL X.K H p ys ∧ ∀ l, H l = none → Q (.ref l) (upd H l (.tup ys))) ∨ (SqT X.K H p ys ∧ Q (.ref p) H))) := by
 intro pins s σ H xs us Q I r h
 obtain ⟨p, ys, rfl, h⟩ := h
 obtain ⟨u, rfl, rx⟩ := vals1 r
 cases rx
 rcases h with ⟨hq, q⟩ | ⟨hq, q⟩
 · obtain ⟨its, r', pl, hz⟩ := I.list hq
   have hlen := r'.length
   refine call_tuple_list pl.isList (fun h' kp => ?_) (by simp only [List.size_toArray] <;> omega)
   have I1 : Inv X pins σ H { s with heap := h' } := I.kept (t' := s.toks) kp
   have I2 : Inv X pins σ (upd H h'.objs.size (.tup ys)) { s with heap := h'.push { cls := .type "tuple", data := .seq its.toArray } } :=
     I1.laid (t' := s.toks) (fun b o e => Heap.get?_push_of_some _ e) (Nat.le_refl _) (show ObjOk X.prog X.w _ _ _ (.tup ys) from ⟨hz, its, r', IsTup.new _ _⟩)
   exact ⟨.ref h'.objs.size, _, I2, rfl, q _ (I1.hok.fresh (Nat.le_refl _))⟩
 · obtain ⟨its, r', pl, hz⟩ := I.tuple hq
   exact call_tuple_same pl ⟨.ref p, H, I, rfl, q⟩
def tyV (K : PySem.W.Frag) (T : String) (x : V) (H : Hp) : Prop := match x with
 | .str _ => T = "str"
 | .int _ => T = "int"
 | .ref p => (T = "list" ∧ ∃ xs, SqL K H p xs) ∨ (T = "tuple" ∧ ∃ o, K.lookup p = some o ∧ o.cls = .type "tuple" ∧ o.dict = none) ∨
     (T = "dict" ∧ ((∃ kvs, H p = some (.dK kvs)) ∨ ∃ kvs, H p = some (.dT kvs))) ∨ (T = "set" ∧ ∃ S n, H p = some (.set S n))
 | _ => False
theorem tyV_is {pins : List (Addr × Obj)} {σ : St} {H : Hp} {s : Shared} {T : String} {x : V} {v : Value} (I : Inv X pins σ H s) (r : RelV x v) (ty : tyV X.K T x H) :
   s.TypeIs v T ∧ ∀ a, v = .ref a → ∃ ob, s.heap.get? a = some ob ∧ ob.dict = none := by
 cases x with
 | str z =>
   obtain ⟨t, rfl⟩ := r
   cases (show T = "str" from ty)
   exact ⟨typeIs_str s z t, fun _ e => nomatch e⟩
 | int i =>
   obtain ⟨t, rfl⟩ := r
   cases (show T = "int" from ty)
   exact ⟨typeIs_int s i t, fun _ e => nomatch e⟩
 | ref p =>
   cases r
   rcases ty with ⟨rfl, xs, hq⟩ | ⟨rfl, o, hk, hc, hd⟩ | ⟨rfl, hk⟩ | ⟨rfl, S, n, hk⟩
   · obtain ⟨its, _, pl, _⟩ := I.list hq
     refine ⟨pl.isList.typeIs, fun a e => ?_⟩
     cases e
     obtain ⟨o, n, e, c, hd, _⟩ := pl
     exact ⟨o, e, hd⟩
   · refine ⟨⟨o, I.kIn p o hk, hc⟩, fun a e => ?_⟩
     cases e
     exact ⟨o, I.kIn _ o hk, hd⟩
   · have z : ∃ o, s.heap.get? p = some o ∧ o.ExactDict := by
       rcases hk with ⟨kvs, hk⟩ | ⟨kvs, hk⟩
       · obtain ⟨_, _, _, _, o, _, _, e, ex, _⟩ := I.hok p _ hk
         exact ⟨o, e, ex⟩
       · obtain ⟨_, _, _, _, o, _, _, e, ex, _⟩ := I.hok p _ hk
         exact ⟨o, e, ex⟩
     obtain ⟨o, e, ex⟩ := z
     refine ⟨⟨o, e, ex.1⟩, fun a e2 => ?_⟩
     cases e2
     exact ⟨o, e, ex.2.1⟩
   · obtain ⟨o, _, _, _, e, ex, _⟩ := I.hok p _ hk
     refine ⟨⟨o, e, ex.1⟩, fun a e2 => ?_⟩
     cases e2
     exact ⟨o, e, ex.2.1⟩
 | _ => exact False.elim ty
def tBM (K : PySem.W.Frag) (T : String) (r : V → List V → Hp → VK → Prop) (to : TE) (t : TA) : TE := fun σ H Q => to σ H fun x H1 => tyV K T x H1 ∧ t σ H1 fun xs H2 => r x xs H2 Q
variable {o e : Expr} {es : List Expr} {to : TE} {t : TA} {name : Str} {apos cpos : Pos} {T id : String} {r : V → List V → Hp → VK → Prop}
theorem pe_bm (pa : PlainAttrs T) (slot : Slot T name id) (hty : typeOf (.builtin id) = pure (.type "method_descriptor")) (hm : MtR X id r) (ho : PE X o to) (ha : PA X (e :: es) t)
   (hbase : attributeBase o name X.env (eval o X.env) = eval o X.env := by rfl)
   (hfew : ((backTo cpos (starEach (e :: es) X.env)).all (fun x => !x.1) && (backToKw cpos (keywordEach [] X.env)).all (fun x => x.1.isSome)
     && decide ((e :: es).length + ([] : List Keyword).length + (if ([] : List Keyword).isEmpty then 0 else 1) < 30)) = true := by rfl)
   (hline : (apos.endLine == cpos.line) = true := by rfl) (hs : starEach (e :: es) X.env = (false, eval e X.env) :: starEach es X.env := by rfl) (hplain : (backTo cpos (starEach es X.env)).any (·.1) = false := by rfl) :
   PE X (.Call (.Attribute o name apos) (e :: es) [] cpos) (tBM X.K T r to t) := by
 intro pins s σ H Q I h
 refine wpAny_Call_method_late hbase hfew hline rfl (thn (ho pins s σ H _ I h) fun v s1 ⟨x, H1, I1, r1, ty, q1⟩ => ?_)
 obtain ⟨h1, h2⟩ := tyV_is I1 r1 ty
 refine ⟨T, id, pa, slot, hty, h1, h2, ?_⟩
 have hA := ha cpos pins s1 σ H1 _ I1 q1
 rw [hs] at hA ⊢
 refine Calls.callWith_builtin (by show (false || (backTo cpos (starEach es X.env)).any (·.1)) = false; rw [hplain] <;> rfl) (Calls.evalArgs_plain ?_)
 exact thn hA fun us s2 ⟨vs, H2, I2, r2, q2⟩ => hm pins s2 σ H2 x vs v us Q I2 r1 r2 q2
end
end L2
namespace L2
open PySem PySem.Spec PyProof.Rows
def MtM (X : Cx) (id : String) (r : V → List V → Hp → VK → Prop) : Prop :=
 ∀ (pins : List (Addr × Obj)) (s : Shared) (σ : St) (H : Hp) (x : V) (xs : List V) (v : Value) (us : List Value) (Q : VK), Inv X pins σ H s → RelV x v → Vals xs us → r x xs H Q →
   wpAny (model X.prog X.w) X.A (call (.builtin id) (v :: us)) (EP X pins σ Q) X.xe s
theorem Vals.one : ∀ {x : V} {us : List Value}, Vals [x] us → ∃ u, us = [u] ∧ RelV x u
 | _, _, .cons r .nil => ⟨_, rfl, r⟩
theorem Vals.two : ∀ {x y : V} {us : List Value}, Vals [x, y] us → ∃ u v, us = [u, v] ∧ RelV x u ∧ RelV y v
 | _, _, _, .cons r (.cons q .nil) => ⟨_, _, rfl, r, q⟩
theorem Vals.zero : ∀ {us : List Value}, Vals [] us → us = []
 | _, .nil => rfl
theorem Vals.dropLast {xs : List V} {us : List Value} (h : Vals xs us) : Vals xs.dropLast us.dropLast := by
 induction h with
 | nil => exact .nil
 | cons r t ih =>
   cases t with
   | nil => exact .nil
   | cons q t' => exact .cons r ih
theorem Vals.reverse {xs : List V} {us : List Value} (h : Vals xs us) : Vals xs.reverse us.reverse := by
 induction h with
 | nil => exact .nil
 | cons r t ih => rw [List.reverse_cons, List.reverse_cons]; exact Vals.append ih (.cons r .nil)
section
variable {X : Cx} {pins : List (Addr × Obj)} {σ : St} {H : Hp} {s : Shared} {l b : Addr} {xs ys zs : List V}
theorem Inv.lset {its its' : List Value} {n : Nat} {f : Array Value → Array Value} {t' : Nat} (I : Inv X pins σ H s) (hH : H l = some (.lst xs))
   (e : s.heap.get? l = some { cls := .type "list", data := .seq its.toArray n }) (hf : f its.toArray = its'.toArray) (hv : Vals ys its') (hz : ys.length ≤ sizeLine) :
   Inv X pins σ (upd H l (.lst ys)) { s with heap := s.heap.update l (Obj.mapSeq f), toks := t' } := by
 have q := PySem.IsL.update e f
 rw [hf] at q
 refine I.write (x := l) (e := l) (by rw [hH]; exact trivial) (.inl rfl) (fun b' u hb hu => (Heap.get?_update_other s.heap (Obj.mapSeq f) (Ne.symm hb)).trans hu) ⟨_, q⟩ ?_
 exact ⟨hz, its', _, hv, q⟩
theorem Inv.lnew {its : List Value} {t' : Nat} (I : Inv X pins σ H s) (hv : Vals ys its) (hz : ys.length ≤ sizeLine) :
   Inv X pins σ (upd H s.heap.objs.size (.lst ys)) { s with heap := s.heap.push { cls := .type "list", data := .seq its.toArray }, toks := t' } :=
 I.laid (fun _ _ q => Heap.get?_push_of_some _ q) (Nat.le_refl _) ⟨hz, its, 0, hv, Heap.get?_push_size _ rfl⟩
theorem Inv.fresh (I : Inv X pins σ H s) : H s.heap.objs.size = none := I.hok.fresh (Nat.le_refl _)
theorem Inv.lstM (I : Inv X pins σ H s) (hH : H l = some (.lst xs)) : xs.length ≤ sizeLine ∧ ∃ (its : List Value) (n : Nat), Vals xs its ∧ xs.length = its.length ∧ s.heap.get? l = some { cls := .type "list", data := .seq its.toArray n } := by
 obtain ⟨z, its, n, r, e⟩ := I.hok l _ hH
 exact ⟨z, its, n, r, r.length, e⟩
end
section
variable {X : Cx}
def rAppend : V → List V → Hp → VK → Prop := fun x vs H Q => ∃ l xs y, x = .ref l ∧ vs = [y] ∧ H l = some (.lst xs) ∧ xs.length < sizeLine ∧ Q .non (upd H l (.lst (xs ++ [y])))
theorem mt_append : MtM X "list.append" rAppend := by
 intro pins s σ H x vs v us Q I rx rv h
 obtain ⟨l, xs, y, rfl, rfl, hH, hz, q⟩ := h
 cases rx
 obtain ⟨u, rfl, ru⟩ := rv.one
 obtain ⟨z, its, n, r, hl, e⟩ := I.lstM hH
 refine call_meets F.slot_list_append ⟨_, e, rfl⟩ F.entry_list_append (F.args_list_append_2 _ _) (PySem.list_append l its.toArray n u (by rw [List.size_toArray]; omega)) ⟨e, ?_⟩
 refine ⟨.non, _, I.lset (its' := its ++ [u]) hH e (by simp) (r.append (.cons ru .nil)) ?_, rfl, q⟩
 rw [List.length_append, List.length_singleton]
 omega
def rCat : R2 := fun x y H Q => ∃ l b xs zs, x = .ref l ∧ y = .ref b ∧ H l = some (.lst xs) ∧ H b = some (.lst zs) ∧ xs.length + zs.length ≤ sizeLine ∧ ∀ p, H p = none → Q (.ref p) (upd H p (.lst (xs ++ zs)))
theorem op_cat : OpR X (binaryOp .Add) rCat := by
 intro pins s σ H x y v u Q I rx ry h
 obtain ⟨l, b, xs, zs, rfl, rfl, hH, hB, hz, q⟩ := h
 cases rx
 cases ry
 obtain ⟨z, its, n, r, hl, e⟩ := I.lstM hH
 obtain ⟨z2, its2, n2, r2, hl2, e2⟩ := I.lstM hB
 refine PySem.P.add_list e e2 ?_ (by rw [List.size_toArray, List.size_toArray]; omega)
 have ea : its.toArray ++ its2.toArray = (its ++ its2).toArray := by simp
 rw [ea]
 exact ⟨.ref _, _, I.lnew (t' := s.toks) (r.append r2) (by rw [List.length_append]; omega), rfl, q _ I.fresh⟩
end
section
variable {prog : Program} {w : World} {A : Around} {E : Value → Shared → Prop} {s : Shared}
end
section
variable {X : Cx}
end
end L2
namespace Att
open PySem PySem.W PySem.Calls PyProof.Rows
theorem ints_of_wellAll {P : Params} {h : Heap} : ∀ (ns : List Int) (vs : List Value), WellAll P h vs (ns.map WData.int) → IntsAre vs ns := by
 intro ns
 induction ns with
 | nil =>
   intro vs w
   rw [List.map_nil] at w
   cases w
   exact .nil
 | cons n ns ih =>
   intro vs w
   rw [List.map_cons] at w
   cases w with
   | cons a b =>
     cases a
     exact .cons _ _ (ih _ b)
theorem script_of {l : OpenLaw} {n : Nat} (hn : l.most = some n) {P : Params} {h : Heap} {args : List WData} {vals : List Value}
   (hpre : l.row.toRowW.claim.pre args = true) (hwl : WellAll P h vals args) :
   ∃ a vs ns, vals = [Value.ref a] ∧ args = [WData.list (ns.map WData.int)] ∧ h.get? a = some { cls := .type "list", data := .seq vs.toArray } ∧ IntsAre vs ns ∧ ns.length ≤ n := by
 have hsh : WShape.hasAll [] args [.list .int] = true := (pre_splitW hpre).1
 have hc : l.pre.holds [] { args := args } = true := (pre_splitW hpre).2
 obtain ⟨d, r, rfl, h1, h2⟩ := hasAllW_cons hsh
 obtain rfl := hasAllW_nil h2
 obtain ⟨xs, rfl, h3⟩ := hasW_list h1
 obtain ⟨ns, rfl⟩ := items_int h3
 have hlen : ns.length ≤ n := by
   unfold OpenLaw.pre at hc
   have h4 : (WTm.not (.lt (.lit (.int (n : Int))) (.len (.arg 0)))).holds [] { args := [.list (ns.map .int)] } = true := by
     have h4 := (holds_andW hc).1
     rw [hn] at h4
     exact h4
   have h5 := condW_of h4 (w_not (w_lt w_lit (w_len_list (w_arg rfl))))
   rw [List.length_map] at h5
   refine Nat.le_of_not_lt fun q => ?_
   have q' : (n : Int) < ((ns.length : Nat) : Int) := by omega
   first
     | (rw [decide_eq_true q'] at h5; exact absurd h5 (by decide))
     | (simp at h5; omega)
 cases hwl with
 | cons w1 w2 =>
   cases w2
   cases w1 with
   | list ho hall => exact ⟨_, _, ns, rfl, rfl, ho, ints_of_wellAll ns _ hall, hlen⟩
theorem post_true (l : OpenLaw) (args : List WData) : l.row.toRowW.claim.post args (.bool true) args = true :=
 postW_of (r := l.row.toRowW) (X := (true == true))
   (show WShape.has [] (.bool true) .bool = true by first | rfl | decide | simp [WShape.has, WShape.arms, WShape.armsAll])
   (show (WTm.eq .res (.lit (.bool true))).value [] { args := args, res := some (.bool true), after := args } = some (.bool (true == true)) from w_eq_bool (w_res rfl) w_lit) rfl
section
variable {prog : Program} {w : World} {A : Around} {E : Value → Shared → Prop} {s : Shared} {K : Frag}
end
end Att
namespace L2
open PySem PySem.Spec PyProof.Rows
theorem vals_ints : ∀ {vs : List Value} {ns : List Int}, IntsAre vs ns → Vals (ns.map V.int) vs
 | _, _, .nil => .nil
 | _, _, .cons n t h => .cons ⟨t, rfl⟩ (vals_ints h)
def Only (H : Hp) : Prop := ∀ b, H b = none ∨ ∃ o xs, H b = some (.frz o (.lst xs))
theorem law_call {P : Program} {w : World} {K : PySem.W.Frag} {mg mb : Str → Option Value} {CX : CXT} {k : Nat} {fa a : Addr} {fd : FuncData} {x : Str} {sp : Sp} {s₁ : Shared} {vs : List Value} {ns : List Int}
   (KX : K.In s₁.heap) (hns : s₁.heap.Ns mainGlobals mg) (hb : s₁.heap.Ns builtinsNs mb) (hbb : ∀ x : Str, x ≠ "__name__" → mb x = bootBuiltins x) (hlim : s₁.heap.NoLimit) (hg : s₁.gens = #[])
   (ha : s₁.heap.get? a = some { cls := .type "list", data := .seq vs.toArray }) (hi : IntsAre vs ns) (hl : ns.length ≤ sizeLine) (hr : Room k callerA)
   (F : ∀ base : Heap, K.In base → base.Ns mainGlobals mg → FnOk P w K mg base CX k fa fd [x] sp) (hbind : ∀ (s : Shared) (u : Value), BindsTo s fd ⟨[u], []⟩ [(x, u)])
   (hsp : ∀ H : Hp, Only H → SqL K H a (ns.map V.int) → sp [.ref a] H (fun v _ => v = .bl true) fun _ _ _ => False)
   (hCX : ∀ H e s', CX [] H s₁ (fun _ _ _ => False) e s' → False) :
   codeAny (model P w) callerA (.call (.ref fa) ⟨[.ref a], []⟩) (fun r s' => r = .ok (.ret (.bool true)) ∧ OldK s₁.heap s'.heap ∧ s'.os = s₁.os ∧ AllBare s'.gens) s₁ := by
 have rv := vals_ints hi
 have lenV := hi.length
 have core : ∀ H : Hp, Only H → SqL K H a (ns.map V.int) → HOk P w H s₁.heap → (∀ b, H b ≠ none → b = a) → (H a ≠ none → K.lookup a = none) →
     codeAny (model P w) callerA (.call (.ref fa) ⟨[.ref a], []⟩) (fun r s' => r = .ok (.ret (.bool true)) ∧ OldK s₁.heap s'.heap ∧ s'.os = s₁.os ∧ AllBare s'.gens) s₁ := by
   intro H hO hS hok hA hK
   have base_of : ∀ {b : Addr} {o : Obj}, s₁.heap.get? b = some o → H b = none → (hidT s₁.heap H).get? b = some o := fun e n => hidT_get e n
   have noA : ∀ {b : Addr} {o : Obj} {es : Array DictEntry} {ep : Nat}, s₁.heap.get? b = some o → o.data = .dict es ep → H b = none := fun {b o es ep} e d => by
     cases q : H b with
     | none => rfl
     | some u =>
       have e' : b = a := hA b (by rw [q]; simp)
       subst e'
       rw [ha] at e; cases e
       have d' : Data.seq vs.toArray _ = Data.dict es ep := d
       cases d'
   have nsK : ∀ {b : Addr} {m : Str → Option Value}, s₁.heap.Ns b m → (hidT s₁.heap H).Ns b m := fun {b m} ⟨o, es, ep, e, d, r⟩ => ⟨o, es, ep, base_of e (noA e d), d, r⟩
   have hKb : K.In (hidT s₁.heap H) := fun b o e => base_of (KX b o e) (by
     cases q : H b with
     | none => rfl
     | some u =>
       have e' : b = a := hA b (by rw [q]; simp)
       subst e'
       rw [hK (by rw [q]; simp)] at e; cases e)
   have hM : Mod K mg (hidT s₁.heap H) := ⟨hKb, nsK hns, ⟨mb, nsK hb, hbb⟩, let ⟨mc, h1, h2⟩ := hlim; ⟨mc, nsK h1, h2⟩⟩
   have e0 : Env0 P w K mg (hidT s₁.heap H) callerA [] s₁ H := ⟨rfl, hM, fun b o e => of_hidT e, Nat.le_of_eq (hidT_size _ _), trivial, fun b hb => absurd (show b ∈ ([] : List Addr) from hb) (by simp), hok, .of_eq hg⟩
   refine codeAny_mono ((F _ hKb (nsK hns)).run callerA [] s₁ H ⟨[.ref a], []⟩ [.ref a] [.ref a] _ _ hr e0 (hbind s₁ (.ref a)) (.cons rfl .nil) (hsp H hO hS)) fun r s' h => ?_
   cases r with
   | error e => exact (hCX H e s' h).elim
   | ok fl =>
     cases fl with
     | next => exact False.elim h
     | brk => exact False.elim h
     | cont => exact False.elim h
     | ret u =>
       obtain ⟨v, H', os, bare, un, hok', r', q⟩ := h
       have q' : v = .bl true := q
       subst q'
       obtain rfl : u = Value.bool true := r'
       refine ⟨rfl, OldK.of_keep fun b o e => ?_, os, bare⟩
       cases q : H b with
       | none => exact un.keep b o e q (by intro z; exact absurd (show b ∈ ([] : List Addr) from z) (by simp)) (by simp)
       | some u =>
         rcases hO b with z | ⟨ob, xs, z⟩
         · rw [q] at z; cases z
         · have z2 := un.frzs b ob _ z
           obtain ⟨e1, _⟩ := hok b _ z
           obtain ⟨e2, _⟩ := hok' b _ z2
           rw [e] at e1; cases e1
           exact e2
 cases hk : K.lookup a with
 | some o =>
   have e := KX a o hk
   rw [ha] at e
   cases e
   refine core (fun _ => none) (fun _ => .inl rfl) (.inr ⟨_, vs.toArray, _, hk, rfl, rfl, rfl, by rw [List.size_toArray, lenV]; exact hl, by simpa using rv⟩) (fun b u z => by have z' : (none : Option HO) = some u := z; cases z') (fun b z => absurd rfl z) fun z => absurd rfl z
 | none =>
   refine core (fun b => if b = a then some (.frz { cls := .type "list", data := .seq vs.toArray } (.lst (ns.map V.int))) else none) (fun b => ?_) (.inl (.inr ⟨{ cls := .type "list", data := .seq vs.toArray }, if_pos rfl⟩)) (fun b u z => ?_) (fun b z => ?_) fun _ => hk
   · by_cases hb : b = a
     · exact .inr ⟨_, _, if_pos hb⟩
     · exact .inl (if_neg hb)
   · by_cases hb : b = a
     · have z' := (if_pos hb).symm.trans z
       cases z'
       subst hb
       exact ⟨ha, by rw [List.length_map]; exact hl, vs, _, rv, ha⟩
     · have z' := (if_neg hb).symm.trans z
       cases z'
   · by_cases hb : b = a
     · exact hb
     · exact absurd (if_neg hb) z
end L2
namespace L2
open PySem PySem.Spec PyProof.Rows
abbrev KOf {K : PySem.W.Frag} {h : Heap} (_ : K.In h) : PySem.W.Frag := K
end L2
namespace L2
open PySem PySem.Spec PyProof.Rows
def inClass (s : Stmt) (j : Nat) : Stmt := match s with
 | .ClassDef _ _ _ body _ _ _ _ _ _ _ => body.getD j (.Pass ⟨0, 0, 0, 0⟩)
 | _ => .Pass ⟨0, 0, 0, 0⟩
def defArgs (s : Stmt) : Arguments := match s with
 | .FunctionDef _ a _ _ _ _ _ _ _ _ => a
 | _ => { posonlyargs := [], args := [], vararg := none, kwonlyargs := [], kw_defaults := [], kwarg := none, defaults := [] }
def defBody (s : Stmt) : List Stmt := match s with
 | .FunctionDef _ _ b _ _ _ _ _ _ _ => b
 | _ => []
def defScope (s : Stmt) : Scope := match s with
 | .FunctionDef _ _ _ _ _ _ sc _ _ _ => sc
 | _ => { kind := .function, names := [], isGenerator := false, isCoroutine := false }
abbrev CX0 : CXT := fun _ _ _ _ _ _ => False
abbrev E0 : XK := fun _ _ _ => False
theorem zN {X : Cx} : Passes CX0 X E0 := fun _ _ _ _ _ _ _ h => h.elim
structure Fun (K : PySem.W.Frag) (x qual : Str) (st : Stmt) (f : Addr) (fd : FuncData) : Prop where
 ex : ∃ (oc : Value) (od : Option Addr) (kV doc pm : Value) (an : Option Addr) (cdv ct : Value) (osl : Array (Option Value)),
   fd = PySem.W.fnOf x qual (defArgs st) (defBody st) (defScope st) .none kV doc pm an cdv ct ∧ K.lookup f = some ⟨oc, od, .func fd, osl⟩ ∧ PySem.W.codeIn K cdv qual = true
 kp : PySem.W.keepIn K (.ref f) = true
section
variable {P : Program} {w : World} {K : PySem.W.Frag} {mg : Str → Option Value} {base : Heap}
theorem Fun.ok {x qual : Str} {st : Stmt} {f : Addr} {fd : FuncData} {N ps : List Str} {k : Nat} {sp : Sp} (F : Fun K x qual st f fd) (S : FnScope N ps (defScope st)) (len : ∀ vs H Q E, sp vs H Q E → vs.length = ps.length)
   (hbody : ∀ (cdv : Value) (A : Around) (outer : List Env) (s : Shared) (H : Hp) (vs : List V) (Q : VK) (E : XK), Room k (A.deeper (envOfC qual (defScope st) s.heap.objs.size f cdv)) → sp vs H Q E →
     ∃ t, PSs (cxOf CX0 P w K mg base N qual (defScope st) f cdv A outer s H E).nox (defBody st) t ∧ t { nx := fun _ H' => Q .non H', rt := Q } (start N vs) H) : FnOk P w K mg base CX0 (k + 1) f fd ps sp := by
 obtain ⟨oc, od, kV, doc, pm, an, cdv, ct, osl, rfl, lk, hcd⟩ := F.ex
 refine fn_of lk hcd S len fun A outer s H vs Q E hr hsp => ?_
 obtain ⟨t, h, q⟩ := hbody cdv A outer s H vs Q E hr hsp
 exact ⟨t, h.nox, q⟩
theorem Fun.binds {x qual : Str} {st : Stmt} {f : Addr} {fd : FuncData} {ps : List Str} (F : Fun K x qual st f fd)
   (h : ∀ (kV doc pm : Value) (an : Option Addr) (cdv ct : Value) (us : List Value), us.length = ps.length → bindArgs (PySem.W.fnOf x qual (defArgs st) (defBody st) (defScope st) .none kV doc pm an cdv ct) ⟨us, []⟩ = pure (ps.zip us)) : Binds K fd ps [] := by
 obtain ⟨oc, od, kV, doc, pm, an, cdv, ct, osl, rfl, lk, hcd⟩ := F.ex
 exact .all (h kV doc pm an cdv ct)
theorem fun_mk {x qual : Str} {st : Stmt} {f : Addr} {oc : Value} {od an : Option Addr} {osl : Array (Option Value)} {kV doc pm cdv ct : Value} (l : K.lookup f = some ⟨oc, od, .func (PySem.W.fnOf x qual (defArgs st) (defBody st) (defScope st) .none kV doc pm an cdv ct), osl⟩)
   (c : PySem.W.codeIn K cdv qual = true) (k : PySem.W.keepIn K (.ref f) = true) : Fun K x qual st f (PySem.W.fnOf x qual (defArgs st) (defBody st) (defScope st) .none kV doc pm an cdv ct) := ⟨⟨oc, od, kV, doc, pm, an, cdv, ct, osl, rfl, l, c⟩, k⟩
end
section
variable {X : Cx}
theorem pv (i : Nat) {x : Str} {pos : Pos} (hN : X.N[i]? = some x := by rfl) (hv : Vis X.env.scope x := by first | exact Or.inl rfl | exact Or.inr (Or.inl rfl) | exact Or.inr (Or.inr rfl)) (hd : (x == ("__debug__" : Str)) = false := by decide)
   (hcd : (x == ("__classdict__" : Str)) = false := by decide) : PE X (.Name x pos) (tVar i) := pe_var hN hv hd hcd
end
theorem iteF {A B : Prop} (h : B) : if false = true then A else B := by
 rw [if_neg Bool.false_ne_true]
 exact h
theorem iteT {A B : Prop} (h : A) : if true = true then A else B := by
 rw [if_pos rfl]
 exact h
theorem ite2 {c A B : Prop} [Decidable c] (h1 : c → A) (h2 : ¬ c → B) : if c then A else B := by
 by_cases h : c
 · rw [if_pos h]
   exact h1 h
 · rw [if_neg h]
   exact h2 h
def Same (H H' : Hp) : Prop := ∀ b o, H b = some o → H' b = some o
theorem Same.refl (H : Hp) : Same H H := fun _ _ h => h
theorem Same.trans {H H1 H2 : Hp} (a : Same H H1) (b : Same H1 H2) : Same H H2 := fun c o h => b c o (a c o h)
theorem Same.free {H H' : Hp} (e : Same H H') {l : Addr} (h : H' l = Option.none) : H l = Option.none := by
 cases q : H l with
 | none => rfl
 | some o =>
   rw [e l o q] at h
   cases h
theorem Same.seq {K : PySem.W.Frag} {H H' : Hp} {a : Addr} {xs : List V} (e : Same H H') (h : SqL K H a xs) : SqL K H' a xs := by
 rcases h with (h | ⟨o, h⟩) | h
 · exact .inl (.inl (e _ _ h))
 · exact .inl (.inr ⟨o, e _ _ h⟩)
 · exact .inr h
end L2
namespace L2
open PySem PySem.Spec PyProof.Rows
section
variable {κ : Type} [DecidableEq κ]
def valV (kvs : List (κ × V)) (k : κ) : Option V := (kvs.find? fun kv => decide (kv.1 = k)).map (·.2)
def putK (kvs : List (κ × V)) (k : κ) (v : V) : List (κ × V) :=
 if (kvs.any fun kv => decide (kv.1 = k)) = true then kvs.map (fun kv => if kv.1 = k then (kv.1, v) else kv) else kvs ++ [(k, v)]
def dropK (kvs : List (κ × V)) (k : κ) : List (κ × V) := kvs.filter fun kv => decide (kv.1 ≠ k)
theorem valV_pos {p : κ × V} {r : List (κ × V)} {k : κ} (e : p.1 = k) : valV (p :: r) k = some p.2 := by simp [valV, List.find?_cons, e]
theorem valV_neg {p : κ × V} {r : List (κ × V)} {k : κ} (e : ¬ p.1 = k) : valV (p :: r) k = valV r k := by simp [valV, List.find?_cons, e]
theorem RelO.getD {o : Option V} {u : Option Value} {d : V} {d' : Value} (r : RelO o u) (rd : RelV d d') : RelV (o.getD d) (u.getD d') := by
 cases o with
 | none => cases u with
   | none => exact rd
   | some _ => exact (show False from r).elim
 | some _ => cases u with
   | none => exact (show False from r).elim
   | some _ => exact r
theorem KV.val {kvs : List (κ × V)} {vs : List (κ × Value)} (r : KV kvs vs) (k : κ) : RelO (valV kvs k) (valueAt vs k) := by
 unfold KV at r
 induction r with
 | nil => exact True.intro
 | @cons p q ps qs h t ih =>
   obtain ⟨h1, h2⟩ := h
   by_cases e : p.1 = k
   · have e' : q.1 = k := h1.symm.trans e
     have b : valueAt (q :: qs) k = some q.2 := by simp [valueAt, List.find?_cons, e']
     rw [valV_pos e, b]; exact h2
   · have e' : ¬ q.1 = k := fun z => e (h1.trans z)
     have b : valueAt (q :: qs) k = valueAt qs k := by simp [valueAt, List.find?_cons, e']
     rw [valV_neg e, b]; exact ih
theorem KV.any {kvs : List (κ × V)} {vs : List (κ × Value)} (r : KV kvs vs) (k : κ) : (kvs.any fun kv => decide (kv.1 = k)) = vs.any fun kv => decide (kv.1 = k) := by
 unfold KV at r
 induction r with
 | nil => rfl
 | cons h t ih => rw [List.any_cons, List.any_cons, ih, h.1]
theorem KV.drop {kvs : List (κ × V)} {vs : List (κ × Value)} (r : KV kvs vs) (k : κ) : KV (dropK kvs k) (without vs k) := by
 unfold KV at r ⊢
 unfold dropK without
 induction r with
 | nil => exact .nil
 | @cons p q ps qs h t ih =>
   obtain ⟨h1, h2⟩ := h
   rw [List.filter_cons, List.filter_cons]
   by_cases e : p.1 = k
   · have a : ¬ decide (p.1 ≠ k) = true := by simp [e]
     have b : ¬ decide (q.1 ≠ k) = true := by simp [h1.symm.trans e]
     rw [if_neg a, if_neg b]; exact ih
   · have e' : ¬ q.1 = k := fun z => e (h1.trans z)
     have a : decide (p.1 ≠ k) = true := by simp [e]
     have b : decide (q.1 ≠ k) = true := by simp [e']
     rw [if_pos a, if_pos b]; exact .cons ⟨h1, h2⟩ ih
theorem KV.keys {kvs : List (κ × V)} {vs : List (κ × Value)} (r : KV kvs vs) : kvs.map (·.1) = vs.map (·.1) := by
 unfold KV at r
 induction r with
 | nil => rfl
 | cons h t ih => rw [List.map_cons, List.map_cons, ih, h.1]
theorem KV.length {kvs : List (κ × V)} {vs : List (κ × Value)} (r : KV kvs vs) : kvs.length = vs.length := Paired.length r
end
abbrev KT (H : Hp) : List (List Key × V) → List (List Key × Addr × Value) → Prop := Paired fun p q => p.1 = q.1 ∧ H q.2.1 = some (.tup (p.1.map kV)) ∧ RelV p.2 q.2.2
theorem KT.val {H : Hp} {kvs : List (List Key × V)} {xs : List (List Key × Addr × Value)} (r : KT H kvs xs) (k : List Key) : RelO (valV kvs k) ((atKey xs k).map (·.2)) := by
 induction r with
 | nil => exact True.intro
 | @cons p q ps qs h t ih =>
   obtain ⟨h1, _, h2⟩ := h
   by_cases e : p.1 = k
   · have e' : q.1 = k := h1.symm.trans e
     have b : atKey (q :: qs) k = some q.2 := by simp [atKey, List.find?_cons, e']
     rw [valV_pos e, b]; exact h2
   · have e' : ¬ q.1 = k := fun z => e (h1.trans z)
     have b : atKey (q :: qs) k = atKey qs k := by simp [atKey, List.find?_cons, e']
     rw [valV_neg e, b]; exact ih
theorem KT.keeps {H H' : Hp} {kvs : List (List Key × V)} {xs : List (List Key × Addr × Value)} (r : KT H kvs xs) (ht : ∀ b ys, H b = some (.tup ys) → H' b = some (.tup ys)) : KT H' kvs xs :=
 Paired.mapP r fun _ _ z => ⟨z.1, ht _ _ z.2.1, z.2.2⟩
section
variable {P : Program} {w : World} {H : Hp} {h : Heap} {a : Addr}
end
def DGet (H : Hp) (a : Addr) (y : V) (r : Option V) : Prop :=
 (∃ kvs k, Rd H a (.dK kvs) ∧ y = kV k ∧ r = valV kvs k) ∨ ∃ kvs k b, Rd H a (.dT kvs) ∧ y = .ref b ∧ H b = some (.tup (k.map kV)) ∧ r = valV kvs k
def DPut (H : Hp) (a : Addr) (y v : V) (H' : Hp) : Prop :=
 (∃ kvs k, H a = some (.dK kvs) ∧ y = kV k ∧ kvs.length < sizeLine ∧ H' = upd H a (.dK (putK kvs k v))) ∨
 ∃ kvs k b, H a = some (.dT kvs) ∧ y = .ref b ∧ H b = some (.tup (k.map kV)) ∧ kvs.length < sizeLine ∧ H' = upd H a (.dT (putK kvs k v))
theorem DGet.k {H : Hp} {a : Addr} {kvs : List (Key × V)} {k : Key} (e : H a = some (.dK kvs)) : DGet H a (kV k) (valV kvs k) := .inl ⟨kvs, k, .inl e, rfl, rfl⟩
theorem DGet.t {H : Hp} {a b : Addr} {kvs : List (List Key × V)} {k : List Key} (e : H a = some (.dT kvs)) (eb : H b = some (.tup (k.map kV))) : DGet H a (.ref b) (valV kvs k) := .inr ⟨kvs, k, b, .inl e, rfl, eb, rfl⟩
theorem DPut.k {H : Hp} {a : Addr} {kvs : List (Key × V)} {k : Key} {v : V} (e : H a = some (.dK kvs)) (hl : kvs.length < sizeLine) : DPut H a (kV k) v (upd H a (.dK (putK kvs k v))) := .inl ⟨kvs, k, e, rfl, hl, rfl⟩
theorem DPut.t {H : Hp} {a b : Addr} {kvs : List (List Key × V)} {k : List Key} {v : V} (e : H a = some (.dT kvs)) (eb : H b = some (.tup (k.map kV))) (hl : kvs.length < sizeLine) :
   DPut H a (.ref b) v (upd H a (.dT (putK kvs k v))) := .inr ⟨kvs, k, b, e, rfl, eb, hl, rfl⟩
section
variable {X : Cx} {pins : List (Addr × Obj)} {σ : St} {H : Hp} {s : Shared} {a : Addr} {y v : V} {u r : Value} {o : Option V} {A : Around} {E : Value → Shared → Prop}
theorem Inv.big (I : Inv X pins σ H s) : sysModules < s.heap.objs.size := by
 have h : mainGlobals < s.heap.objs.size := (I.mod.glob.keeps I.bk).lt
 exact Nat.lt_trans (by decide) h
end
section
variable {X : Cx} {pins : List (Addr × Obj)} {σ : St} {H : Hp} {s : Shared} {a : Addr} {kvs : List (Key × V)} {k : Key} {u : Value} {A : Around} {E : Value → Shared → Prop}
end
section
variable {X : Cx} {o i e value : Expr} {pos pos' tpos : Pos} {td ty tv : TE}
end
theorem dk_empty {P : Program} {w : World} {H : Hp} (h : Heap) (hb : sysModules < h.objs.size) : ObjOk P w H (h.push { cls := .type "dict", data := .dict #[] }) h.objs.size (.dK []) :=
 ⟨Nat.zero_le _, beq_eq_false_iff_ne.mpr (Ne.symm (Nat.ne_of_lt hb)), [], .nil, Heap.DictOf.new h⟩
def tDNewK : TE := fun _ H Q => ∀ p, H p = none → Q (.ref p) (upd H p (.dK []))
section
variable {X : Cx} {pos : Pos}
theorem pe_dnewK : PE X (.Dict [] [] pos) tDNewK := fun pins s σ H Q I h =>
 wpAny_Dict_empty ⟨.ref s.heap.objs.size, _, I.laid (a := s.heap.objs.size) (o := .dK []) (t' := s.toks) (fun _ _ q => Heap.get?_push_of_some _ q) (Nat.le_refl _) (dk_empty s.heap I.big), rfl, h _ (I.hok.fresh (Nat.le_refl _))⟩
end
def tPairs : List (TE × TE) → St → Hp → (List (V × V) → Hp → Prop) → Prop
 | [], _, H, Q => Q [] H
 | (tk, tv) :: r, σ, H, Q => tk σ H fun x H1 => tv σ H1 fun y H2 => tPairs r σ H2 fun ps H3 => Q ((x, y) :: ps) H3
abbrev VV : List (V × V) → List (Value × Value) → Prop := Paired fun p q => RelV p.1 q.1 ∧ RelV p.2 q.2
def PPs (X : Cx) (pos : Pos) (keys : List (Option Expr)) (values : List Expr) (trs : List (TE × TE)) : Prop :=
 ∀ (pins : List (Addr × Obj)) (s : Shared) (σ : St) (H : Hp) (Q : List (V × V) → Hp → Prop), Inv X pins σ H s → tPairs trs σ H Q →
   wpAny (model X.prog X.w) X.A (evalPairs (pairTrees keys values X.env pos)) (fun vs s' => ∃ ps H', Inv X pins σ H' s' ∧ VV ps vs ∧ Q ps H') X.xe s
structure M1 (X : Cx) (o : Expr) (m : Str) (apos : Pos) (e : Expr) (cpos : Pos) : Prop where
 base : attributeBase o m X.env (eval o X.env) = eval o X.env
 few : ((backTo cpos (starEach [e] X.env)).all (fun x => !x.1) && (backToKw cpos (keywordEach [] X.env)).all (fun x => x.1.isSome)
   && decide (([e] : List Expr).length + ([] : List Keyword).length + (if ([] : List Keyword).isEmpty then 0 else 1) < 30)) = true
 line : (apos.endLine == cpos.line) = true
 trees : backTo cpos (starEach [e] X.env) = [(false, eval e X.env)]
structure M2 (X : Cx) (o : Expr) (m : Str) (apos : Pos) (e f : Expr) (cpos : Pos) : Prop where
 base : attributeBase o m X.env (eval o X.env) = eval o X.env
 few : ((backTo cpos (starEach [e, f] X.env)).all (fun x => !x.1) && (backToKw cpos (keywordEach [] X.env)).all (fun x => x.1.isSome)
   && decide (([e, f] : List Expr).length + ([] : List Keyword).length + (if ([] : List Keyword).isEmpty then 0 else 1) < 30)) = true
 line : (apos.endLine == cpos.line) = true
 trees : backTo cpos (starEach [e, f] X.env) = [(false, eval e X.env), (false, eval f X.env)]
section
variable {X : Cx} {pins : List (Addr × Obj)} {σ : St} {H : Hp} {s : Shared} {a : Addr} {y d : V} {u r : Value} {o : Option V} {A : Around} {E : Value → Shared → Prop}
end
section
variable {X : Cx} {o e f : Expr} {apos cpos : Pos} {td ty tx : TE}
end
section
variable {X : Cx} {pins : List (Addr × Obj)} {σ : St} {H : Hp} {s : Shared} {a : Addr} {kvs : List (Key × V)} {A : Around} {E : Value → Shared → Prop}
end
section
variable {X : Cx} {pins : List (Addr × Obj)} {σ : St} {H : Hp} {s : Shared} {a : Addr} {y : V} {u : Value} {A : Around} {E : Value → Shared → Prop}
end
end L2
namespace L2
open PySem PySem.Spec PyProof.Rows
section
variable {X : Cx}
end
section
variable {κ : Type} [DecidableEq κ]
end
end L2
namespace L2
open PySem PySem.Spec PyProof.Rows PySem.Calls
section
variable {prog : Program} {w : World} {A : Around} {R : Result → Shared → Prop} {s : Shared}
theorem compLoop_go {elt target iter : Expr} {scope : Scope} {pos : Pos} {it acc : Value} {env : Env} (I : Nat → Shared → Prop)
   (turn : ∀ n s, I n s → wpAny (model prog w) A (pyNext it) (fun r s₁ => match r with
     | none => R (.ok .next) s₁
     | some v => wpAny (model prog w) A (letOwnedTupleGo target it v) (fun _ s₂ => wpAny (model prog w) A (assign target env v) (fun _ s₃ =>
         wpAny (model prog w) A (eval elt env) (fun x s₄ =>
           wpAny (model prog w) A (call (.builtin "list.append") [acc, x]) (fun _ s₅ => ∃ m, m < n ∧ I m s₅) (notedBy (model prog w) A env fun e s' => R (.error e) s') s₄)
           (notedBy (model prog w) A env fun e s' => R (.error e) s') s₃) (notedBy (model prog w) A env fun e s' => R (.error e) s') s₂) (notedBy (model prog w) A env fun e s' => R (.error e) s') s₁)
     (notedBy (model prog w) A env fun e s' => R (.error e) s') s)
   (n : Nat) (h : I n s) : codeAny (model prog w) A (.compLoop (.ListComp elt [⟨target, iter, [], 0⟩] scope pos) 0 it acc env) R s := by
 refine codeAny_loop rfl I (fun n s hI => ?_) n h
 show wpAny _ A ((compTurn (.ListComp elt [⟨target, iter, [], 0⟩] scope pos) 0 it acc env).onRaise (fun x => do noteFrame x env; theTreesLotGoes x)) _ _ s
 refine wpAny_noted ?_
 rw [compTurn_list1]
 refine wpAny_bind (wpAny_standAt (wpAny_bind (wpAny_mono (turn n s hI) (fun r s₁ h₁ => ?_) fun _ _ h' => h')))
 cases r with
 | none => exact wpAny_pure h₁
 | some v =>
   refine wpAny_bind (wpAny_mono h₁ (fun _ s₂ h₂ => wpAny_bind (wpAny_mono h₂ (fun _ s₃ h₃ => ?_) fun _ _ h' => h')) fun _ _ h' => h')
   exact wpAny_bind (wpAny_bind (wpAny_mono h₃ (fun x s₄ h₄ => wpAny_bind (wpAny_mono h₄ (fun _ s₅ h₅ => wpAny_pure (wpAny_pure ⟨rfl, h₅⟩)) fun _ _ h' => h')) fun _ _ h' => h'))
end
def clOf (env : Env) : List (Str × NameKind) → List (Str × Addr) → List (Str × Addr)
 | [], cs => cs
 | (n, k) :: r, cs => clOf env r (if k == .free then match env.cells.lookup n with | some c => (n, c) :: cs | none => cs else cs)
theorem clOf_mem {env : Env} : ∀ {ns : List (Str × NameKind)} {cs : List (Str × Addr)} {y : Str} {c : Addr}, (y, c) ∈ clOf env ns cs → (y, c) ∈ cs ∨ env.cells.lookup y = some c
 | [], _, _, _, h => .inl h
 | (n, k) :: r, cs, y, c, h => by
   unfold clOf at h
   rcases clOf_mem h with q | q
   · split at q
     · cases e : env.cells.lookup n with
       | none => rw [e] at q; exact .inl q
       | some d =>
         rw [e] at q
         rcases List.mem_cons.mp q with z | z
         · cases z; exact .inr e
         · exact .inl z
     · exact .inl q
   · exact .inr q
theorem clOf_has {env : Env} : ∀ {ns : List (Str × NameKind)} {cs : List (Str × Addr)} {y : Str}, ((∃ c, (y, c) ∈ cs) ∨ ((y, NameKind.free) ∈ ns ∧ ∃ c, env.cells.lookup y = some c)) → ∃ c, (y, c) ∈ clOf env ns cs
 | [], _, _, h => by
   rcases h with h | ⟨h, _⟩
   · exact h
   · cases h
 | (n, k) :: r, cs, y, h => by
   unfold clOf
   apply clOf_has
   rcases h with ⟨c, h⟩ | ⟨h, c, e⟩
   · left
     split
     · cases e : env.cells.lookup n with
       | none => exact ⟨c, h⟩
       | some d => exact ⟨c, List.mem_cons_of_mem _ h⟩
     · exact ⟨c, h⟩
   · rcases List.mem_cons.mp h with z | z
     · cases z
       left
       rw [e]
       exact ⟨c, by simp⟩
     · exact .inr ⟨z, c, e⟩
theorem closure_cl {env : Env} : ∀ {ns : List (Str × NameKind)} {cs : List (Str × Addr)}, (∀ y, (y, NameKind.free) ∈ ns → ∃ c, env.cells.lookup y = some c) →
   (forIn ns cs fun (x : Str × NameKind) (r : List (Str × Addr)) => (if x.2 == NameKind.free then (do let c ← cellOf env x.1; pure (ForInStep.yield ((x.1, c) :: r))) else pure (ForInStep.yield r) : Sem (ForInStep (List (Str × Addr))))) = (pure (clOf env ns cs) : Sem (List (Str × Addr)))
 | [], _, _ => rfl
 | (n, k) :: r, cs, h => by
   have ih := @closure_cl env r
   rw [List.forIn_cons]
   unfold clOf
   cases hk : k == NameKind.free with
   | false =>
     simp only [Bool.false_eq_true, if_false]
     exact ih fun y hy => h y (List.mem_cons_of_mem _ hy)
   | true =>
     have ek : k = NameKind.free := by simpa using hk
     subst ek
     obtain ⟨c, e⟩ := h n (by simp)
     have ec : cellOf env n = pure c := by unfold cellOf; rw [e]
     simp only [if_true]
     rw [ec, e]
     exact ih fun y hy => h y (List.mem_cons_of_mem _ hy)
theorem closure_eq {scope : Scope} {env : Env} (h : ∀ y, (y, NameKind.free) ∈ scope.names → ∃ c, env.cells.lookup y = some c) : closureFor scope env = pure (clOf env scope.names []) := by
 have q := closure_cl (cs := []) h
 unfold closureFor
 exact congrArg (fun m => m >>= fun r => pure r) q
end L2
namespace L2
open PySem PySem.Spec PyProof.Rows PySem.Calls
theorem lookup_relabel {env : Env} {y : Str} : ∀ {names : List (Str × NameKind)},
   (names.map fun (n, k) => if (k == NameKind.free && env.scope.kind == .function && env.kindOf n == some .cell) then (n, NameKind.cell) else (n, k)).lookup y
     = (names.lookup y).map fun k => if (k == NameKind.free && env.scope.kind == .function && env.kindOf y == some .cell) then NameKind.cell else k
 | [] => rfl
 | (n, k) :: r => by
   have ih := @lookup_relabel env y r
   by_cases hx : y = n
   · subst hx
     simp only [List.map_cons]
     split <;> rename_i hc
     · rw [List.lookup_cons, List.lookup_cons]; simp only [beq_self_eq_true, Option.map_some]; rw [if_pos hc]
     · rw [List.lookup_cons, List.lookup_cons]; simp only [beq_self_eq_true, Option.map_some]; rw [if_neg hc]
   · have hb : (y == n) = false := beq_eq_false_iff_ne.mpr hx
     simp only [List.map_cons]
     split <;> simp only [List.lookup_cons, hb] <;> exact ih
section
variable {X : Cx} {pins : List (Addr × Obj)} {σ : St} {H : Hp} {s : Shared} {a : Addr} {o : HO}
theorem Inv.track (I : Inv X pins σ H s) (f : FpOk X pins H a) (hs : X.s₀.heap.objs.size ≤ a) (new : ObjOk X.prog X.w (upd H a o) s.heap a o) : Inv X pins σ (upd H a o) s := by
 obtain ⟨f0, f1, f2, f3, f4, f5⟩ := f
 have old : ∀ b ob, X.s₀.heap.get? b = some ob → b ≠ a := fun b ob e z => by subst z; exact absurd (Nat.lt_of_lt_of_le (Heap.lt_size e) hs) (Nat.lt_irrefl _)
 refine ⟨I.ok, I.os, I.bare, ⟨I.base.keep, I.base.slot, fun b ob e n hx => ?_, I.base.there, fun b xs e => ?_, fun b ob u e => ?_, fun b ps e => ?_⟩, I.loc, I.cell, ?_, fun x c e => ?_, fun p hp => ?_, fun b u e => ?_, I.len⟩
 · rw [zO (old b ob e)]; exact I.base.free b ob e n hx
 · have q := I.base.tups b xs e; rw [zO (ne_of_none q f0)]; exact q
 · have q := I.base.frzs b ob u e; rw [zO (ne_of_none q f0)]; exact q
 · obtain ⟨more, q⟩ := I.base.tbls b ps e; exact ⟨more, by rw [zO (ne_of_none q f0)]; exact q⟩
 · rw [zO (Ne.symm f1)]; exact I.free
 · rw [zO (f4 x c e)]; exact I.freeC x c e
 · obtain ⟨e, n, ne, nf, d⟩ := I.pin p hp
   exact ⟨e, by rw [zO (f5 p hp)]; exact n, ne, nf, d⟩
 · by_cases hb : b = a
   · subst hb; rw [zE] at e; cases e; exact new
   · rw [zO hb] at e
     exact (I.hok b u e).stay (fun c v _ q => q) (fun c q => by rw [zO (ne_of_none q f0)]; exact q) fun c xs q => by rw [zO (ne_of_none q f0)]; exact q
end
def compCx (X : Cx) (scope : Scope) (C : Addr) (x : Str) (M : List Str) (s₂ : Shared) (H₂ : Hp) (fp : List Addr) : Cx :=
 { X with N := x :: M, s₀ := s₂, H₀ := H₂, env := compEnvC scope (clOf X.env scope.names []) C X.env, outer := X.stack, ex := fp, fn := fun _ => false, pn := [], xe := fun _ _ => False }
structure CompOk (X : Cx) (scope : Scope) (x : Str) (M : List Str) : Prop where
 kind : scope.kind = .function
 cell : ∀ y ∈ scope.names, y.2 ≠ .cell
 names : ∀ y ∈ scope.names, y.2 = .local → scope.names.lookup y.1 = some .local
 loc : scope.names.lookup x = some .local
 nd : (x :: M).Nodup
 free : ∀ y, (y, NameKind.free) ∈ scope.names → X.env.scope.names.lookup y = some .cell ∨ X.env.scope.names.lookup y = some .free
 len : M.length = X.N.length
 sub : ∀ (j : Nat) y, M[j]? = some y → scope.names.lookup y = some .local ∨ scope.names.lookup y = some .free → X.N[j]? = some y ∧ scope.names.lookup y = some .free
def compOkB (names outer : List (Str × NameKind)) (N M : List Str) (x : Str) : Bool :=
 names.all (fun y => decide (y.2 ≠ .cell)) && names.all (fun y => decide (y.2 = .local → names.lookup y.1 = some .local)) && decide (names.lookup x = some .local) && decide (x :: M).Nodup &&
 names.all (fun y => decide (y.2 = .free → (outer.lookup y.1 = some .cell ∨ outer.lookup y.1 = some .free))) && decide (M.length = N.length) &&
 (M.zip N).all (fun p => decide (names.lookup p.1 = some .local ∨ names.lookup p.1 = some .free → p.1 = p.2 ∧ names.lookup p.1 = some .free))
theorem compOk_of {X : Cx} {scope : Scope} {x : Str} {M : List Str} (hk : scope.kind = .function) (h : compOkB scope.names X.env.scope.names X.N M x = true) : CompOk X scope x M := by
 unfold compOkB at h
 simp only [Bool.and_eq_true, List.all_eq_true, decide_eq_true_eq] at h
 obtain ⟨⟨⟨⟨⟨⟨h1, h2⟩, h3⟩, h4⟩, h5⟩, h6⟩, h7⟩ := h
 refine ⟨hk, h1, h2, h3, h4, fun y hy => h5 _ hy rfl, h6, fun j y e q => ?_⟩
 have hj : j < M.length := (List.getElem?_eq_some_iff.mp e).1
 have hj2 : j < X.N.length := by omega
 have z : (M.zip X.N)[j]? = some (y, X.N[j]) := by rw [List.getElem?_zip_eq_some]; exact ⟨e, by simp [hj2]⟩
 have r := h7 _ (List.mem_of_getElem? z) q
 exact ⟨by rw [List.getElem?_eq_getElem hj2]; exact congrArg some r.1.symm, r.2⟩
section
variable {X : Cx} {scope : Scope} {x : Str} {M : List Str} {pins : List (Addr × Obj)} {σ : St} {H₂ : Hp} {s₂ : Shared}
theorem CompOk.cl_of {y : Str} {c : Addr} (h : (clOf X.env scope.names []).lookup y = some c) : X.env.cells.lookup y = some c := by
 rcases clOf_mem (PySem.mem_of_lookup h) with q | q
 · cases q
 · exact q
theorem CompOk.cl_has (K : CompOk X scope x M) (ok : X.Ok) {y : Str} (h : (y, NameKind.free) ∈ scope.names) : ∃ c, (clOf X.env scope.names []).lookup y = some c ∧ X.env.cells.lookup y = some c := by
 have e1 : ∃ c, X.env.cells.lookup y = some c := ok.has y (K.free y h)
 obtain ⟨c, hc⟩ := clOf_has (env := X.env) (ns := scope.names) (cs := []) (y := y) (.inr ⟨h, e1⟩)
 have q : ∃ c, (clOf X.env scope.names []).lookup y = some c := by
   cases e : (clOf X.env scope.names []).lookup y with
   | some c => exact ⟨c, rfl⟩
   | none =>
     rw [List.lookup_eq_none_iff] at e
     have := e _ hc
     simp at this
 obtain ⟨c', hc'⟩ := q
 exact ⟨c', hc', CompOk.cl_of hc'⟩
theorem CompOk.closure (K : CompOk X scope x M) (ok : X.Ok) : closureFor scope X.env = pure (clOf X.env scope.names []) :=
 closure_eq fun y hy => by obtain ⟨c, _, q⟩ := K.cl_has ok hy; exact ⟨c, q⟩
theorem inv_comp (K : CompOk X scope x M) (I : Inv X pins σ H₂ s₂) {fp : List Addr} (hf : ∀ b ∈ fp, FpOk X pins H₂ b) (hfl : ∀ b ∈ fp, b < s₂.heap.objs.size) {C : Addr} (hC : s₂.heap.objs.size ≤ C) {h₁ : Heap} {t : Nat} {m : Str → Option Value} (hn : h₁.Ns C m)
   (hk : ∀ b o, s₂.heap.get? b = some o → h₁.get? b = some o) : Inv (compCx X scope C x M s₂ H₂ fp) [] (none :: σ) H₂ { s₂ with heap := h₁, toks := t } := by
 have lt : ∀ {b : Addr} {o : Obj}, s₂.heap.get? b = some o → b ≠ C := fun {b o} e z => by subst z; exact absurd (Nat.lt_of_lt_of_le (Heap.lt_size e) hC) (Nat.lt_irrefl _)
 have cC : ∀ y c, (clOf X.env scope.names []).lookup y = some c → c ≠ C := fun y c e => by
   obtain ⟨v, o, ho, _⟩ := I.cell y c (CompOk.cl_of e)
   exact lt ho
 have sub : ∀ b ∈ frs X.stack, b = X.env.locals ∨ b ∈ X.fs := fun b hb => List.mem_cons.mp (I.stkSub b hb)
 have ok : (compCx X scope C x M s₂ H₂ fp).Ok := by
   refine ⟨I.ok.mod, K.kind, I.ok.glob, I.ok.blt, hC, fun y z c h1 h2 => ?_, fun y hy => ?_, fun y c z => ?_, I.ok.hd, I.ok.frames, .inl rfl, fun b hb => ⟨?_, fun y c e => ?_⟩, I.bs, Nat.le_trans I.ok.bsz I.sz, fun b o e hb => ?_, fun b hb hb2 => ?_, I.stack, I.stkFree⟩
   · exact I.ok.inj y z c (CompOk.cl_of h1) (CompOk.cl_of h2)
   · have hy' : (relabel scope X.env).names.lookup y = some .cell ∨ (relabel scope X.env).names.lookup y = some .free := hy
     have q : (y, NameKind.free) ∈ scope.names := by
       unfold relabel at hy'
       rw [lookup_relabel] at hy'
       cases e : scope.names.lookup y with
       | none => rw [e] at hy'; simp at hy'
       | some k =>
         have hm := PySem.mem_of_lookup e
         cases k with
         | free => exact hm
         | cell => exact absurd rfl (K.cell _ hm)
         | _ => rw [e] at hy'; simp at hy'
     obtain ⟨c, q, _⟩ := K.cl_has I.ok q
     exact ⟨c, q⟩
   · exact Bool.noConfusion (show false = true from z)
   · intro z
     have z' : b = C := z
     subst z'
     exact absurd (Nat.lt_of_lt_of_le (hfl b hb) hC) (Nat.lt_irrefl _)
   · exact (hf b hb).2.2.2.2.1 y c (CompOk.cl_of e)
   · have q := (hf b hb).2.2.2.1
     rcases q with q | q
     · exact I.ok.noex b o e q
     · exact absurd (Nat.lt_of_lt_of_le (Heap.lt_size (I.ok.bs b o e).1) q) (Nat.lt_irrefl _)
   · rcases sub b hb2 with z | z
     · exact (hf b hb).2.1 z
     · exact (hf b hb).2.2.1 z
 refine ⟨ok, rfl, I.bare, Un.kept hk, ⟨m, hn, fun i y v e1 e2 e3 => ?_⟩, fun y c e => ?_, ?_, fun y c e => ?_, fun p hp => absurd (show p ∈ ([] : List (Addr × Obj)) from hp) (by simp), I.hok.kept hk, ?_⟩
 · cases i with
   | zero =>
     have e2' : some (none : Option V) = some (some v) := e2
     cases e2'
   | succ j =>
     have e1' : M[j]? = some y := e1
     have e2' : σ[j]? = some (some v) := e2
     have e3' : (relabel scope X.env).names.lookup y = some .local ∨ (relabel scope X.env).names.lookup y = some .cell ∨ (relabel scope X.env).names.lookup y = some .free := e3
     have q : scope.names.lookup y = some .local ∨ scope.names.lookup y = some .free := by
       unfold relabel at e3'
       rw [lookup_relabel] at e3'
       cases e : scope.names.lookup y with
       | none => rw [e] at e3'; simp at e3'
       | some k =>
         have hm := PySem.mem_of_lookup e
         cases k with
         | free => exact .inr rfl
         | «local» => exact .inl rfl
         | cell => exact absurd rfl (K.cell _ hm)
         | _ => rw [e] at e3'; simp at e3'
     obtain ⟨nj, fr⟩ := K.sub j y e1' q
     have hm := PySem.mem_of_lookup fr
     have kd := K.free y hm
     have vs : Vis X.env.scope y := .inr kd
     obtain ⟨mo, _, lo⟩ := I.loc
     obtain ⟨u, r, l⟩ := lo j y v nj e2' vs
     refine ⟨u, r, .inr ⟨?_, ?_⟩⟩
     · show (relabel scope X.env).names.lookup y = some .cell ∨ (relabel scope X.env).names.lookup y = some .free
       unfold relabel
       rw [lookup_relabel, fr]
       simp only [Option.map_some]
       split
       · exact .inl rfl
       · exact .inr rfl
     · obtain ⟨c, q1, q2⟩ := K.cl_has I.ok hm
       rcases l with ⟨k, _⟩ | ⟨_, c', q3, z⟩
       · have k' : X.env.scope.names.lookup y = some .local := k
         rcases kd with kd | kd <;> · rw [k'] at kd; cases kd
       · rw [q2] at q3
         cases q3
         obtain ⟨oc, ho, hd⟩ := z
         exact ⟨c, q1, oc, hk _ _ ho, hd⟩
 · obtain ⟨v, oc, ho, hd⟩ := I.cell y c (CompOk.cl_of e)
   exact ⟨v, oc, hk _ _ ho, hd⟩
 · exact I.hok.fresh hC
 · exact I.freeC y c (CompOk.cl_of e)
 · show (none :: σ).length = (x :: M).length
   rw [List.length_cons, List.length_cons, K.len, I.len]
end
end L2
namespace L2
open PySem PySem.Spec PyProof.Rows PySem.Calls
def tComp (wi : TI) (te : TE) : TE := fun σ H Q => wi σ H fun J H1 => ∃ (n : Nat) (W : Nat → List V → Hp → Prop), n ≤ sizeLine ∧ W 0 [] H1 ∧ ∀ i ys H, i ≤ n → ys.length = i → W i ys H →
 (J.stop i H ∧ ∀ p, H p = none → Q (.ref p) (upd H p (.lst ys))) ∨ (J.go i H ∧ i < n ∧ ∀ x H', J.yld i H x H' → te (some x :: σ) H' fun v H'' => W (i + 1) (ys ++ [v]) H'')
section
variable {X : Cx} {scope : Scope} {x : Str} {M : List Str} {pins : List (Addr × Obj)} {σ : St} {H₂ : Hp} {s₂ : Shared} {elt iter : Expr} {px pos : Pos} {te : TE} {wi : TI}
theorem comp_block (K : CompOk X scope x M) (hc : X.calm = true) (I : Inv X pins σ H₂ s₂) (he : ∀ (C : Addr) (s₂ : Shared) (H₂ : Hp) (fp : List Addr), PE (compCx X scope C x M s₂ H₂ fp) elt te)
   {it : Addr} {fp : List Addr} {tn : Nat → Heap → Prop} {J : It} (T : Turn X.prog X.w X.K (.Name x px) J fp it tn) (st : tn 0 s₂.heap) (hf : ∀ b ∈ fp, FpOk X pins H₂ b) {n : Nat} (hsz : n ≤ sizeLine) {W : Nat → List V → Hp → Prop} {F : List V → Hp → Prop}
   (w0 : W 0 [] H₂) (turn : ∀ i ys H, i ≤ n → ys.length = i → W i ys H → (J.stop i H ∧ F ys H) ∨ (J.go i H ∧ i < n ∧ ∀ x H', J.yld i H x H' → te (some x :: σ) H' fun v H'' => W (i + 1) (ys ++ [v]) H''))
   {E : Value → Shared → Prop} {RR : Value → Addr → Result → Shared → Prop}
   (hRR : ∀ (D C : Addr) (s' : Shared) (H' : Hp) (ys : List V) (m : Str → Option Value), Inv X pins σ (upd H' D (.lst ys)) s' → H' D = none → FpOk X pins (upd H' D (.lst ys)) C → s'.heap.Ns C m → F ys H' → RR (.ref D) C (.ok .next) s') :
   wpAny (model X.prog X.w) X.A (newList []) (fun acc s₃ => wpAny (model X.prog X.w) X.A (newFunctionEnv scope X.env.globals (clOf X.env scope.names []) [] X.env.qual none .none (some X.env)) (fun cenv s₄ =>
     codeAny (model X.prog X.w) X.A (.compStart (.ListComp elt [⟨.Name x px, iter, [], 0⟩] scope pos) 0 (.ref it) acc { cenv with scope := relabel scope X.env }) (RR acc cenv.locals) s₄) E s₃) E s₂ := by
 refine wpAny_newObj_type (wpAny_newFunctionEnv K.cell (by intro y hy; simp at hy) (fun h₁ hns₁ hsb₁ => ?_) K.kind)
 dsimp only at hns₁ hsb₁ ⊢
 generalize hH2 : s₂.heap.push { cls := .type "list", dict := none, data := .seq ([] : List Value).toArray } = H2 at hns₁ hsb₁ ⊢
 have hC : H2.objs.size = s₂.heap.objs.size + 1 := by rw [← hH2, Heap.size_push]
 have hDC : s₂.heap.objs.size ≠ H2.objs.size := by rw [hC]; exact Nat.ne_of_lt (Nat.lt_succ_self _)
 have below : ∀ b, b < s₂.heap.objs.size → b ≠ H2.objs.size ∧ b ≠ s₂.heap.objs.size := fun b hb => ⟨by rw [hC]; exact Nat.ne_of_lt (Nat.lt_succ_of_lt hb), Nat.ne_of_lt hb⟩
 have hfl : ∀ b ∈ fp, b < s₂.heap.objs.size := fun b hb => by obtain ⟨o, e, _⟩ := T.obj _ _ st b hb; exact Heap.lt_size e
 have old : ∀ b o, s₂.heap.get? b = some o → h₁.get? b = some o := fun b o e => hsb₁.extBut b o (below b (Heap.lt_size e)).1 (Heap.get?_push_of_some _ (hH2 ▸ Heap.get?_push_of_some _ e))
 have hacc : h₁.get? s₂.heap.objs.size = some { cls := .type "list", data := .seq ([] : List Value).toArray 0 } := hsb₁.extBut _ _ hDC (Heap.get?_push_of_some _ (hH2 ▸ Heap.get?_push_size _ rfl))
 generalize hCC : H2.objs.size = C at *
 generalize hDD : s₂.heap.objs.size = D at *
 have hCle : s₂.heap.objs.size ≤ C := by rw [hDD, hC]; exact Nat.le_succ _
 have st₁ : tn 0 h₁ := T.keep _ _ _ st fun b _ o e => old b o e
 have I₁ := inv_comp (t := s₂.toks + ([] : List (Str × Value)).length) K I hf (fun b hb => by rw [hDD]; exact hfl b hb) hCle hns₁ old
 generalize hX' : compCx X scope C x M s₂ H₂ fp = X' at I₁
 have eX : X'.prog = X.prog ∧ X'.w = X.w ∧ X'.K = X.K ∧ X'.calm = true ∧ X'.A = X.A ∧ X'.ex = fp ∧ X'.env = compEnvC scope (clOf X.env scope.names []) C X.env ∧ X'.s₀ = s₂ ∧ X'.pn = [] := by
   subst hX'; exact ⟨rfl, rfl, rfl, hc, rfl, rfl, rfl, rfl, rfl⟩
 obtain ⟨eP, ew, eK, ec, eA, eex, eenv, es0, epn⟩ := eX
 have eL : X'.env.locals = C := by rw [eenv]; rfl
 have cells' : ∀ y c, X'.env.cells.lookup y = some c → X.env.cells.lookup y = some c := fun y c e => by rw [eenv] at e; exact CompOk.cl_of e
 have efs : X'.fs = frs X.stack := by subst hX'; rfl
 have fsub : ∀ b ∈ X'.fs, b = X.env.locals ∨ b ∈ X.fs := fun b hb => List.mem_cons.mp (I.stkSub b (by rw [← efs]; exact hb))
 have fpok : ∀ {pn : List (Addr × Obj)} {H' : Hp}, (∀ p ∈ pn, p.1 = D) → (∀ b ∈ fp, H' b = none) → ∀ b ∈ fp, FpOk X' pn H' b := fun {pn H'} hp hn b hb => by
   refine ⟨hn b hb, ?_, fun z => ?_, .inl (by rw [eex]; exact hb), fun y c e => (hf b hb).2.2.2.2.1 y c (cells' y c e), fun p hq => ?_⟩
   · rw [eL]; exact (below b (hfl b hb)).1
   · rcases fsub b z with q | q
     · exact (hf b hb).2.1 q
     · exact (hf b hb).2.2.1 q
   · rw [epn, List.nil_append] at hq
     rw [hp p hq]; exact Ne.symm (below b (hfl b hb)).2
 have Dfp : D ∉ fp := fun z => Nat.lt_irrefl _ (hfl D z)
 have ltL : X.env.locals < D := by have := I.lt; rw [hDD] at this; exact this
 have ltF : ∀ b ∈ X.fs, b < D := fun b hb => Nat.lt_of_not_le fun z => I.nofs (a := b) (by rw [hDD]; exact z) hb
 have newok : ∀ {b : Addr} {pn : List (Addr × Obj)} {H' : Hp}, D ≤ b → b ≠ C → H' b = none → (∀ p ∈ pn, p.1 ≠ b) → FpOk X' pn H' b := fun {b pn H'} hb hbC hn hp => by
   refine ⟨hn, by rw [eL]; exact hbC, fun z => ?_, .inr (by rw [es0, hDD]; exact hb), fun y c e => ?_, fun p hq => ?_⟩
   · rcases fsub b z with q | q
     · rw [q] at hb; exact absurd (Nat.lt_of_lt_of_le ltL hb) (Nat.lt_irrefl _)
     · exact absurd (Nat.lt_of_lt_of_le (ltF b q) hb) (Nat.lt_irrefl _)
   · obtain ⟨v, o, ho, _⟩ := I.cell y c (cells' y c e)
     have := Heap.lt_size ho
     rw [hDD] at this
     exact Nat.ne_of_lt (Nat.lt_of_lt_of_le this hb)
   · rw [epn, List.nil_append] at hq
     exact hp p hq
 have outer : ∀ {σ' : St} {H' : Hp} {s' : Shared} {pn : List (Addr × Obj)}, Inv X' pn σ' H' s' → Inv X pins σ H' s' := fun {σ' H' s' pn} J' => by
   subst hX'
   refine I.call' (ch := fp) J'.os J'.base J'.hok J'.bare fun b hb => ?_
   obtain ⟨f0, f1, f2, f3, f4, f5⟩ := hf b hb
   exact ⟨f3, f1, f4, f5⟩
 have outok : ∀ {b : Addr} {H' : Hp}, D ≤ b → H' b = none → FpOk X pins H' b := fun {b H'} hb hn => by
   have q := I.fpOk (H' := H') (b := b) (by rw [hDD]; exact hb) hn
   exact q
 have loop : ∀ s₃ : Shared, s₃ = { s₂ with heap := h₁, toks := s₂.toks + ([] : List (Str × Value)).length } →
     codeAny (model X.prog X.w) X.A (.compLoop (.ListComp elt [⟨.Name x px, iter, [], 0⟩] scope pos) 0 (.ref it) (.ref D) (compEnvC scope (clOf X.env scope.names []) C X.env)) (RR (.ref D) C) s₃ := by
   rintro s₃ rfl
   refine compLoop_go (fun k s' => ∃ (i : Nat) (ys : List V) (its : List Value) (σ0 : Option V) (H' : Hp), i ≤ n ∧ k = n + 1 - i ∧ ys.length = i ∧ Inv X' [] (σ0 :: σ) H' s' ∧ tn i s'.heap ∧ (∀ b ∈ fp, H' b = none) ∧ H' D = none ∧ Vals ys its ∧
     (∃ c, s'.heap.get? D = some { cls := .type "list", data := .seq its.toArray c }) ∧ W i ys H') ?_ (n + 1) ⟨0, [], [], none, H₂, Nat.zero_le _, rfl, rfl, I₁, st₁, fun b hb => (hf b hb).1, by rw [← hDD]; exact I.hok.fresh (Nat.le_refl _), .nil, ⟨0, hacc⟩, w0⟩
   rintro k s' ⟨i, ys, its, σ0, H', hi, rfl, hyl, I', st', fr', hD', rv, ⟨c, hobj⟩, w'⟩
   have hx0 : X'.N[0]? = some x := by subst hX'; rfl
   have hxl : X'.env.scope.names.lookup x = some .local := by rw [eenv]; exact lookup_relabel_local K.loc
   have hNd : X'.N.Nodup := by subst hX'; exact K.nd
   rcases turn i ys H' hi hyl w' with ⟨stop, fin⟩ | ⟨go, hlt, step⟩
   · have pinD : Inv X' [(D, { cls := .type "list", data := .seq its.toArray c })] (σ0 :: σ) H' s' := I'.pins_of fun p hp => by
       obtain rfl : p = (D, { cls := .type "list", data := .seq its.toArray c }) := by simpa using hp
       refine ⟨hobj, hD', ?_, ?_, fun v z => nomatch z⟩
       · rw [eL]; exact hDC
       · intro z
         rcases fsub D z with q | q
         · rw [q] at ltL; exact Nat.lt_irrefl _ ltL
         · exact Nat.lt_irrefl _ (ltF D q)
     have q := T.done X' eP ew eK ec i _ s' (σ0 :: σ) H' (notedBy (model X.prog X.w) X.A (compEnvC scope (clOf X.env scope.names []) C X.env) fun e s' => RR (.ref D) C (.error e) s') pinD (fpok (fun p hp => by obtain rfl : p = (D, { cls := .type "list", data := .seq its.toArray c }) := (by simpa using hp); rfl) fr') st' stop
     rw [eA] at q
     refine wpAny_mono q (fun r s4 ⟨hr, I4⟩ => ?_) fun _ _ z => z
     subst hr
     obtain ⟨e4, n4, _⟩ := I4.pin (D, { cls := .type "list", data := .seq its.toArray c }) (List.mem_append_right _ (by simp))
     have O4 := outer I4
     obtain ⟨m4, ns4, _⟩ := I4.loc
     rw [eL] at ns4
     refine hRR D C s4 H' ys m4 (O4.track (outok (Nat.le_refl _) n4) (Nat.le_trans I.sz (by rw [hDD]; exact Nat.le_refl _)) ⟨by rw [hyl]; exact Nat.le_trans hi hsz, its, c, rv, e4⟩) n4 (outok (by rw [hC]; exact Nat.le_succ _) ?_) ns4 fin
     rw [zO (Ne.symm hDC)]
     have := I4.free
     rw [eL] at this
     exact this
   · have pinD : Inv X' [(D, { cls := .type "list", data := .seq its.toArray c })] (σ0 :: σ) H' s' := I'.pins_of fun p hp => by
       obtain rfl : p = (D, { cls := .type "list", data := .seq its.toArray c }) := by simpa using hp
       refine ⟨hobj, hD', ?_, ?_, fun v z => nomatch z⟩
       · rw [eL]; exact hDC
       · intro z
         rcases fsub D z with q | q
         · rw [q] at ltL; exact Nat.lt_irrefl _ ltL
         · exact Nat.lt_irrefl _ (ltF D q)
     have pd : ∀ p ∈ [(D, ({ cls := .type "list", data := .seq its.toArray c } : Obj))], p.1 = D := fun p hp => by obtain rfl : p = (D, { cls := .type "list", data := .seq its.toArray c }) := (by simpa using hp); rfl
     have q := T.item X' eP ew eK ec i _ s' (σ0 :: σ) H' (notedBy (model X.prog X.w) X.A (compEnvC scope (clOf X.env scope.names []) C X.env) fun e s' => RR (.ref D) C (.error e) s') pinD (fpok pd fr') st' go
     rw [eA] at q
     refine wpAny_mono q (fun r s4 ⟨u, hr, h4⟩ => ?_) fun _ _ z => z
     subst hr
     refine wpAny_mono h4 (fun _ s5 ⟨xv, H5, I5, r5, y5, st5, fr5⟩ => ?_) fun _ _ z => z
     have I5' := I5.pinned (fpok pd fr5) (T.obj _ _ st5)
     refine wpAny_assign_Name ?_
     rw [← eenv]
     refine store_ok I5' hNd hx0 (.inl hxl) r5 (fun s6 I6 => ?_) (.inr hxl)
     have te6 := step xv H5 y5
     have q6 := (he C s₂ H₂ fp) (([(D, ({ cls := .type "list", data := .seq its.toArray c } : Obj))]) ++ pinsAt fp s5.heap) s6 (some xv :: σ) H5 (fun v H'' => W (i + 1) (ys ++ [v]) H'') (by rw [hX']; exact I6) te6
     rw [hX', eP, ew, eA] at q6
     refine wpAny_mono q6 (fun u7 s7 ⟨v7, H7, I7, r7, w7⟩ => ?_) (fun _ _ z => by subst hX'; exact (show False from z).elim)
     obtain ⟨e7, n7, _⟩ := I7.pin (D, { cls := .type "list", data := .seq its.toArray c }) (List.mem_append_right _ (List.mem_append_left _ (by simp)))
     refine append_at (hsz := by rw [List.size_toArray, ← rv.length, hyl]; exact Nat.le_trans hi hsz) e7 fun h8 sb8 g8 => ?_
     have I8 : Inv X' [] (some xv :: σ) H7 { s7 with heap := h8, toks := s7.toks } := (I7.pins_of (pins' := []) fun p hp => absurd hp (by simp)).turned (t' := s7.toks) (it := D) (fun b o hb e => (sb8.2 b hb).trans e) n7 (by rw [eL]; exact hDC) (.inr (by rw [es0, hDD]; exact Nat.le_refl _))
       (newok (H' := H7) (pn := []) (Nat.le_refl _) hDC n7 (fun p hp => absurd hp (by simp))).2.2.2.2.1 (fun p hp => by rw [epn] at hp; exact absurd hp (by simp))
     refine ⟨n + 1 - (i + 1), by omega, i + 1, ys ++ [v7], its ++ [u7], some xv, H7, hlt, rfl, by rw [List.length_append, List.length_singleton, hyl], I8, ?_, fun b hb => ?_, n7, rv.append (.cons r7 .nil), ⟨c + 1, ?_⟩, w7⟩
     · refine T.keep _ _ _ st5 fun b hb o e => ?_
       have e' := (I7.pin (b, o) (List.mem_append_right _ (List.mem_append_right _ (mem_pinsAt hb e)))).1
       exact (sb8.2 b (fun z => Dfp (z ▸ hb))).trans e'
     · obtain ⟨o, e, d⟩ := T.obj _ _ st5 b hb
       exact (I7.pin (b, o) (List.mem_append_right _ (List.mem_append_right _ (mem_pinsAt hb e)))).2.1
     · rw [g8, List.push_toArray]
 exact codeAny_compStart_list (loop _ rfl) (T.self X.A 0 _ _ _ st₁ (loop _ rfl))
theorem pe_comp (K : CompOk X scope x M) (hc : X.calm = true) (hi : PI X (.Name x px) iter wi) (he : ∀ (C : Addr) (s₂ : Shared) (H₂ : Hp) (fp : List Addr), PE (compCx X scope C x M s₂ H₂ fp) elt te)
   (hs : ∀ x, foldedSetIterable iter X.env x = pure x := by intro _; rfl) : PE X (.ListComp elt [⟨.Name x px, iter, [], 0⟩] scope pos) (tComp wi te) := by
 intro pins s σ H Q I h
 rw [eval_ListComp]
 refine wpAny_comprehension_free (use := none) rfl hs (K.closure I.ok) K.kind K.names (thn (hi pins s σ H _ I h) fun v s1 h1 => thn h1 fun itv s2 h2 => ?_)
 obtain ⟨it, fp, tn, J, H2, e, I2, T, st2, f2, n, W, hsz, w0, turn⟩ := h2
 subst e
 refine comp_block (RR := fun acc C => compPost (model X.prog X.w) X.A X.xe none (EP X pins σ Q) acc C) K hc I2 he T st2 f2 hsz (F := fun ys H => ∀ p, H p = none → Q (.ref p) (upd H p (.lst ys))) w0 turn ?_
 intro D C s' H' ys m I' n' fC ns fin
 refine ⟨m, ns, fun h' sb => ?_⟩
 obtain ⟨f0, f1, f2, f3, f4, f5⟩ := fC
 exact ⟨.ref D, _, I'.turned (t' := s'.toks) (it := C) (fun b o hb e => (sb.2 b hb).trans e) f0 f1 f3 f4 f5, rfl, fin D n'⟩
theorem ps_comp {i : Nat} {y : Str} {spos py : Pos} (hN : X.N.Nodup) (hy : X.N[i]? = some y) (hl : Loc X.env.scope y) (K : CompOk X scope x M) (hc : X.calm = true) (hi : PI X (.Name x px) iter wi) (he : ∀ (C : Addr) (s₂ : Shared) (H₂ : Hp) (fp : List Addr), PE (compCx X scope C x M s₂ H₂ fp) elt te)
   (hsw : swapsWith (.ListComp elt [⟨.Name x px, iter, [], 0⟩] scope pos) (some (.Name y py)) spos.line X.env = pure true := by rfl)
   (hs : ∀ x, foldedSetIterable iter X.env x = pure x := by intro _; rfl) (hf : X.fn y = true ∨ X.env.scope.names.lookup y = some .local := by first | exact .inl rfl | exact .inr rfl | assumption) :
   PS X (.Assign [.Name y py] (.ListComp elt [⟨.Name x px, iter, [], 0⟩] scope pos) spos) (tAsg (tComp wi te) (gName i)) := by
 intro pins s σ H Dn I h
 rw [exec_Assign_Name_used _ _ _ _ hsw]
 refine wpAny_bind (wpAny_standAt (wpAny_bind ?_))
 show wpAny _ X.A (do let _ ← comprehension (.ListComp elt [⟨.Name x px, iter, [], 0⟩] scope pos) scope X.env _ (newList []) false (eval iter X.env) (some (assign (.Name y py) X.env))) _ _ s
 refine wpAny_bind (thn (wpAny_comprehension_free (use := some (assign (.Name y py) X.env)) (Q := fun _ s' => SP X pins Dn .next s') rfl hs (K.closure I.ok) K.kind K.names (thn (hi pins s σ H _ I h) fun v s1 h1 => thn h1 fun itv s2 h2 => ?_)) fun _ s' hq => wpAny_pure (wpAny_pure hq))
 obtain ⟨it, fp, tn, J, H2, e, I2, T, st2, f2, n, W, hsz, w0, turn⟩ := h2
 subst e
 refine comp_block (RR := fun acc C => compPost (model X.prog X.w) X.A X.xe (some (assign (.Name y py) X.env)) (fun _ s' => SP X pins Dn .next s') acc C) K hc I2 he T st2 f2 hsz (F := fun ys H => ∀ p, H p = none → Dn.nx (σ.set i (some (.ref p))) (upd H p (.lst ys))) w0 turn ?_
 intro D C s' H' ys m I' n' fC ns fin
 refine wpAny_assign_Name (store_ok2 (v := .ref D) I' hN hy hl rfl (fun s'' I'' ch => ?_) hf)
 obtain ⟨f0, f1, f2, f3, f4, f5⟩ := fC
 obtain ⟨a, sb1, ha⟩ := ch
 have hCa : C ≠ a := by
   rcases ha with z | z
   · rw [z]; exact f1
   · exact Ne.symm (f4 y a z)
 refine ⟨m, ns.sameBut sb1 hCa, fun h' sb => ?_⟩
 exact ⟨_, _, I''.turned (t' := s''.toks) (it := C) (fun b o hb e => (sb.2 b hb).trans e) f0 f1 f3 f4 f5, fin D n'⟩
end
end L2
namespace L2
open PySem PySem.Spec PyProof.Rows PySem.Calls
def S (l : List Nat) : Str := ⟨l.toArray⟩
abbrev cd (x : Str) : List Nat := x.cps.toList
theorem cd_S (l : List Nat) : cd (S l) = l := rfl
theorem S_cd (x : Str) : S (cd x) = x := by cases x; rfl
theorem S_inj {a b : List Nat} (h : S a = S b) : a = b := congrArg cd h
theorem cd_inj {x y : Str} (h : cd x = cd y) : x = y := by rw [← S_cd x, ← S_cd y, h]
theorem len_S (l : List Nat) : (S l).length = l.length := by show l.toArray.size = _; simp
theorem len_cd (x : Str) : x.length = (cd x).length := by show x.cps.size = _; simp
theorem S_app (a b : List Nat) : S a ++ S b = S (a ++ b) := by
 show (⟨a.toArray ++ b.toArray⟩ : Str) = ⟨(a ++ b).toArray⟩
 simp
theorem cd_app (x y : Str) : cd (x ++ y) = cd x ++ cd y := by
 show (x.cps ++ y.cps).toList = _
 simp
def Its (x : Str) : It := ⟨fun i _ => i < x.length, fun i H v H' => H' = H ∧ ∃ c, (cd x)[i]? = some c ∧ v = .str (S [c]), fun i _ => i = x.length⟩
theorem str_walks {prog : Program} {w : World} {A : Around} (hh : A.handled = none) (I : Addr) (x : Str) (t : Tok) : Walks prog w A I [I] [I] x.cps.size (SignAt x) (fun i h => h.IsStrIter I (strIterType x) x t i) := by
 unfold strIterType
 split
 · exact Walks.strAscii hh I x t
 · exact Walks.strWide hh I x t
theorem turn_str {P : Program} {w : World} {K : PySem.W.Frag} {tg : Expr} (it : Addr) (x : Str) (t : Tok) : Turn P w K tg (Its x) [it] it (fun i h => h.IsStrIter it (strIterType x) x t i) where
 mem := by simp
 obj := fun i h st b hb => by
   have e : b = it := by simpa using hb
   subst e
   obtain ⟨o, e, c, d⟩ := st
   exact ⟨o, e, fun v z => by rw [d] at z; cases z⟩
 keep := fun i h h' st k => by
   obtain ⟨o, e, r⟩ := st
   exact ⟨o, k it (by simp) o e, r⟩
 item := by
   intro X hP hw hK hc i pins s σ H E I hf st hg
   subst hP hw hK
   have W := str_walks (prog := X.prog) (w := X.w) (A := X.A) (I.ok.hd hc) it x t
   obtain ⟨f0, f1, f2, f3, f4, f5⟩ := hf it (by simp)
   refine W.item i s _ E hg st fun v h' tk hv st' k => ?_
   have I1 : Inv X pins σ H { s with heap := h', toks := tk } := I.turned (t' := tk) (fun b o hb e => k b o (by simpa using hb) e) f0 f1 f3 f4 f5
   obtain ⟨c, u, hcx, rfl⟩ := hv
   obtain ⟨o, e, c1, d⟩ := id st'
   refine ⟨_, rfl, go_of (s := { s with heap := h', toks := tk }) e c1 d ?_ ⟨.str (S [c]), H, I1, ⟨_, rfl⟩, ⟨rfl, c, by rw [← hcx]; simp [cd], rfl⟩, st', fun b hb => (hf b hb).1⟩⟩
   unfold strIterType; split <;> decide
 done := by
   intro X hP hw hK hc i pins s σ H E I hf st hg
   subst hP hw hK
   have W := str_walks (prog := X.prog) (w := X.w) (A := X.A) (I.ok.hd hc) it x t
   obtain ⟨f0, f1, f2, f3, f4, f5⟩ := hf it (by simp)
   have e : i = x.cps.size := hg
   subst e
   exact W.done s _ E st fun h' tk k => ⟨rfl, I.turned (t' := tk) (fun b o hb e => k b o (by simpa using hb) e) f0 f1 f3 f4 f5⟩
 self := fun A i s Q E st h => by
   obtain ⟨o, e, c, d⟩ := id st
   unfold strIterType at st
   split at st
   · exact wpAny_pyIter_striter_ascii st h
   · exact wpAny_pyIter_striter_wide st h
section
variable {X : Cx} {tg : Expr}
def iStr (tl : TE) : TI := fun σ H R => tl σ H fun v H1 => ∃ x, v = .str x ∧ R (Its x) H1
theorem pi_str {l : Expr} {tl : TE} (hl : PE X l tl) : PI X tg l (iStr tl) := by
 intro pins s σ H R I h
 refine thn (hl pins s σ H _ I h) fun v s1 ⟨x, H1, I1, r1, q1⟩ => ?_
 obtain ⟨x, rfl, q⟩ := q1
 obtain ⟨t, rfl⟩ := r1
 refine wpAny_pyIter_strU ?_
 refine ⟨s1.heap.objs.size, [s1.heap.objs.size], _, _, H1, rfl, I1.kept (t' := s1.toks) fun b o e => Heap.get?_push_of_some _ e, turn_str _ x t, ⟨_, Heap.get?_push_size _ rfl, rfl, rfl⟩, fun b hb => ?_, q⟩
 have e : b = s1.heap.objs.size := by simpa using hb
 subst e
 exact I1.fpOk (Nat.le_refl _) (I1.hok.fresh (Nat.le_refl _))
end
theorem for_str {x : Str} {g : TG} {tb : TS} {D : Ends} {σ : St} {H : Hp} (Pv : Nat → St → Hp → Prop) (h0 : Pv 0 σ H)
   (hs : ∀ i c σ H, (cd x)[i]? = some c → Pv i σ H → g (.str (S [c])) σ H fun σ2 H2 => tb { D with nx := Pv (i + 1), ct := Pv (i + 1), bk := D.nx } σ2 H2) (hd : ∀ σ H, Pv x.length σ H → D.nx σ H) :
   ∃ W : Nat → Nat → St → Hp → Prop, (∃ m, W 0 m σ H) ∧ ∀ i m σ H, W i m σ H →
     ((Its x).stop i H ∧ D.nx σ H) ∨ ((Its x).go i H ∧ ∃ N : St → Hp → Prop, (∀ σ' H', N σ' H' → ∃ m', m' < m ∧ W (i + 1) m' σ' H') ∧ ∀ v H', (Its x).yld i H v H' → g v σ H' fun σ2 H2 => tb { D with nx := N, ct := N, bk := D.nx } σ2 H2) := by
 refine ⟨fun i m σ H => m = x.length - i ∧ i ≤ x.length ∧ Pv i σ H, ⟨x.length, by simp, Nat.zero_le _, h0⟩, ?_⟩
 rintro i m σ H ⟨rfl, hi, p⟩
 by_cases hlt : i < x.length
 · refine .inr ⟨hlt, Pv (i + 1), fun σ' H' p' => ⟨x.length - (i + 1), by omega, rfl, hlt, p'⟩, fun v H' y => ?_⟩
   obtain ⟨e, c, hc, rfl⟩ := y
   subst e
   exact hs i c σ _ hc p
 · have e : i = x.length := by omega
   subst e
   exact .inl ⟨rfl, hd σ H p⟩
theorem comp_str {x : Str} {te : TE} {σ : St} {H : Hp} {Q : VK} (hz : x.length ≤ sizeLine) (W : Nat → List V → Hp → Prop) (h0 : W 0 [] H)
   (hs : ∀ i c ys H, (cd x)[i]? = some c → ys.length = i → W i ys H → te (some (.str (S [c])) :: σ) H fun v H' => W (i + 1) (ys ++ [v]) H')
   (hd : ∀ ys H, ys.length = x.length → W x.length ys H → ∀ p, H p = none → Q (.ref p) (upd H p (.lst ys))) :
   ∃ (n : Nat) (W : Nat → List V → Hp → Prop), n ≤ sizeLine ∧ W 0 [] H ∧ ∀ i ys H, i ≤ n → ys.length = i → W i ys H →
     ((Its x).stop i H ∧ ∀ p, H p = none → Q (.ref p) (upd H p (.lst ys))) ∨ ((Its x).go i H ∧ i < n ∧ ∀ v H', (Its x).yld i H v H' → te (some v :: σ) H' fun v H'' => W (i + 1) (ys ++ [v]) H'') := by
 refine ⟨x.length, W, hz, h0, fun i ys H hi hl hw => ?_⟩
 by_cases hlt : i < x.length
 · refine .inr ⟨hlt, hlt, fun v H' y => ?_⟩
   obtain ⟨e, c, hc, rfl⟩ := y
   subst e
   exact hs i c ys _ hc hl hw
 · have e : i = x.length := by omega
   subst e
   exact .inl ⟨rfl, hd ys H hl hw⟩
theorem comp_range {lo : Int} {n : Nat} {te : TE} {σ : St} {H : Hp} {Q : VK} (hz : n ≤ sizeLine) (W : Nat → List V → Hp → Prop) (h0 : W 0 [] H)
   (hs : ∀ i ys H, i < n → ys.length = i → W i ys H → te (some (.int (lo + i)) :: σ) H fun v H' => W (i + 1) (ys ++ [v]) H')
   (hd : ∀ ys H, ys.length = n → W n ys H → ∀ p, H p = none → Q (.ref p) (upd H p (.lst ys))) :
   ∃ (m : Nat) (W : Nat → List V → Hp → Prop), m ≤ sizeLine ∧ W 0 [] H ∧ ∀ i ys H, i ≤ m → ys.length = i → W i ys H →
     ((Itr lo n).stop i H ∧ ∀ p, H p = none → Q (.ref p) (upd H p (.lst ys))) ∨ ((Itr lo n).go i H ∧ i < m ∧ ∀ v H', (Itr lo n).yld i H v H' → te (some v :: σ) H' fun v H'' => W (i + 1) (ys ++ [v]) H'') := by
 refine ⟨n, W, hz, h0, fun i ys H hi hl hw => ?_⟩
 by_cases hlt : i < n
 · refine .inr ⟨hlt, hlt, fun v H' y => ?_⟩
   obtain ⟨e, y⟩ := y
   subst e y
   exact hs i ys _ hlt hl hw
 · have e : i = n := by omega
   subst e
   exact .inl ⟨Nat.le_refl _, hd ys H hl hw⟩
theorem comp_list {K : PySem.W.Frag} {a : Addr} {xs : List V} {te : TE} {σ : St} {H : Hp} {Q : VK} (hz : xs.length ≤ sizeLine) (W : Nat → List V → Hp → Prop) (h0 : W 0 [] H) (hq : ∀ i ys H, W i ys H → SqL K H a xs)
   (hs : ∀ i x ys H, xs[i]? = some x → ys.length = i → W i ys H → te (some x :: σ) H fun v H' => W (i + 1) (ys ++ [v]) H')
   (hd : ∀ ys H, ys.length = xs.length → W xs.length ys H → ∀ p, H p = none → Q (.ref p) (upd H p (.lst ys))) :
   ∃ (m : Nat) (W : Nat → List V → Hp → Prop), m ≤ sizeLine ∧ W 0 [] H ∧ ∀ i ys H, i ≤ m → ys.length = i → W i ys H →
     ((Itl K a).stop i H ∧ ∀ p, H p = none → Q (.ref p) (upd H p (.lst ys))) ∨ ((Itl K a).go i H ∧ i < m ∧ ∀ v H', (Itl K a).yld i H v H' → te (some v :: σ) H' fun v H'' => W (i + 1) (ys ++ [v]) H'') := by
 refine ⟨xs.length, W, hz, h0, fun i ys H hi hl hw => ?_⟩
 have q := hq i ys H hw
 by_cases hlt : i < xs.length
 · refine .inr ⟨⟨xs, xs[i], q, by simp [hlt]⟩, hlt, fun v H' y => ?_⟩
   obtain ⟨e, y⟩ := y
   subst e
   exact hs i v ys _ (y xs q) hl hw
 · have e : i = xs.length := by omega
   subst e
   exact .inl ⟨⟨xs, q, Nat.le_refl _⟩, hd ys H hl hw⟩
section
variable {X : Cx}
theorem call_all (hc : X.calm = true) : CallR X (.builtin "all") (fun xs H Q => ∃ (p : Addr) (bs : List Bool), xs = [.ref p] ∧ SqL X.K H p (bs.map V.bl) ∧ Q (.bl (bs.all id)) H) := by
 intro pins s σ H xs us Q I r h
 obtain ⟨p, bs, rfl, hq, q⟩ := h
 obtain ⟨u, rfl, ru⟩ := vals1 r
 cases ru
 obtain ⟨its, rv, pl, hz⟩ := I.list hq
 have hlt : p < s.heap.objs.size := by obtain ⟨o, n, e, _⟩ := pl; exact Heap.lt_size e
 refine call_all_walk (wpAny_pyIter_list pl.isList ?_)
 refine ⟨_, _, _, _, _, _, fun i => bs.getD i false, rfl, Walks.list (show X.A.in1.handled = none from I.ok.hd hc) s.heap.objs.size p (Nat.ne_of_lt hlt) its.toArray, ⟨⟨_, Heap.get?_push_size _ rfl, rfl, rfl⟩, pl.isList.push _⟩, fun i v s1 Q1 E1 hP hQ => ?_, fun h' tk k => ?_⟩
 · have hP' : its[i]? = some v := by simpa using hP
   obtain ⟨hi, _⟩ := List.getElem?_eq_some_iff.mp hP'
   have hl := rv.length
   rw [List.length_map] at hl
   have hb : (bs.map V.bl)[i]? = some (V.bl (bs.getD i false)) := by
     rw [List.getElem?_map, List.getElem?_eq_getElem (by omega)]
     simp [List.getD, List.getElem?_eq_getElem (show i < bs.length by omega)]
   obtain ⟨u, hu, ru⟩ := rv.get hb
   rw [hP'] at hu
   cases hu
   cases (show v = Value.bool _ from ru)
   exact wpAny_truthy_bool hQ
 · have e : (List.range its.toArray.size).all (fun i => bs.getD i false) = bs.all id := by
     have hl := rv.length
     rw [List.length_map] at hl
     rw [List.size_toArray, ← hl]
     have z : bs = (List.range bs.length).map fun i => bs.getD i false := by
       apply List.ext_getElem?
       intro i
       rw [List.getElem?_map]
       by_cases hi : i < bs.length
       · simp [List.getElem?_eq_getElem, hi, List.getD]
       · rw [List.getElem?_eq_none (Nat.not_lt.mp hi), List.getElem?_eq_none (by rw [List.length_range]; exact Nat.not_lt.mp hi)]; rfl
     conv => rhs; rw [z]
     rw [List.all_map]; rfl
   rw [e]
   refine ⟨.bl (bs.all id), H, ?_, rfl, q⟩
   have I0 : Inv X pins σ H { s with heap := s.heap.push { cls := .type "list_iterator", data := .fields #[.ref p, .int 0 0] } } := I.kept (t' := s.toks) fun b o e => Heap.get?_push_of_some _ e
   have fo := I.fpOk (H' := H) (b := s.heap.objs.size) (Nat.le_refl _) I.fresh
   obtain ⟨f0, f1, f2, f3, f4, f5⟩ := fo
   exact I0.turned (t' := tk) (it := s.heap.objs.size) (fun b o hb e => k b o (by simpa using hb) e) f0 f1 f3 f4 f5
theorem strs_of {ys : List Str} : ∀ {its : List Value}, Vals (ys.map V.str) its → StrsAre its ys := by
 induction ys with
 | nil => intro its r; cases r; exact .nil
 | cons y ys ih =>
   intro its r
   cases r with
   | cons a b => obtain ⟨t, rfl⟩ := a; exact .cons _ _ (ih b)
def joinS (sep : Str) (ys : List Str) : Str := Txt.join sep ys
theorem mt_join : MtM X "str.join" (fun x vs H Q => ∃ (sep : Str) (p : Addr) (ys : List Str), x = .str sep ∧ vs = [.ref p] ∧ (SqL X.K H p (ys.map V.str) ∨ SqT X.K H p (ys.map V.str)) ∧ (ys.map (·.length)).sum + ys.length * sep.length ≤ 16777216 ∧ Q (.str (joinS sep ys)) H) := by
 intro pins s σ H x vs v us Q I rx rv h
 obtain ⟨sep, p, ys, rfl, rfl, hq, hz, q⟩ := h
 obtain ⟨t, rfl⟩ := rx
 obtain ⟨u, rfl, ru⟩ := rv.one
 cases ru
 rcases hq with hq | hq
 · obtain ⟨its, r, pl, _⟩ := I.list hq
   exact join_list pl.isList (by simpa using strs_of r) hz fun t' k => ⟨.str _, H, I.tok _, ⟨_, rfl⟩, q⟩
 · obtain ⟨its, r, pl, _⟩ := I.tuple hq
   exact join_tuple pl (by simpa using strs_of r) hz fun t' k => ⟨.str _, H, I.tok _, ⟨_, rfl⟩, q⟩
theorem op_mulB : OpR X (binaryOp .Mult) (rI (fun i j => Builtin.Int.intBits i ≤ 60000000 ∧ Builtin.Int.intBits j ≤ 60000000) fun i j => .int (i * j)) := opI fun i j _ _ _ _ _ hc q => mul_int q (IntMulOk.of_le hc.1 hc.2 (by decide))
def cutN (xs : List Nat) (lo hi : Option Int) : List Nat := (xs.drop (HT.sIx xs.length 0 lo)).take (HT.sIx xs.length xs.length hi - HT.sIx xs.length 0 lo)
theorem pick_nat (xs : List Nat) (i k : Nat) : (List.range k).filterMap (fun m => xs[i + m]?) = (xs.drop i).take k := by
 induction k generalizing i with
 | zero => simp
 | succ k ih =>
   rw [List.range_succ_eq_map, List.filterMap_cons]
   have e : (List.map Nat.succ (List.range k)).filterMap (fun m => xs[i + m]?) = (List.range k).filterMap (fun m => xs[(i + 1) + m]?) := by
     rw [List.filterMap_map]
     congr 1
     funext m
     show xs[i + (m + 1)]? = xs[i + 1 + m]?
     congr 1; omega
   rw [e, ih (i + 1)]
   by_cases hi : i < xs.length
   · rw [Nat.add_zero, List.getElem?_eq_getElem hi, List.drop_eq_getElem_cons hi, List.take_succ_cons]
   · rw [Nat.add_zero, List.getElem?_eq_none (Nat.not_lt.mp hi), List.drop_eq_nil_of_le (Nat.not_lt.mp hi), List.drop_eq_nil_of_le (by omega)]
     simp
theorem slice_idx (lo hi : Option Int) (n : Nat) : Builtin.Str.strSliceIndices lo hi 1 n = (List.range (HT.sIx n n hi - HT.sIx n 0 lo)).map fun m => HT.sIx n 0 lo + m := by
 unfold Builtin.Str.strSliceIndices sliceRange
 have h1 : (1 : Int) > 0 := by omega
 simp only [h1, if_true, Int.ediv_one]
 have cl : ∀ (v : Int) (d : Nat), max 0 (min (if v < 0 then v + (n : Int) else v) (n : Int)) = ((HT.sIx n d (some v) : Nat) : Int) := fun v d => by
   show _ = (((if v < 0 then (v + (n : Int)).toNat else min v.toNat n) : Nat) : Int)
   by_cases hv : v < 0
   · simp only [if_pos hv]; omega
   · simp only [if_neg hv]; omega
 have fin : ∀ a b : Nat, (List.range (if (a : Int) < (b : Int) then (b : Int) - (a : Int) + 1 - 1 else 0).toNat).map (fun k : Nat => ((a : Int) + 1 * (k : Int)).toNat) = (List.range (b - a)).map fun m => a + m := fun a b => by
   have e1 : (if (a : Int) < (b : Int) then (b : Int) - (a : Int) + 1 - 1 else 0).toNat = b - a := by split <;> omega
   rw [e1]
   apply List.map_congr_left
   intro k _
   omega
 cases lo with
 | none =>
   cases hi with
   | none => exact fin 0 n
   | some v => simp only [cl v n]; exact fin 0 _
 | some u =>
   cases hi with
   | none => simp only [cl u 0]; exact fin _ n
   | some v => simp only [cl u 0, cl v n]; exact fin _ _
theorem slice_is (x : Str) (lo hi : Option Int) : Txt.slice x lo hi = S (cutN (cd x) lo hi) := by
 unfold Txt.slice
 rw [slice_idx]
 have hx : x.length = (cd x).length := len_cd x
 split
 · rename_i h
   simp only [Bool.and_eq_true, beq_iff_eq, List.length_map, List.length_range] at h
   rw [hx] at h
   have h2 := h.2
   have l1 := HT.sIx_le (cd x).length (cd x).length (Nat.le_refl _) hi
   unfold cutN
   rw [h2]
   have l0 : HT.sIx (cd x).length 0 lo = 0 ∨ (cd x).length = 0 := by omega
   rcases l0 with l0 | l0
   · rw [l0, List.drop_zero, List.take_length, S_cd]
   · have e : cd x = [] := List.eq_nil_of_length_eq_zero l0
     apply cd_inj
     rw [e]; simp [cd_S]
 · rw [List.filterMap_map]
   unfold S cutN
   congr 2
   rw [← pick_nat, hx]
   congr 1
   funext m
   show x.cps[_]? = (cd x)[_]?
   simp [cd]
theorem sl_str : SlR X (fun x lo hi H Q => ∃ z, x = .str z ∧ z.length ≤ sizeLine ∧ Q (.str (S (cutN (cd z) lo hi))) H) := by
 intro pins s σ H x v vl vu lo hi sl Q I rx hs pl pu h
 obtain ⟨z, rfl, hz, q⟩ := h
 obtain ⟨t, rfl⟩ := rx
 refine ⟨"str", _, slot_str_getitem.lookup, typeIs_str s z t, ?_⟩
 rw [← slice_is] at q
 have fin : ∀ (l u : Option (Int × Tok)), l.map (·.1) = lo → u.map (·.1) = hi → vl = partValue l → vu = partValue u → wpAny (model X.prog X.w) X.A (getItem (.str z t) (.ref sl)) (EP X pins σ Q) X.xe s := fun l u e1 e2 e3 e4 => by
   subst e3 e4
   obtain ⟨o, ho, hc, hd⟩ := hs
   subst e1 e2
   exact wpAny_getItem_str_slice (l := l) (u := u) (st := none) ⟨o, ho, hc, hd⟩ rfl (post_val_or_str ⟨Nat.le_trans (Txt.slice_le z _ _) hz, fun t' k => ⟨.str _, H, I.tok _, ⟨_, rfl⟩, q⟩⟩)
 cases pl with
 | none =>
   cases pu with
   | none => exact fin none none rfl rfl rfl rfl
   | int i t => exact fin none (some (i, t)) rfl rfl rfl rfl
 | int j t' =>
   cases pu with
   | none => exact fin (some (j, t')) none rfl rfl rfl rfl
   | int i t => exact fin (some (j, t')) (some (i, t)) rfl rfl rfl rfl
end
end L2
namespace Att
open PySem PySem.W PySem.Calls PyProof.Rows
theorem bits_of_lay {ns : List Int} (h : WData.layableAll [WData.list (ns.map WData.int)] = true) : ∀ n ∈ ns, Builtin.Int.intBits n ≤ 1048576 := by
 have h1 : (WData.list (ns.map WData.int)).layable = true := by simpa [WData.layableAll] using h
 intro n hn
 have h2 := layableW_item h1 (.int n) (List.mem_map.mpr ⟨n, hn, rfl⟩)
 have h3 := (layableW_iff.mp h2).2.2
 simpa [WData.weight, Builtin.Int.intBits] using h3
theorem attach_callB {l : OpenLaw} {n : Nat} {q : Program} {loose : List Str} {XP : (Str → Option Value) → Heap → Prop} {YP : World → Heap → Prop} {d : DefRec}
   (hn : l.most = some n) (hdf : d.params.defaults = [])
   (call : ∀ (w : World) (s₀ s₁ : Shared) (mg mb : Str → Option Value) (fa : Addr) (o : Obj) (pm cd doc : Value) (a : Addr) (vs : List Value) (ns : List Int),
     Ground q loose [] XP w s₀ mg mb s₁.heap → YP w s₁.heap →
     s₁.heap.get? fa = some o → o.data = .func (docDef d.name d.params d.body d.scope pm cd doc) → s₁.heap.CodeRec cd d.name → mg d.name = some (.ref fa) →
     s₁.heap.get? a = some { cls := .type "list", data := .seq vs.toArray } → IntsAre vs ns → ns.length ≤ n → (∀ n ∈ ns, Builtin.Int.intBits n ≤ 1048576) → s₁.gens = #[] →
     codeAny (model l.prog w) callerA (.call (.ref fa) ⟨[.ref a], []⟩) (fun r s' => r = .ok (.ret (.bool true)) ∧ OldK s₁.heap s'.heap ∧ s'.os = s₁.os ∧ AllBare s'.gens) s₁) :
   WalkO q loose XP YP l.row.toRowW d [] (fun f vs => PySem.call f vs) := by
 intro w s₀ s₁ mg mb G Y fa o pm cd doc dV kV ho hd hcd hD hmg hg args vals as hpre hlay hrd hwl hlo
 obtain rfl : dV = .none := Dflts.none hD hdf
 obtain rfl : kV = .none := Dflts.noKw hD
 obtain ⟨a, vs, ns, rfl, rfl, hobj, hints, hlen⟩ := script_of hn hpre hwl
 refine enter_call (codeAny_mono (call w s₀ s₁ mg mb fa o pm cd doc a vs ns G Y ho (fd_plain hd) hcd hmg hobj hints hlen (bits_of_lay hlay) hg) fun r s' hq => ?_)
 obtain ⟨rfl, h2, h3, h4⟩ := hq
 exact ⟨.inl ⟨.bool true, .bool true, [], rfl, fun _ => rfl, .bool true, post_true l _, fun _ => ⟨List.Pairwise.nil, fun _ hm => (nomatch hm)⟩⟩, h2, h3, h4⟩
end Att
namespace L2
open PySem PySem.Spec PyProof.Rows
theorem walk_ofB {l : PySem.W.OpenLaw} {n k : Nat} {q : Program} {loose : List Str} {XP : (Str → Option Value) → Heap → Prop} {YP : World → Heap → Prop} {d : DefRec} {K : Params → PySem.W.Frag} {CX : World → CXT} {sp : World → Sp} {x : Str}
   (hn : l.most = some n) (hn2 : n ≤ sizeLine) (hdf : d.params.defaults = []) (hr : Room k callerA)
   (hY : ∀ (w : World) (h : Heap), YP w h → (K w.params).In h)
   (F : ∀ (w : World) (mg : Str → Option Value) (fa : Addr) (h : Heap), (K w.params).In h → h.Ns mainGlobals mg → mg d.name = some (.ref fa) →
     ∃ fd : FuncData, (∀ (s : Shared) (u : Value), BindsTo s fd ⟨[u], []⟩ [(x, u)]) ∧
       ∀ base : Heap, (K w.params).In base → base.Ns mainGlobals mg → FnOk l.prog w (K w.params) mg base (CX w) k fa fd [x] (sp w))
   (hsp : ∀ (w : World) (H : Hp) (a : Addr) (ns : List Int), ns.length ≤ n → (∀ n ∈ ns, Builtin.Int.intBits n ≤ 1048576) → Only H → SqL (K w.params) H a (ns.map V.int) → sp w [.ref a] H (fun v _ => v = .bl true) fun _ _ _ => False)
   (hCX : ∀ (w : World) (H : Hp) (s : Shared) (e : Value) (s' : Shared), CX w [] H s (fun _ _ _ => False) e s' → False) :
   PySem.W.WalkO q loose XP YP l.row.toRowW d [] (fun f vs => PySem.call f vs) := by
 refine Att.attach_callB hn hdf fun w s₀ s₁ mg mb fa o pm cd doc a vs ns G Y ho hd hcd hmg hobj hints hlen hbits hg => ?_
 have KX := hY w _ Y
 obtain ⟨fd, hb, hF⟩ := F w mg fa _ KX G.T.g hmg
 exact law_call KX G.T.g G.T.b G.T.builtins G.T.nolimit hg hobj hints (Nat.le_trans hlen hn2) hr hF hb (fun H hO hS => hsp w H a ns hlen hbits hO hS) fun H e s' => hCX w H s₁ e s'
def GlobV (mg : Str → Option Value) (x : Str) (v : V) : Prop := ∃ u, mg x = some u ∧ RelV v u
theorem pe_gv {X : Cx} {x : Str} {v : V} {pos : Pos} (hg : Gl X x) (h : GlobV X.mg x v) (hd : (x == ("__debug__" : Str)) = false := by decide) : PE X (.Name x pos) (tC v) := by
 obtain ⟨u, hm, r⟩ := h
 exact pe_glob hg hm r hd
theorem SqT.mod {K : PySem.W.Frag} {a : Addr} {oc : Value} {od : Option Addr} {its : Array Value} {n : Nat} {sl : Array (Option Value)} {xs : List V} (h : K.lookup a = some ⟨oc, od, .seq its n, sl⟩) (hc : oc = .type "tuple") (hz : its.size ≤ sizeLine) (hv : Vals xs its.toList) (H : Hp) : SqT K H a xs :=
 .inr ⟨_, its, n, h, hc, rfl, hz, hv⟩
theorem Same.tup {K : PySem.W.Frag} {H H' : Hp} {a : Addr} {xs : List V} (e : Same H H') (h : SqT K H a xs) : SqT K H' a xs := by
 rcases h with (h | ⟨o, h⟩) | h
 · exact .inl (.inl (e _ _ h))
 · exact .inl (.inr ⟨o, e _ _ h⟩)
 · exact .inr h
theorem zJ {H : Hp} {p : Addr} (h : H p = none) (o : HO) : Same H (upd H p o) := fun b u q => by rw [zO (ne_of_none q h)]; exact q
namespace Bt
theorem int : bootBuiltins "int" = some (.type "int") := PyProof.Rows.boot_int
theorem bool : bootBuiltins "bool" = some (.type "bool") := PyProof.Rows.boot_bool
theorem str : bootBuiltins "str" = some (.type "str") := PyProof.Rows.boot_str
theorem list : bootBuiltins "list" = some (.type "list") := PyProof.Rows.boot_list
theorem tuple : bootBuiltins "tuple" = some (.type "tuple") := PyProof.Rows.boot_tuple
theorem dict : bootBuiltins "dict" = some (.type "dict") := PyProof.Rows.boot_dict
theorem set : bootBuiltins "set" = some (.type "set") := PyProof.Rows.boot_set
theorem isinstance : bootBuiltins "isinstance" = some (.builtin "isinstance") := PyProof.Rows.boot_isinstance
theorem all : bootBuiltins "all" = some (.builtin "all") := PyProof.Rows.boot_all
theorem abs : bootBuiltins "abs" = some (.builtin "abs") := PyProof.Rows.Boot.«abs»
end Bt
end L2
namespace L2
open PySem PySem.Spec PyProof.Rows
abbrev ib (x : Int) : Nat := Builtin.Int.intBits x
theorem ib_div {x : Int} {y : Int} {m : Nat} (hy : 0 < y) (h : ib x ≤ m) : ib (x / y) ≤ m := by
 rw [← Int.fdiv_eq_ediv_of_nonneg x (Int.le_of_lt hy)]
 exact intBits_fdiv_le h
theorem ib_small {x : Int} (h1 : -(2 ^ 64) < x) (h2 : x < 2 ^ 64) : ib x ≤ 64 := intBits_le_64 h1 h2
theorem ib_big {m : Nat} {x : Int} (h : x.natAbs < 2 ^ m) : ib x ≤ m := intBits_le_iff.mpr h
theorem at_some {α : Type} {l : List α} {i : Int} (h0 : 0 ≤ i) (h1 : i < l.length) : ∃ c, atI l i = some c ∧ l[i.toNat]? = some c := by
 have hk : i.toNat < l.length := by omega
 refine ⟨l[i.toNat], ?_, List.getElem?_eq_getElem hk⟩
 have e : i = ((i.toNat : Nat) : Int) := by omega
 have q : atI l ((i.toNat : Nat) : Int) = some l[i.toNat] := atI_nat (List.getElem?_eq_getElem hk)
 rw [← e] at q
 exact q
theorem ixN_some {n : Nat} {i : Int} (h0 : 0 ≤ i) (h1 : i < n) : ixN n i = some i.toNat := by
 unfold ixN
 rw [if_pos h0, if_pos h1]
theorem Same.ty {K : PySem.W.Frag} {H H' : Hp} {x : V} {t : Value} (e : Same H H') (h : TyOf K H x t) : TyOf K H' x t := by
 cases h with
 | non => exact .non
 | bl x => exact .bl x
 | int i => exact .int i
 | str x => exact .str x
 | flt x => exact .flt x
 | lst q => exact .lst (e _ _ q)
 | frz q => exact .frz (e _ _ q)
 | tup q => exact .tup (e _ _ q)
 | dK q => exact .dK (e _ _ q)
 | dT q => exact .dT (e _ _ q)
 | ins q a b c d f => exact .ins (e _ _ q) a b c d f
theorem small_of {n m : Nat} (h : n ≤ m) (hm : m ≤ 16777216 := by decide) : n ≤ sizeLine := by rw [sizeLine_eq]; omega
def joinL (sep : List Nat) : List (List Nat) → List Nat
 | [] => []
 | [x] => x
 | x :: y :: r => x ++ sep ++ joinL sep (y :: r)
theorem joinS_is (sep : Str) (ys : List Str) : joinS sep ys = S (joinL (cd sep) (ys.map cd)) := by
 have e : joinS sep ys = Str.join sep ys := StrLaws.glued_eq_join sep ys
 rw [e]
 clear e
 induction ys with
 | nil => rfl
 | cons y r ih =>
   cases r with
   | nil => exact (S_cd y).symm
   | cons z r =>
     show y ++ sep ++ Str.join sep (z :: r) = S (cd y ++ cd sep ++ joinL (cd sep) ((z :: r).map cd))
     rw [ih, ← S_app, ← S_app, S_cd, S_cd]
structure CompR (J : It) (te : TE) (σ : St) (H1 : Hp) (Q : VK) : Prop where
 ex : ∃ (n : Nat) (W : Nat → List V → Hp → Prop), n ≤ sizeLine ∧ W 0 [] H1 ∧ ∀ i ys H, i ≤ n → ys.length = i → W i ys H →
   (J.stop i H ∧ ∀ p, H p = none → Q (.ref p) (upd H p (.lst ys))) ∨ (J.go i H ∧ i < n ∧ ∀ x H', J.yld i H x H' → te (some x :: σ) H' fun v H'' => W (i + 1) (ys ++ [v]) H'')
def tCompR (wi : TI) (te : TE) : TE := fun σ H Q => wi σ H fun J H1 => CompR J te σ H1 Q
structure ForR (J : It) (g : TG) (tb : TS) (D : Ends) (σ : St) (H1 : Hp) : Prop where
 ex : ∃ W : Nat → Nat → St → Hp → Prop, (∃ m, W 0 m σ H1) ∧ ∀ i m σ H, W i m σ H →
   (J.stop i H ∧ D.nx σ H) ∨ (J.go i H ∧ ∃ N : St → Hp → Prop, (∀ σ' H', N σ' H' → ∃ m', m' < m ∧ W (i + 1) m' σ' H') ∧ ∀ x H', J.yld i H x H' → g x σ H' fun σ2 H2 => tb { D with nx := N, ct := N, bk := D.nx } σ2 H2)
def tForR (wi : TI) (g : TG) (tb : TS) : TS := fun D σ H => wi σ H fun J H1 => ForR J g tb D σ H1
structure WhileR (c : TT) (tb : TS) (D : Ends) (σ : St) (H : Hp) : Prop where
 ex : tWhile c tb D σ H
def tWhileR (c : TT) (tb : TS) : TS := fun D σ H => WhileR c tb D σ H
theorem PI.weak {X : Cx} {tg iter : Expr} {wi : TI} (h : PI X tg iter wi) {pins : List (Addr × Obj)} {s : Shared} {σ : St} {H : Hp} {R R' : It → Hp → Prop} (I : Inv X pins σ H s) (hw : wi σ H R) (hR : ∀ J H1, R J H1 → R' J H1) :
   wpAny (model X.prog X.w) X.A (eval iter X.env) (fun v s1 => wpAny (model X.prog X.w) X.A (pyIter v) (PIE X pins σ tg R') X.xe s1) X.xe s := by
 refine thn (h pins s σ H R I hw) fun v s1 h1 => thn h1 fun itv s2 ⟨it, fp, tn, J, H', e, I', T, st, f, r⟩ => ?_
 exact ⟨it, fp, tn, J, H', e, I', T, st, f, hR J H' r⟩
section
variable {X : Cx} {scope : Scope} {x : Str} {M : List Str} {elt iter : Expr} {px pos : Pos} {te : TE} {wi : TI}
theorem pi_conv {tg : Expr} {wi wi' : TI} (h : PI X tg iter wi) (hw : ∀ σ H R, wi' σ H R → ∃ R0, wi σ H R0 ∧ ∀ J H1, R0 J H1 → R J H1) : PI X tg iter wi' := by
 intro pins s σ H R I q
 obtain ⟨R0, q0, hR⟩ := hw σ H R q
 exact h.weak I q0 hR
theorem pe_compR (K : CompOk X scope x M) (hc : X.calm = true) (hi : PI X (.Name x px) iter wi) (he : ∀ (C : Addr) (s₂ : Shared) (H₂ : Hp) (fp : List Addr), PE (compCx X scope C x M s₂ H₂ fp) elt te)
   (hs : ∀ x, foldedSetIterable iter X.env x = pure x := by intro _; rfl) : PE X (.ListComp elt [⟨.Name x px, iter, [], 0⟩] scope pos) (tCompR wi te) := by
 intro pins s σ H Q I h
 have q := pe_comp (pos := pos) K hc (wi := fun σ0 H0 R0 => ∃ R, wi σ0 H0 R ∧ ∀ J H1, R J H1 → R0 J H1) (pi_conv hi fun σ H R ⟨R1, a, b⟩ => ⟨R1, a, b⟩) he hs pins s σ H Q I
 exact q ⟨_, h, fun J H1 r => r.ex⟩
theorem ps_compR {i : Nat} {y : Str} {spos py : Pos} (hN : X.N.Nodup) (hy : X.N[i]? = some y) (hl : Loc X.env.scope y) (K : CompOk X scope x M) (hc : X.calm = true) (hi : PI X (.Name x px) iter wi) (he : ∀ (C : Addr) (s₂ : Shared) (H₂ : Hp) (fp : List Addr), PE (compCx X scope C x M s₂ H₂ fp) elt te)
   (hsw : swapsWith (.ListComp elt [⟨.Name x px, iter, [], 0⟩] scope pos) (some (.Name y py)) spos.line X.env = pure true := by rfl)
   (hs : ∀ x, foldedSetIterable iter X.env x = pure x := by intro _; rfl) (hf : X.fn y = true ∨ X.env.scope.names.lookup y = some .local := by first | exact .inl rfl | exact .inr rfl | assumption) :
   PS X (.Assign [.Name y py] (.ListComp elt [⟨.Name x px, iter, [], 0⟩] scope pos) spos) (tAsg (tCompR wi te) (gName i)) := by
 intro pins s σ H D I h
 have q := ps_comp (pos := pos) (spos := spos) hN hy hl K hc (wi := fun σ0 H0 R0 => ∃ R, wi σ0 H0 R ∧ ∀ J H1, R J H1 → R0 J H1) (pi_conv hi fun σ H R ⟨R1, a, b⟩ => ⟨R1, a, b⟩) he hsw hs hf pins s σ H D I
 exact q ⟨_, h, fun J H1 r => r.ex⟩
theorem ps_forR {tg : Expr} {body : List Stmt} {g : TG} {tb : TS} (hp : PassesOwn (model X.prog X.w) X.A X.env X.xe) (hc : X.calm = true) (hi : PI X tg iter wi) (hg : PG X tg g) (hb : PSs X body tb)
   (hs : ∀ x, foldedSetIterable iter X.env x = pure x := by intro _; rfl) : PS X (.For tg iter body [] pos) (tForR wi g tb) := by
 intro pins s σ H D I h
 have q := ps_for (pos := pos) hp hc (wi := fun σ0 H0 R0 => ∃ R, wi σ0 H0 R ∧ ∀ J H1, R J H1 → R0 J H1) (pi_conv hi fun σ H R ⟨R1, a, b⟩ => ⟨R1, a, b⟩) hg hb hs pins s σ H D I
 exact q ⟨_, h, fun J H1 r => r.ex⟩
theorem ps_whileR {c : Expr} {body : List Stmt} {tc : TT} {tb : TS} (hp : PassesOwn (model X.prog X.w) X.A X.env X.xe) (hc : PT X c tc) (hb : PSs X body tb) : PS X (.While c body [] pos) (tWhileR tc tb) := fun pins s σ H D I h => ps_while hp hc hb pins s σ H D I h.ex
end
theorem comp_strR {x : Str} {te : TE} {σ : St} {H : Hp} {Q : VK} (hz : x.length ≤ sizeLine) (W : Nat → List V → Hp → Prop) (h0 : W 0 [] H)
   (hs : ∀ i c ys H, (cd x)[i]? = some c → ys.length = i → W i ys H → te (some (.str (S [c])) :: σ) H fun v H' => W (i + 1) (ys ++ [v]) H')
   (hd : ∀ ys H, ys.length = x.length → W x.length ys H → ∀ p, H p = none → Q (.ref p) (upd H p (.lst ys))) : CompR (Its x) te σ H Q := ⟨comp_str hz W h0 hs hd⟩
theorem comp_rangeR {lo : Int} {n : Nat} {te : TE} {σ : St} {H : Hp} {Q : VK} (hz : n ≤ sizeLine) (W : Nat → List V → Hp → Prop) (h0 : W 0 [] H)
   (hs : ∀ i ys H, i < n → ys.length = i → W i ys H → te (some (.int (lo + i)) :: σ) H fun v H' => W (i + 1) (ys ++ [v]) H')
   (hd : ∀ ys H, ys.length = n → W n ys H → ∀ p, H p = none → Q (.ref p) (upd H p (.lst ys))) : CompR (Itr lo n) te σ H Q := ⟨comp_range hz W h0 hs hd⟩
theorem comp_listR {K : PySem.W.Frag} {a : Addr} {xs : List V} {te : TE} {σ : St} {H : Hp} {Q : VK} (hz : xs.length ≤ sizeLine) (W : Nat → List V → Hp → Prop) (h0 : W 0 [] H) (hq : ∀ i ys H, W i ys H → SqL K H a xs)
   (hs : ∀ i x ys H, xs[i]? = some x → ys.length = i → W i ys H → te (some x :: σ) H fun v H' => W (i + 1) (ys ++ [v]) H')
   (hd : ∀ ys H, ys.length = xs.length → W xs.length ys H → ∀ p, H p = none → Q (.ref p) (upd H p (.lst ys))) : CompR (Itl K a) te σ H Q := ⟨comp_list hz W h0 hq hs hd⟩
theorem for_listR {K : PySem.W.Frag} {a : Addr} {xs : List V} {g : TG} {tb : TS} {D : Ends} {σ : St} {H : Hp} (Pv : Nat → St → Hp → Prop) (h0 : Pv 0 σ H) (hl : ∀ i σ H, i ≤ xs.length → Pv i σ H → SqL K H a xs)
   (hs : ∀ i x σ H, xs[i]? = some x → Pv i σ H → g x σ H fun σ2 H2 => tb { D with nx := Pv (i + 1), ct := Pv (i + 1), bk := D.nx } σ2 H2) (hd : ∀ σ H, Pv xs.length σ H → D.nx σ H) : ForR (Itl K a) g tb D σ H := ⟨for_list Pv h0 hl hs hd⟩
theorem for_rangeR {lo : Int} {n : Nat} {g : TG} {tb : TS} {D : Ends} {σ : St} {H : Hp} (Pv : Nat → St → Hp → Prop) (h0 : Pv 0 σ H)
   (hs : ∀ i σ H, i < n → Pv i σ H → g (.int (lo + i)) σ H fun σ2 H2 => tb { D with nx := Pv (i + 1), ct := Pv (i + 1), bk := D.nx } σ2 H2) (hd : ∀ σ H, Pv n σ H → D.nx σ H) : ForR (Itr lo n) g tb D σ H := ⟨for_range Pv h0 hs hd⟩
theorem for_strR {x : Str} {g : TG} {tb : TS} {D : Ends} {σ : St} {H : Hp} (Pv : Nat → St → Hp → Prop) (h0 : Pv 0 σ H)
   (hs : ∀ i c σ H, (cd x)[i]? = some c → Pv i σ H → g (.str (S [c])) σ H fun σ2 H2 => tb { D with nx := Pv (i + 1), ct := Pv (i + 1), bk := D.nx } σ2 H2) (hd : ∀ σ H, Pv x.length σ H → D.nx σ H) : ForR (Its x) g tb D σ H := ⟨for_str Pv h0 hs hd⟩
theorem cutV_map {α : Type} (f : α → V) (l : List α) (lo hi : Option Int) : ∃ ms : List α, cutV (l.map f) lo hi = ms.map f ∧ (∀ m ∈ ms, m ∈ l) ∧ ms.length ≤ l.length := by
 refine ⟨(l.drop (HT.sIx (l.map f).length 0 lo)).take (HT.sIx (l.map f).length (l.map f).length hi - HT.sIx (l.map f).length 0 lo), ?_, fun m hm => ?_, ?_⟩
 · unfold cutV
   rw [List.map_take, List.map_drop]
 · exact List.mem_of_mem_drop (List.mem_of_mem_take hm)
 · rw [List.length_take, List.length_drop]; omega
theorem map_get {α : Type} {f : α → V} {l : List α} {i : Nat} {x : V} (h : (l.map f)[i]? = some x) : ∃ a, l[i]? = some a ∧ x = f a := by
 rw [List.getElem?_map] at h
 cases e : l[i]? with
 | none => rw [e] at h; cases h
 | some a => rw [e] at h; exact ⟨a, rfl, (Option.some.inj h).symm⟩
theorem newH {H : Hp} {p : Addr} (h : H p = none) (o : HO) : ∃ H', upd H p o = H' ∧ Same H H' ∧ H' p = some o := ⟨_, rfl, zJ h o, zE⟩
theorem kit_ty {K : PySem.W.Frag} {a b : String} {r : Bool} (h : (if (Value.type a == Value.type b) = true then some true else if PySem.W.kitMeta b = true then (fastBuiltinMro a).map (·.contains (Value.type b)) else none) = some r) : PySem.W.kitOne K (.type a) (.type b) = some r := h
end L2
namespace L2
open PySem PySem.Spec PyProof.Rows PySem.Calls
structure XUn (outer : List Env) (H H' : Hp) (h B h1 : Heap) : Prop where
 keepB : ∀ b o, h.get? b = some o → H b = none → b ∉ frs outer → B.get? b = some o
 thereB : ∀ b o, h.get? b = some o → b ∉ frs outer → ∃ o', B.get? b = some o'
 slot : ∀ b o, h.get? b = some o → H b = none → b ∈ frs outer → ∃ sl, h1.get? b = some { o with slots := sl }
 free : ∀ b o, h.get? b = some o → H b = none → H' b = none
 tups : ∀ b xs, H b = some (.tup xs) → H' b = some (.tup xs)
 frzs : ∀ b o u, H b = some (.frz o u) → H' b = some (.frz o u)
 tbls : ∀ b ps, H b = some (.tbl ps) → ∃ more, H' b = some (.tbl (ps ++ more))
theorem XUn.step {outer : List Env} {H H' : Hp} {h B h1 h2 base : Heap} (x : XUn outer H H' h B h1) (fr : h1.FunFrames base outer) (up : h1.UpToSlots h2) : XUn outer H H' h B h2 :=
 ⟨x.keepB, x.thereB, fun b o e n hb => by
   obtain ⟨sl, q⟩ := x.slot b o e n hb
   obtain ⟨_, o', ho', hd'⟩ := fr.mem hb
   rw [q] at ho'; cases ho'
   obtain ⟨sl', q'⟩ := up b _ q hd'
   exact ⟨sl', q'⟩, x.free, x.tups, x.frzs, x.tbls⟩
theorem XUn.un {outer : List Env} {H H' : Hp} {h B h1 : Heap} (x : XUn outer H H' h B h1) (st : B.StaysIn h1) (fr : h1.FunFrames B outer) : Un (frs outer) [] H H' h h1 :=
 ⟨fun b o e n hb _ => st b o (x.keepB b o e n hb), fun b o e n hb _ => x.slot b o e n hb, fun b o e n _ => x.free b o e n, fun b o e _ => by
   by_cases hb : b ∈ frs outer
   · obtain ⟨_, o', ho', _⟩ := fr.mem hb
     exact ⟨o', ho'⟩
   · obtain ⟨o', q⟩ := x.thereB b o e hb
     exact ⟨o', st b o' q⟩, x.tups, x.frzs, x.tbls⟩
def CXW (P : Program) (w : World) : CXT := fun outer H s E e s' =>
 ∃ (ea t : Addr) (cls : Value) (H' : Hp) (B : Heap), e = .ref ea ∧ Heap.FlyingW B outer ea cls (.ref t) s'.heap ∧ s'.os = s.os ∧ AllBare s'.gens ∧ HOk P w H' B ∧ XUn outer H H' s.heap B s'.heap ∧ E cls none H'
section
variable {P : Program} {w : World} {K : PySem.W.Frag} {mg : Str → Option Value} {base : Heap} {N : List Str} {qual : Str} {scope : Scope} {f : Addr} {cdv : Value} {A : Around} {outer : List Env} {s : Shared} {H : Hp} {E : XK}
theorem xe_made {pins : List (Addr × Obj)} {σ : St} {H1 : Hp} {s1 : Shared} {h' : Heap} {e : Addr} {cls : Value} {vs : List Value} (I : Inv (cxOf (CXW P w) P w K mg base N qual scope f cdv A outer s H E) pins σ H1 s1)
   (hx : Heap.MadeExcOf s1.heap h' e cls vs) (hE : E cls none H1) : (cxOf (CXW P w) P w K mg base N qual scope f cdv A outer s H E).xe (.ref e) { s1 with heap := h' } := by
 have hst := I.stack
 have hin : ∀ env ∈ (cxOf (CXW P w) P w K mg base N qual scope f cdv A outer s H E).stack, ∀ b, env.frame = some b → b ∈ frs (cxOf (CXW P w) P w K mg base N qual scope f cdv A outer s H E).stack := fun env he b hb => List.mem_filterMap.mpr ⟨env, he, hb⟩
 generalize hB : PySem.W.hideAll s1.heap (frs (cxOf (CXW P w) P w K mg base N qual scope f cdv A outer s H E).stack) = B
 have stB : B.StaysIn s1.heap := fun b o q => by rw [← hB] at q; exact PySem.W.of_hideAll _ q
 have getB : ∀ b o, s1.heap.get? b = some o → b ∉ frs (cxOf (CXW P w) P w K mg base N qual scope f cdv A outer s H E).stack → B.get? b = some o := fun b o q n => by rw [← hB]; exact PySem.W.hideAll_get _ q n
 have frB : s1.heap.FunFrames B (cxOf (CXW P w) P w K mg base N qual scope f cdv A outer s H E).stack := by rw [← hB]; exact PySem.W.funFrames_hide hst hin
 have noL : ∀ b o, s.heap.get? b = some o → b ∉ frs outer → b ∉ frs (cxOf (CXW P w) P w K mg base N qual scope f cdv A outer s H E).stack := fun b o q n z => by
   rcases List.mem_cons.mp (I.stkSub b z) with z | z
   · have : b < s.heap.objs.size := Heap.lt_size q
     have a := I.ok.above
     rw [← z] at a
     exact absurd (Nat.lt_of_lt_of_le this a) (Nat.lt_irrefl _)
   · exact n z
 show wpAny (model P w) _ (leaving (envOfC qual scope s.heap.objs.size f cdv) (.ref e)) _ _ _
 refine wpAny_leaves_madeW (base := B) (h := s1.heap) (outer := outer) I.ok.frames rfl stB frB hx fun h2 t fl tup tn up => ?_
 refine ⟨e, t, cls, H1, B, rfl, fl, I.os, I.bare, fun a o q => (I.hok a o q).stay (fun b u hb z => getB b u z fun m => ?_) (fun _ z => z) (fun _ _ z => z), ⟨fun b o q n hb => ?_, fun b o q hb => ?_, fun b o q n hb => ?_, fun b o q n => I.base.free b o q n (fun z => nomatch z), I.base.tups, I.base.frzs, I.base.tbls⟩, hE⟩
 · have z := I.stkFree b m
   rcases hb with r | r
   · rw [r, q] at z; cases z
   · rw [r] at z; cases z
 · exact getB b o (I.base.keep b o q n hb (fun z => nomatch z)) (noL b o q hb)
 · obtain ⟨o', q'⟩ := I.base.there b o q (fun z => nomatch z)
   exact ⟨o', getB b o' q' (noL b o q hb)⟩
 · obtain ⟨sl, q'⟩ := I.base.slot b o q n hb (fun z => nomatch z)
   have q2 := hx.keeps b _ q'
   obtain ⟨_, o2, ho2, hd2⟩ := I.funs.mem hb
   rw [q'] at ho2; cases ho2
   obtain ⟨sl', z⟩ := up b _ q2 hd2
   exact ⟨sl', z⟩
end
section
variable {P : Program} {w : World} {K : PySem.W.Frag} {mg : Str → Option Value} {base : Heap}
theorem Fun.okX {x qual : Str} {st : Stmt} {f : Addr} {fd : FuncData} {N ps : List Str} {k : Nat} {sp : Sp} (F : Fun K x qual st f fd) (S : FnScope N ps (defScope st)) (len : ∀ vs H Q E, sp vs H Q E → vs.length = ps.length)
   (hbody : ∀ (cdv : Value) (A : Around) (outer : List Env) (s : Shared) (H : Hp) (vs : List V) (Q : VK) (E : XK), Room k (A.deeper (envOfC qual (defScope st) s.heap.objs.size f cdv)) → sp vs H Q E →
     ∃ t, PSs (cxOf (CXW P w) P w K mg base N qual (defScope st) f cdv A outer s H E) (defBody st) t ∧ t { nx := fun _ H' => Q .non H', rt := Q } (start N vs) H) : FnOk P w K mg base (CXW P w) (k + 1) f fd ps sp := by
 obtain ⟨oc, od, kV, doc, pm, an, cdv, ct, osl, rfl, lk, hcd⟩ := F.ex
 exact fn_of lk hcd S len fun A outer s H vs Q E hr hsp => hbody cdv A outer s H vs Q E hr hsp
end
end L2
namespace L2
open PySem PySem.Spec PyProof.Rows PySem.Calls PySem.W PySem.Builtin PySem.Builtin.ObjectAttr PySem.Builtin.Getset_descriptor
section
variable {prog : Program} {w : World} {A : Around} {E : Value → Shared → Prop} {s : Shared} {K : PySem.W.Frag} {x D : Addr}
def ClsAt (h : Heap) (x D : Addr) : Prop := ∃ o, h.get? x = some o ∧ o.cls = .ref D
theorem ClsAt.type {M : Model} {h : Heap} (p : ClsAt h x D) : Looks M h (typeOf (.ref x)) (.ref D) := by
 obtain ⟨o, e, c⟩ := p
 exact c ▸ (Looks.ld e).andThen .now
theorem looks_data {M : Model} {h : Heap} {name : Str} {a g : Value} (X : K.In h) (hf : findIn K (.ref D) name = some (some a)) (hg : specialIn K a "__get__" = some (some g)) (ht : takesIn K a = some true) : Looks M h (find (.ref x) (.ref D) name) (.bind g a) := by
 have l1 := looks_findIn (M := M) X hf
 have l2 : Looks M h (getOf (some a)) (some g) := looks_specialIn X hg
 have l3 := looks_takesIn (M := M) X ht
 refine l1.andThen (l2.andThen ?_)
 have l4 : Looks M h (dataDescriptor? (some a) (some g)) (some (g, a)) := l3.andThen .now
 exact l4.andThen (Looks.tag .now)
structure ExcCls (K : PySem.W.Frag) (D : Addr) : Prop where
 ga : findIn K (.ref D) "__getattribute__" = some (some (.builtin "BaseException.__getattribute__"))
 gk : findIn K (.ref D) "__getattr__" = some none
 cl : (clsIn K D).isSome = true
 ha : findIn K (.ref D) "__class__" = some (some (.builtin "object.__class__"))
 hn : specialIn K (.builtin "object.__class__") "__get__" = some (some (.builtin "getset_descriptor.__get__"))
 tk : takesIn K (.builtin "object.__class__") = some true
 mo : mroIn K D (.type "object") = some true
 mb : mroIn K D (.type "BaseException") = some true
theorem class_get {R : Result → Shared → Prop} (c : ExcCls K D) (X : K.In s.heap) (p : ClsAt s.heap x D) (q : R (.ok (.ret (.ref D))) s) :
   codeAny (model prog w) A (.call (.builtin "getset_descriptor.__get__") ⟨[.builtin "object.__class__", .ref x, .ref D], []⟩) R s := by
 obtain ⟨hh, g, d, t, os⟩ := s
 obtain ⟨o, eo, ec⟩ := id p
 have t0 := p.type (M := model prog w)
 have l1 := looks_mroIn (M := model prog w) X c.mo
 have arg0 := KF.args_gs (Value.builtin "object.__class__") (Value.ref x) (Value.ref D)
 refine codeAny_call_builtin KF.slot_gs.plain KF.entry_gs
   (KF.slot_gs.check _ _ _ _ _ _ _ _ KF.type_class arg0 ?_)
 unfold Builtin.«getset_descriptor.__get__»
   descrGet
 rw [dga_obj]; refine wpAny_bind (wpAny_pure ?_)
 unfold descrGetter descrCheckInstance
   descrNameAndClass isInstance
 simp only [KF.owner_class]; (repeat lk)
 refine ⟨Code.quiet_builtin _
   (by symm), codeAny_builtin KF.entry_class ?_⟩
 unfold Builtin.«object.__class__»
   shownTypeOf
 (repeat lk); exact q
theorem class_call {tk : Tok} {R : Result → Shared → Prop} (c : ExcCls K D) (X : K.In s.heap) (p : ClsAt s.heap x D) (q : R (.ok (.ret (.ref D))) s) :
   codeAny (model prog w) A (.call (.builtin "BaseException.__getattribute__") ⟨[.ref x, .str "__class__" tk], []⟩) R s := by
 obtain ⟨hh, g, d, t, os⟩ := s
 obtain ⟨o, eo, ec⟩ := id p
 have t0 := p.type (M := model prog w)
 have lb := looks_mroIn (M := model prog w) X c.mb
 have f0 := looks_data (x := x) (M := model prog w) X c.ha c.hn c.tk
 have hk : builtinKind "BaseException.__getattribute__" = some .slot := by symm
 have hsplit : splitId "BaseException.__getattribute__" = some ("BaseException", "__getattribute__") := by symm
 have ha := F.args_bexc_ga (.ref x) (.str "__class__" tk)
 refine codeAny_call_builtin F.excAttr_ValueError.ga.plain F.entry_bexc_ga ?_
 simp only [checkBuiltinCall, hk, hsplit]
 unfold isInstance
 refine wpAny_bind ?_
 (repeat (first | (with_reducible refine wpAny_call (class_get c X p ?_)) | lk))
 exact q
theorem class_of {Q : Option Value → Shared → Prop} (c : ExcCls K D) (X : K.In s.heap) (p : ClsAt s.heap x D) (q : Q (some (.ref D)) { s with toks := s.toks + 1 }) : wpAny (model prog w) A (getAttr? (.ref x) "__class__") Q E s := by
 obtain ⟨hh, g, d, t, os⟩ := s
 obtain ⟨o, eo, ec⟩ := id p
 have t0 := p.type (M := model prog w)
 have t1 := looks_findIn (M := model prog w) X c.ga
 have f1 := looks_findIn (M := model prog w) X c.gk
 have f3 := F.excAttr_ValueError.ga.bind (.ref x)
 unfold getAttr? getAttrBy? getAttrBy
 refine wpAny_bind (wpAny_mkText (wpAny_bind (wpAny_attempt (wpAny_holding (wpAny_bind (t0.at (wpAny_bind (t1.at ?_))))))))
 show wpAny _ _ (getAttrByItsOwn _ _ _ _ _ _) _ _ _
 unfold getAttrByItsOwn hookBefore
 refine wpAny_bind (f1.at (wpAny_bind (wpAny_attempt (wpAny_holding ?_))))
 show wpAny _ _ (boundAndCalled _ _ _) _ _ _
 unfold boundAndCalled
 rw [f3]
 refine wpAny_bind (wpAny_pure (wpAny_call ?_))
 refine class_call c (s := ⟨hh, g, d, t + 1, os⟩) X p ?_
 exact wpAny_pure (wpAny_pure q)
theorem kit_exc (c : ExcCls K D) : KitX K (.ref x) (.ref D) (fun h => ClsAt h x D) where
 ty := fun _ _ _ p => p.type
 it := fun _ _ X _ => by
   obtain ⟨cd, e⟩ := Option.isSome_iff_exists.mp c.cl
   unfold clsIn at e
   split at e
   · rename_i c' d' cd' sl' ho
     intro A' Q' E' s' k q
     unfold isType loadHead
     exact wpAny_bind (wpAny_loadPart (k _ _ (X _ _ ho)) (wpAny_pure q))
   · cases e
 ne := fun h tp dd its n sl X htp => by
   obtain ⟨cd, e⟩ := Option.isSome_iff_exists.mp c.cl
   refine Bool.eq_false_iff.mpr fun q => ?_
   have z : D = tp := Value.ref.inj (beq_iff_eq.mp q)
   subst z
   unfold clsIn at e
   split at e
   · rename_i c' d' cd' sl' ho
     have z := (X _ _ ho).symm.trans htp
     cases z
   · cases e
 ca := fun X p k => class_of c X p k
end
def excO (a D : Addr) : HO := .ext fun h => ClsAt h a D
inductive TyE (K : PySem.W.Frag) (H : Hp) : V → Value → Prop where
 | old {x : V} {t : Value} (h : TyOf K H x t) : TyE K H x t
 | exc {a D : Addr} (h : H a = some (excO a D)) (c : ExcCls K D) : TyE K H (.ref a) (.ref D)
 | tpl {a : Addr} {xs : List V} (h : SqT K H a xs) : TyE K H (.ref a) (.type "tuple")
def vVal : V → Value
 | .ref a => .ref a
 | .ty n => .type n
 | _ => .none
def isCls : V → Bool
 | .ref _ => true
 | .ty _ => true
 | _ => false
section
variable {X : Cx} {pins : List (Addr × Obj)} {σ : St} {H : Hp} {s : Shared} {A : Around} {E : Value → Shared → Prop} {Q : Value → Shared → Prop} {c : Value} {b : Bool}
theorem kit_of {x : V} {u t : Value} (I : Inv X pins σ H s) (rx : RelV x u) (ty : TyE X.K H x t) : (∃ P : Heap → Prop, KitX X.K u t P ∧ P s.heap) ∧ u ≠ .builtin "__main__.__loader__#opaque" := by
 cases ty with
 | @tpl a xs h =>
   cases (show u = Value.ref a from rx)
   obtain ⟨its, r, pl, hz⟩ := I.tuple h
   obtain ⟨o, h1, h2, _⟩ := pl
   exact ⟨⟨_, kitx_tuple, ⟨o, h1, h2⟩⟩, fun z => nomatch z⟩
 | old ty =>
   cases ty with
   | non => cases (show u = Value.none from rx); exact ⟨⟨_, kitx_none, True.intro⟩, fun z => nomatch z⟩
   | bl y => cases (show u = Value.bool y from rx); exact ⟨⟨_, kitx_bool, True.intro⟩, fun z => nomatch z⟩
   | int i => obtain ⟨t, q⟩ := (show ∃ t, u = Value.int i t from rx); cases q; exact ⟨⟨_, kitx_int, True.intro⟩, fun z => nomatch z⟩
   | str y => obtain ⟨t, q⟩ := (show ∃ t, u = Value.str y t from rx); cases q; exact ⟨⟨_, kitx_str, True.intro⟩, fun z => nomatch z⟩
   | flt y => obtain ⟨t, q⟩ := (show ∃ t, u = Value.float y t from rx); cases q; exact ⟨⟨_, kitx_float, True.intro⟩, fun z => nomatch z⟩
   | @lst a xs ea =>
     cases (show u = Value.ref a from rx)
     obtain ⟨_, _, n, _, h1⟩ := (show ObjOk X.prog X.w H s.heap a (.lst xs) from I.hok a _ ea)
     exact ⟨⟨_, kitx_list, ⟨_, h1, rfl⟩⟩, fun z => nomatch z⟩
   | @frz a ob xs ea =>
     cases (show u = Value.ref a from rx)
     obtain ⟨_, _, _, n, _, h1⟩ := (show ObjOk X.prog X.w H s.heap a (.frz ob (.lst xs)) from I.hok a _ ea)
     exact ⟨⟨_, kitx_list, ⟨_, h1, rfl⟩⟩, fun z => nomatch z⟩
   | @tup a xs ea =>
     cases (show u = Value.ref a from rx)
     obtain ⟨_, _, _, p⟩ := (show ObjOk X.prog X.w H s.heap a (.tup xs) from I.hok a _ ea)
     obtain ⟨o, h1, h2, _⟩ := p
     exact ⟨⟨_, kitx_tuple, ⟨o, h1, h2⟩⟩, fun z => nomatch z⟩
   | @dK a kvs ea =>
     cases (show u = Value.ref a from rx)
     obtain ⟨_, _, vs, _, p⟩ := (show ObjOk X.prog X.w H s.heap a (.dK kvs) from I.hok a _ ea)
     obtain ⟨o, es, ep, h1, h2, _⟩ := p
     exact ⟨⟨_, kitx_dict, ⟨o, h1, h2.1⟩⟩, fun z => nomatch z⟩
   | @dT a kvs ea =>
     cases (show u = Value.ref a from rx)
     obtain ⟨_, _, xs, _, o, es, ep, h1, h2, _⟩ := (show ObjOk X.prog X.w H s.heap a (.dT kvs) from I.hok a _ ea)
     exact ⟨⟨_, kitx_dict, ⟨o, h1, h2.1⟩⟩, fun z => nomatch z⟩
   | @ins a C dx fs ea cl ha hn htk hm =>
     cases (show u = Value.ref a from rx)
     obtain ⟨mA, O, _⟩ := ins_get I.hok ea
     obtain ⟨od, J, _⟩ := O.look
     exact ⟨⟨_, kitx_own (cl.get _) cl.hd ha hn htk hm, J⟩, fun z => nomatch z⟩
 | @exc a D h c =>
   cases (show u = Value.ref a from rx)
   obtain ⟨p, _⟩ := (show ObjOk X.prog X.w H s.heap a (excO a D) from I.hok a _ h)
   exact ⟨⟨_, kit_exc c, p⟩, fun z => nomatch z⟩
theorem vVal_rel {x : V} {u : Value} (h : isCls x = true) (r : RelV x u) : u = vVal x := by
 cases x with
 | ref a => exact r
 | ty n => exact r
 | _ => cases h
theorem vVals_rel : ∀ {xs : List V} {us : List Value}, xs.all isCls = true → Vals xs us → us = xs.map vVal
 | [], _, _, .nil => rfl
 | x :: xs, _, h, .cons r rs => by
   rw [List.all_cons, Bool.and_eq_true] at h
   rw [vVal_rel h.1 r, vVals_rel h.2 rs]; rfl
theorem call_isi : CallR X (.builtin "isinstance") (fun xs H Q => ∃ x y t b, xs = [x, y] ∧ isCls y = true ∧ TyE X.K H x t ∧ PySem.W.kitOne X.K t (vVal y) = some b ∧ Q (.bl b) H) := by
 intro pins s σ H xs us Q I r h
 obtain ⟨x, y, t, b, rfl, hc, ty, e, q⟩ := h
 obtain ⟨u, w', rfl, rx, ry⟩ := vals2 r
 obtain rfl := vVal_rel hc ry
 obtain ⟨⟨P, Z, p⟩, nb⟩ := kit_of I rx ty
 exact kia_one Z I.kIn p e nb fun tk => ⟨.bl b, H, I.tok _, rfl, q⟩
theorem call_isiT : CallR X (.builtin "isinstance") (fun xs H Q => ∃ x tp cs t b, xs = [x, .ref tp] ∧ H tp = some (.tup cs) ∧ cs.all isCls = true ∧ TyE X.K H x t ∧ PySem.W.kitAny X.K t (cs.map vVal) = some b ∧ Q (.bl b) H) := by
 intro pins s σ H xs us Q I r h
 obtain ⟨x, tp, cs, t, b, rfl, ht, hc, ty, e, q⟩ := h
 obtain ⟨u, w', rfl, rx, ry⟩ := vals2 r
 cases ry
 obtain ⟨⟨P, Z, p⟩, nb⟩ := kit_of I rx ty
 obtain ⟨_, its, rv, o, ho, hcl, n, hd⟩ := (show ObjOk X.prog X.w H s.heap tp (.tup cs) from I.hok tp _ ht)
 obtain rfl := vVals_rel hc rv
 obtain ⟨oc, od, oda, osl⟩ := o
 dsimp only at hcl hd
 subst hcl hd
 exact kia_tup Z I.kIn p ho e nb fun tk => ⟨.bl b, H, I.tok _, rfl, q⟩
end
end L2
namespace L2
open PySem PySem.Spec PyProof.Rows PySem.Calls PySem.W
theorem own_obj {K : PySem.W.Frag} {h : Heap} {C : Addr} {bmB : List Value} {newId : String} (X : K.In h) (q : excIn K C bmB newId = true) :
   ∃ bm N nm q bs hdct sn sub ab col dd k0 k1 k2 k3 k5 mN, h.get? C = some (excClassObj nm q C N bs bm hdct sn sub ab col dd k0 k1 k2 k3 k5 newId) ∧ h.Ns N mN ∧ mN "__init__" = none ∧ OwnTail h bmB bm := by
 unfold excIn at q
 split at q
 · rename_i dd cl sl ho
   split at q
   · rename_i C' bm k0 k1 k2 k3 n k5 hm hs
     simp only [Bool.and_eq_true, Bool.not_eq_true', beq_iff_eq] at q
     obtain ⟨⟨⟨⟨⟨e1, e2⟩, e3⟩, e4⟩, e5⟩, e6⟩ := q
     subst e1 e2
     obtain ⟨c1, c2, c3, c4, c5, c6, c7, c8, c9, c10, c11⟩ := cl
     dsimp only at hm e3 e5 e6; subst hm e3
     have es : sl = #[k0, k1, k2, k3, some (.builtin n), k5] := by
       cases sl with | mk l => (simp only at hs; rw [hs])
     subst es
     refine ⟨bm, c4, c1, c5, c2, c6, c7, c8, c9, c10, dd, k0, k1, k2, k3, k5, h.nsMap c4, X _ _ ho, ?_, ?_, tail_of_in X e4⟩
     · exact .of_isNs (isNs_of_in X e5)
     · exact nsMap_none_of_in X e5 e6
   · cases q
 · cases q
abbrev mroVE : List Value := [.type "ValueError", .type "Exception", .type "BaseException", .type "object"]
section
variable {P : Program} {w : World} {K : PySem.W.Frag} {mg : Str → Option Value} {base : Heap} {N : List Str} {qual : Str} {scope : Scope} {f : Addr} {cdv : Value} {A : Around} {outer : List Env} {s : Shared} {H : Hp} {E : XK}
def tRaise (E : XK) (C : Addr) (t : TA) : TS := fun _ σ H => t σ H fun vs H1 => vs.length ≤ sizeLine ∧ E (.ref C) none H1
theorem ps_raise {x : Str} {C : Addr} {np cpos pos : Pos} {e₀ : Expr} {rest : List Expr} {t : TA} (hm : mg x = some (.ref C)) (hq : excIn K C mroVE "ValueError.__new__" = true)
   (ha : PA (cxOf (CXW P w) P w K mg base N qual scope f cdv A outer s H E) (e₀ :: rest) t) (hg : Gl (cxOf (CXW P w) P w K mg base N qual scope f cdv A outer s H E) x)
   (he : starEach (e₀ :: rest) (envOfC qual scope s.heap.objs.size f cdv) = (false, eval e₀ (envOfC qual scope s.heap.objs.size f cdv)) :: starEach rest (envOfC qual scope s.heap.objs.size f cdv) := by rfl)
   (hpl : (backTo cpos (starEach rest (envOfC qual scope s.heap.objs.size f cdv))).any (·.1) = false := by rfl) (hd : (x == ("__debug__" : Str)) = false := by decide) :
   PS (cxOf (CXW P w) P w K mg base N qual scope f cdv A outer s H E) (.Raise (some (.Call (.Name x np) (e₀ :: rest) [] cpos)) none pos) (tRaise E C t) := by
 intro pins s1 σ H1 D I h
 obtain ⟨bm, Nn, nm, qn, bs, hdct, sn, sub, ab, col, dd, k0, k1, k2, k3, k5, mN, hC, hN, hni, TL⟩ := own_obj I.ok.mod.kin hq
 have hand : (cxOf (CXW P w) P w K mg base N qual scope f cdv A outer s H E).A.handled = none := I.ok.hd rfl
 refine wpAny_Raise_call_subT (C := C) (nm := nm) (q := qn) (N := Nn) (bs := bs) (bm := bm) (hdct := hdct) (sn := sn) (sub := sub) (ab := ab) (col := col) (dd := dd) (k0 := k0) (k1 := k1) (k2 := k2) (k3 := k3) (k5 := k5)
   F.excBase_ValueError (mN := mN) (TL.hasType F.excBase_ValueError.hasBase) hand ?_ hni (ld_glob I hg hm ⟨rfl, ?_⟩ hd)
 · show (backTo cpos (starEach (e₀ :: rest) (envOfC qual scope s.heap.objs.size f cdv))).any (·.1) = false
   rw [he]; show (false || (backTo cpos (starEach rest (envOfC qual scope s.heap.objs.size f cdv))).any (·.1)) = false
   rw [hpl]; rfl
 · have hA := ha cpos pins s1 σ H1 _ I h
   show wpAny _ _ (evalArgs (.ref C) true (backTo cpos (starEach (e₀ :: rest) (envOfC qual scope s.heap.objs.size f cdv))) []) _ _ _
   have hA' : wpAny (model P w) (cxOf (CXW P w) P w K mg base N qual scope f cdv A outer s H E).A (spliced (backTo cpos (starEach (e₀ :: rest) (envOfC qual scope s.heap.objs.size f cdv)))) _ _ s1 := hA
   rw [he] at hA' ⊢
   refine Calls.evalArgs_plain (thn hA' fun us s2 ⟨vs, H2, I2, r, hl, q⟩ => ⟨rfl, ?_, ?_, ?_, ?_, fun h' e mk => xe_made I2 mk q⟩)
   · show us.length ≤ sizeLine
     rw [← r.length]; exact hl
   · exact I2.bk _ _ hC
   · exact hN.keeps I2.bk
   · exact TL.keeps I2.bk
end
def CXAt (X : Cx) (pins : List (Addr × Obj)) (σ : St) (E : XK) (e : Value) (s' : Shared) : Prop := ∃ H1 s1, Inv X pins σ H1 s1 ∧ CXW X.prog X.w X.stack H1 s1 E e s'
abbrev TEx := St → Hp → VK → XK → Prop
abbrev TSx := Ends → (St → XK) → St → Hp → Prop
def PEx (X : Cx) (e : Expr) (t : TEx) : Prop :=
 ∀ (pins : List (Addr × Obj)) (s : Shared) (σ : St) (H : Hp) (Q : VK) (E : XK), Inv X pins σ H s → t σ H Q E → wpAny (model X.prog X.w) X.A (eval e X.env) (EP X pins σ Q) (CXAt X pins σ E) s
def PSx (X : Cx) (st : Stmt) (t : TSx) : Prop :=
 ∀ (pins : List (Addr × Obj)) (s : Shared) (σ : St) (H : Hp) (D : Ends) (E : St → XK), Inv X pins σ H s → t D E σ H → wpAny (model X.prog X.w) X.A (exec st X.env) (SP X pins D) (fun e s' => ∃ σ', CXAt X pins σ' (E σ') e s') s
def PSsx (X : Cx) (st : List Stmt) (t : TSx) : Prop :=
 ∀ (pins : List (Addr × Obj)) (s : Shared) (σ : St) (H : Hp) (D : Ends) (E : St → XK), Inv X pins σ H s → t D E σ H → wpAny (model X.prog X.w) X.A (execs st X.env) (SP X pins D) (fun e s' => ∃ σ', CXAt X pins σ' (E σ') e s') s
section
variable {X : Cx} {k : Nat} {f C : Addr} {fd : FuncData} {ps : List Str} {sp : Sp} {dvs : List V} {ds : List Value} {x m : Str} {p pos apos : Pos} {e o : Expr} {es : List Expr} {ta : TE} {t : TA}
theorem PA.nox {es : List Expr} {t : TA} (h : PA X.nox es t) (E : Value → Shared → Prop) {pos : Pos} {pins : List (Addr × Obj)} {s : Shared} {σ : St} {H : Hp} {Q : List V → Hp → Prop} (I : Inv X pins σ H s) (q : t σ H Q) :
   wpAny (model X.prog X.w) X.A (spliced (backTo pos (starEach es X.env))) (AP X pins σ Q) E s :=
 wpAny_mono (h pos pins s σ H Q (I.wish _) q) (fun _ _ ⟨vs, H', I', r, q⟩ => ⟨vs, H', I'.unwish, r, q⟩) fun _ _ z => False.elim z
theorem run_fnx {pins : List (Addr × Obj)} {σ : St} {H : Hp} {s : Shared} {Q : VK} {E : XK} {us : List Value} {vs : List V} (F : FnOk X.prog X.w X.K X.mg X.base (CXW X.prog X.w) k f fd ps sp) (hr : Room k X.A) (hb : Binds X.K fd ps ds) (hd : Vals dvs ds)
   (I : Inv X pins σ H s) (r : Vals vs us) (h : sp (vs ++ dvs) H Q E) : wpAny (model X.prog X.w) X.A (call (.ref f) us) (EP X pins σ Q) (CXAt X pins σ E) s := by
 have r2 : Vals (vs ++ dvs) (us ++ ds) := r.append hd
 have hl : (us ++ ds).length = ps.length := by rw [← r2.length]; exact F.len _ _ _ _ h
 refine wpAny_call (codeAny_mono (F.run X.A X.stack s H ⟨us, []⟩ (us ++ ds) (vs ++ dvs) Q E hr I.env0 (hb s us I.kIn hl) r2 h) fun r s' hq => ?_)
 cases r with
 | error e => exact ⟨H, s, I, hq⟩
 | ok fl =>
   cases fl with
   | ret u => exact I.after hq
   | next => exact False.elim hq
   | brk => exact False.elim hq
   | cont => exact False.elim hq
def tCallX (sp : Sp) (dvs : List V) (t : TA) : TEx := fun σ H Q E => t σ H fun vs H1 => sp (vs ++ dvs) H1 Q E
theorem pex_call (F : FnOk X.prog X.w X.K X.mg X.base (CXW X.prog X.w) k f fd ps sp) (hr : Room k X.A) (hg : Gl X x) (hm : X.mg x = some (.ref f)) (hk : PySem.W.keepIn X.K (.ref f) = true) (hb : Binds X.K fd ps ds) (hd : Vals dvs ds)
   (ha : PA X.nox (e :: es) t) (hdb : (x == ("__debug__" : Str)) = false := by decide) (he : starEach (e :: es) X.env = (false, eval e X.env) :: starEach es X.env := by rfl) (hpl : (backTo pos (starEach es X.env)).any (·.1) = false := by rfl) :
   PEx X (.Call (.Name x p) (e :: es) [] pos) (tCallX sp dvs t) := by
 intro pins s σ H Q E I h
 refine wpAny_Call_Name_kw (ld_glob I hg hm ?_ hdb)
 refine PySem.W.callWith_K (h₀ := X.base) I.ok.mod.kin hk (wpAny_mono (ha.nox (CXAt X pins σ E) I h) (fun us s1 ⟨vs, H1, I1, r, q⟩ => ⟨I1.kIn, ?_⟩) fun _ _ z => z) he hpl
 exact run_fnx F hr hb hd I1 r q
def tRetX (te : TEx) : TSx := fun D E σ H => te σ H D.rt (E σ)
theorem psx_ret {te : TEx} (he : PEx X e te) : PSx X (.Return (some e) pos) (tRetX te) := by
 intro pins s σ H D E I h
 exact wpAny_Return_some (wpAny_mono (he pins s σ H _ _ I h) (fun v s1 ⟨x, H1, I1, r1, q1⟩ => ⟨x, σ, H1, I1, r1, q1⟩) fun e s' z => ⟨σ, z⟩)
theorem psx_one {st : Stmt} {t : TSx} (h1 : PSx X st t) : PSsx X [st] t := by
 intro pins s σ H D E I h
 refine wpAny_execs_cons (wpAny_mono (h1 pins s σ H D E I h) (fun f s1 q => ?_) fun _ _ z => z)
 cases f with
 | next => exact wpAny_execs_nil q
 | ret v => exact q
 | brk => exact q
 | cont => exact q
end
def hcx (X : Cx) (e : Addr) : Cx := { X with A := X.A.mark (some (.ref e)), calm := false, xe := fun _ _ => False }
theorem hcx_in {X : Cx} {e : Addr} {pins : List (Addr × Obj)} {σ : St} {H : Hp} {s : Shared} (I : Inv X pins σ H s) : Inv (hcx X e) pins σ H s := by
 obtain ⟨ok, os, bare, bs, loc, cell, free, freeC, pin, hok, len⟩ := I
 exact ⟨⟨ok.mod, ok.kind, ok.glob, ok.blt, ok.above, ok.inj, ok.has, ok.cab, fun z => Bool.noConfusion (show false = true from z), ok.frames, ok.stk, ok.exf, ok.bs, ok.bsz, ok.noex, ok.exfs, ok.funs, ok.frf⟩, os, bare, bs, loc, cell, free, freeC, pin, hok, len⟩
theorem hcx_out {X : Cx} {e : Addr} (ok : X.Ok) {pins : List (Addr × Obj)} {σ : St} {H : Hp} {s : Shared} (I : Inv (hcx X e) pins σ H s) : Inv X pins σ H s := by
 obtain ⟨_, os, bare, bs, loc, cell, free, freeC, pin, hok, len⟩ := I
 exact ⟨ok, os, bare, bs, loc, cell, free, freeC, pin, hok, len⟩
theorem hcx_sp {X : Cx} {e : Addr} (ok : X.Ok) {pins : List (Addr × Obj)} {D : Ends} {f : Flow} {s : Shared} (h : SP (hcx X e) pins D f s) : SP X pins D f s := by
 cases f with
 | next => obtain ⟨σ', H', I, q⟩ := h; exact ⟨σ', H', hcx_out ok I, q⟩
 | brk => obtain ⟨σ', H', I, q⟩ := h; exact ⟨σ', H', hcx_out ok I, q⟩
 | cont => obtain ⟨σ', H', I, q⟩ := h; exact ⟨σ', H', hcx_out ok I, q⟩
 | ret u => obtain ⟨v, σ', H', I, r, q⟩ := h; exact ⟨v, σ', H', hcx_out ok I, r, q⟩
section
variable {X : Cx} {body suite : List Stmt} {b₀ : Stmt} {x : Str} {C : Addr} {np hpos pos : Pos} {tb : TSx} {th : TS}
def tTry (K : PySem.W.Frag) (C : Addr) (tb : TSx) (th : TS) : TS := fun D σ H => tb D (fun σ' cls _ H' => PySem.W.exmOne K cls (.ref C) = some true ∧ th D σ' H') σ H
theorem ps_try (hst : X.stack = X.env :: X.outer) (hfr : X.env.frame = some X.env.locals) (hb : PSsx X body tb) (hg : Gl X x) (hm : X.mg x = some (.ref C)) (hh : ∀ ea, PSs (hcx X ea) (b₀ :: suite) th) (hd : (x == ("__debug__" : Str)) = false := by decide) :
   PS X (.Try body [.ExceptHandler (some (.Name x np)) none (b₀ :: suite) hpos] [] [] pos) (tTry X.K C tb th) := by
 intro pins s σ H D I h
 refine wpAny_Try_except (wpAny_mono (hb pins s σ H D _ I h) (fun f s1 q => ?_) fun e s1 q => ?_)
 · cases f with
   | next => exact wpAny_execs_nil q
   | ret v => exact q
   | brk => exact q
   | cont => exact q
 · obtain ⟨σ', H1, s2, I1, ea, t, cls, H', B, rfl, fl, os, bare, hok, xu, hx, q⟩ := q
   rw [hst] at fl
   have back : ∀ (h' : Heap) (tk : Nat), B.StaysIn h' → h'.FunFrames B X.stack → XUn X.stack H1 H' s2.heap B h' → Inv X pins σ' H' { s1 with heap := h', toks := tk } := fun h' tk st fr xu' =>
     I1.call' (ch := []) os (xu'.un st fr) (hok.kept st) bare fun b z => nomatch z
   have fr0 : s1.heap.FunFrames B X.stack := by rw [hst]; exact fl.2.2.1
   refine wpAny_looks_onW (by rw [I.ok.frames, hst]) hfr fl fun h4 held4 up4 => ?_
   have x4 := xu.step fr0 up4
   refine wpAny_landsW held4 fun h5 fl5 up5 => ?_
   have fr4 : h4.FunFrames B X.stack := by rw [hst]; exact held4.2.2.1
   have x5 := x4.step fr4 up5
   have fr5 : h5.FunFrames B X.stack := by rw [hst]; exact fl5.2.2.1
   have I5 : Inv X pins σ' H' { s1 with heap := h5 } := back h5 s1.toks fl5.1 fr5 x5
   obtain ⟨ob, hob, hobc⟩ := fl5.there
   have LT : Looks (model X.prog X.w) h5 (typeOf (.ref ea)) cls := hobc ▸ (Looks.ld hob).andThen .now
   refine wpAny_handleBy_cons (codeAny_handlers_test ?_) (by intro z; cases z)
   have ld := fun Q E q => ld_glob (X := hcx X ea) (pos := np) (Q := Q) (E := E) (hcx_in I5) hg hm q hd
   refine ld _ _ ?_
   refine (exm_one (M := model X.prog X.w) I5.kIn LT hx).here ?_
   refine codeAny_handlers_suite ?_
   refine lands_againW fl5 fun h6 fl6 up6 => ?_
   have x6 := x5.step fr5 up6
   have fr6 : h6.FunFrames B X.stack := by rw [hst]; exact fl6.2.2.1
   have I6 : Inv X pins σ' H' { s1 with heap := h6 } := back h6 s1.toks fl6.1 fr6 x6
   exact wpAny_mono (hh ea pins _ σ' H' D (hcx_in I6) q) (fun f s7 q7 => hcx_sp I.ok q7) fun _ _ z => (show False from z).elim
end
end L2
namespace L2
open PySem PySem.Spec PyProof.Rows PySem.Calls PySem.W
section
variable {X : Cx} {pins : List (Addr × Obj)} {σ : St} {H : Hp} {s : Shared}
theorem Inv.trackN {a : Addr} {o : HO} (I : Inv X pins σ H s) (f0 : H a = none) (old : ∀ b ob, X.s₀.heap.get? b = some ob → b ≠ a) (f1 : X.env.locals ≠ a) (f4 : ∀ x c, X.env.cells.lookup x = some c → c ≠ a) (f5 : ∀ p ∈ X.pn ++ pins, p.1 ≠ a)
   (new : ObjOk X.prog X.w (upd H a o) s.heap a o) : Inv X pins σ (upd H a o) s := by
 refine ⟨I.ok, I.os, I.bare, ⟨I.base.keep, I.base.slot, fun b ob e n hx => ?_, I.base.there, fun b xs e => ?_, fun b ob u e => ?_, fun b ps e => ?_⟩, I.loc, I.cell, ?_, fun x c e => ?_, fun p hp => ?_, fun b u e => ?_, I.len⟩
 · rw [zO (old b ob e)]; exact I.base.free b ob e n hx
 · have q := I.base.tups b xs e; rw [zO (ne_of_none q f0)]; exact q
 · have q := I.base.frzs b ob u e; rw [zO (ne_of_none q f0)]; exact q
 · obtain ⟨more, q⟩ := I.base.tbls b ps e; exact ⟨more, by rw [zO (ne_of_none q f0)]; exact q⟩
 · rw [zO f1]; exact I.free
 · rw [zO (f4 x c e)]; exact I.freeC x c e
 · obtain ⟨e, n, ne, nf, d⟩ := I.pin p hp
   exact ⟨e, by rw [zO (f5 p hp)]; exact n, ne, nf, d⟩
 · by_cases hb : b = a
   · subst hb; rw [zE] at e; cases e; exact new
   · rw [zO hb] at e
     exact (I.hok b u e).stay (fun c v _ q => q) (fun c q => by rw [zO (ne_of_none q f0)]; exact q) fun c xs q => by rw [zO (ne_of_none q f0)]; exact q
theorem name_gone {M : Model} {A : Around} {E : Value → Shared → Prop} {j : Nat} {n : Str} {pos : Pos} {Q : Unit → Shared → Prop} (I : Inv X pins σ H s) (hN : X.N.Nodup) (hj : X.N[j]? = some n) (hl : X.env.scope.names.lookup n = some .local)
   (h : ∀ s', Inv X pins (σ.set j none) H s' → Q () s') : wpAny M A (do bindName X.env n .none; unbindBehindTheSuite X.env n pos) Q E s := by
 obtain ⟨m, hn, lo⟩ := id I.loc
 have hjσ : j < σ.length := by rw [I.len]; exact (List.getElem?_eq_some_iff.mp hj).1
 refine wpAny_nameGoes_keeps hl hn (by rw [I.ok.kind]; rfl) fun h' v hn' sb => h _ ?_
 have cne := I.cne
 have ltL : ∀ b o, X.s₀.heap.get? b = some o → b ≠ X.env.locals := fun b o e => Nat.ne_of_lt (Nat.lt_of_lt_of_le (Heap.lt_size e) I.ok.above)
 refine ⟨I.ok, I.os, I.bare, ⟨fun b o e n hb hx => ?_, fun b o e n hb hx => ?_, I.base.free, fun b o e hx => ?_, I.base.tups, I.base.frzs, I.base.tbls⟩, ⟨_, hn', fun i y v' e1 e2 e3 => ?_⟩, fun y c e => ?_, I.free, I.freeC, fun p hp => ?_, fun b ob e => ?_, ?_⟩
 · exact (sb.2 b (ltL b o e)).trans (I.base.keep b o e n hb hx)
 · obtain ⟨sl, q⟩ := I.base.slot b o e n hb hx
   exact ⟨sl, (sb.2 b (ltL b o e)).trans q⟩
 · obtain ⟨o', q⟩ := I.base.there b o e hx
   exact ⟨o', (sb.2 b (ltL b o e)).trans q⟩
 · by_cases hij : i = j
   · subst hij
     rw [List.getElem?_set_self hjσ] at e2
     cases e2
   · rw [List.getElem?_set_ne (Ne.symm hij)] at e2
     obtain ⟨u', r', q⟩ := lo i y v' e1 e2 e3
     refine ⟨u', r', ?_⟩
     rcases q with ⟨k, e⟩ | ⟨k, c, e, z⟩
     · refine .inl ⟨k, ?_⟩
       have hy : y ≠ n := fun e => hij (nodup_ix hN e1 (e ▸ hj))
       simp [hy, e]
     · exact .inr ⟨k, c, e, z.sameBut sb (cne y c e)⟩
 · obtain ⟨w', z⟩ := I.cell y c e
   exact ⟨w', z.sameBut sb (cne y c e)⟩
 · obtain ⟨e, n, ne, nf, d⟩ := I.pin p hp
   exact ⟨(sb.2 p.1 ne).trans e, n, ne, nf, d⟩
 · refine (I.hok b ob e).stay (fun c w' hc q => (sb.2 c ?_).trans q) (fun _ q => q) fun _ _ q => q
   rintro rfl
   rcases hc with z | z
   · rw [← z, I.free] at e; cases e
   · rw [I.free] at z; cases z
 · rw [List.length_set]; exact I.len
end
section
variable {X : Cx} {body suite : List Stmt} {b₀ : Stmt} {x n : Str} {C : Addr} {np hpos pos : Pos} {tb : TSx} {th : TS} {j : Nat}
def endsAs (D : Ends) (j : Nat) : Ends := { nx := fun σ H => D.nx (σ.set j none) H, rt := D.rt, bk := fun σ H => D.bk (σ.set j none) H, ct := fun σ H => D.ct (σ.set j none) H }
def tTryAs (K : PySem.W.Frag) (C : Addr) (j : Nat) (tb : TSx) (th : TS) : TS := fun D σ H => tb D (fun σ' cls _ H' => ∃ G : Addr, cls = .ref G ∧ PySem.W.exmOne K cls (.ref C) = some true ∧ ∀ ea, H' ea = none → th (endsAs D j) (σ'.set j (some (.ref ea))) (upd H' ea (excO ea G))) σ H
theorem ps_tryAs (hN : X.N.Nodup) (hj : X.N[j]? = some n) (hl : X.env.scope.names.lookup n = some .local) (hex : X.ex = []) (hst : X.stack = X.env :: X.outer) (hfr : X.env.frame = some X.env.locals) (hb : PSsx X body tb) (hg : Gl X x) (hm : X.mg x = some (.ref C))
   (hh : ∀ ea, PSs (hcx X ea) (b₀ :: suite) th) (hd : (x == ("__debug__" : Str)) = false := by decide) :
   PS X (.Try body [.ExceptHandler (some (.Name x np)) (some n) (b₀ :: suite) hpos] [] [] pos) (tTryAs X.K C j tb th) := by
 intro pins s σ H D I h
 refine wpAny_Try_except (wpAny_mono (hb pins s σ H D _ I h) (fun f s1 q => ?_) fun e s1 q => ?_)
 · cases f with
   | next => exact wpAny_execs_nil q
   | ret v => exact q
   | brk => exact q
   | cont => exact q
 · obtain ⟨σ', H1, s2, I1, ea, t, cls, H', B, rfl, fl, os, bare, hok, xu, G, rfl, hx, q⟩ := q
   rw [hst] at fl
   have back : ∀ (h' : Heap) (tk : Nat), B.StaysIn h' → h'.FunFrames B X.stack → XUn X.stack H1 H' s2.heap B h' → Inv X pins σ' H' { s1 with heap := h', toks := tk } := fun h' tk st fr xu' =>
     I1.call' (ch := []) os (xu'.un st fr) (hok.kept st) bare fun b z => nomatch z
   have fr0 : s1.heap.FunFrames B X.stack := by rw [hst]; exact fl.2.2.1
   refine wpAny_looks_onW (by rw [I.ok.frames, hst]) hfr fl fun h4 held4 up4 => ?_
   have x4 := xu.step fr0 up4
   refine wpAny_landsW held4 fun h5 fl5 up5 => ?_
   have fr4 : h4.FunFrames B X.stack := by rw [hst]; exact held4.2.2.1
   have x5 := x4.step fr4 up5
   have fr5 : h5.FunFrames B X.stack := by rw [hst]; exact fl5.2.2.1
   have I5 : Inv X pins σ' H' { s1 with heap := h5 } := back h5 s1.toks fl5.1 fr5 x5
   obtain ⟨ob, hob, hobc⟩ := fl5.there
   have LT : Looks (model X.prog X.w) h5 (typeOf (.ref ea)) (.ref G) := hobc ▸ (Looks.ld hob).andThen .now
   refine wpAny_handleBy_cons (codeAny_handlers_test ?_) (by intro z; cases z)
   have ld := fun Q E q => ld_glob (X := hcx X ea) (pos := np) (Q := Q) (E := E) (hcx_in I5) hg hm q hd
   refine ld _ _ ?_
   refine (exm_one (M := model X.prog X.w) I5.kIn LT hx).here ?_
   refine codeAny_handlers_suite_as ?_
   refine lands_againW fl5 fun h6 fl6 up6 => ?_
   have x6 := x5.step fr5 up6
   have fr6 : h6.FunFrames B X.stack := by rw [hst]; exact fl6.2.2.1
   have I6 : Inv X pins σ' H' { s1 with heap := h6 } := back h6 s1.toks fl6.1 fr6 x6
   obtain ⟨oe, vs, eoe, coe, doe, _⟩ := fl6.first
   have nee : ∀ b o, s2.heap.get? b = some o → b ≠ ea := fun b o e z => by
     subst z
     by_cases hbf : b ∈ frs X.stack
     · obtain ⟨_, o', ho', hd'⟩ := fr6.mem hbf
       rw [eoe] at ho'; cases ho'
       exact hd' vs doe
     · obtain ⟨o', q'⟩ := xu.thereB b o e hbf
       rw [fl6.2.1] at q'; cases q'
   have fe : H' ea = none := by
     cases z : H' ea with
     | none => rfl
     | some u =>
       have lt := hok ea u z
       exact absurd lt fun lt => by
         have q' : ∃ o, B.get? ea = some o := by
           cases u with
           | lst xs => obtain ⟨_, _, _, _, e⟩ := lt; exact ⟨_, e⟩
           | tup xs => obtain ⟨_, _, _, o, e, _⟩ := lt; exact ⟨_, e⟩
           | dK kvs => obtain ⟨_, _, _, _, o, _, _, e, _⟩ := lt; exact ⟨_, e⟩
           | dT kvs => obtain ⟨_, _, _, _, o, _, _, e, _⟩ := lt; exact ⟨_, e⟩
           | set S n => obtain ⟨o, _, _, _, e, _⟩ := lt; exact ⟨_, e⟩
           | ins C dx fs => obtain ⟨_, _, _, e, _⟩ := lt; exact ⟨_, e⟩
           | own y => exact lt
           | xd fs => obtain ⟨_, ⟨o, _, _, e, _⟩, _⟩ := lt; exact ⟨_, e⟩
           | rng lo hi => obtain ⟨_, _, _, e⟩ := lt; exact ⟨_, e⟩
           | frz o u => exact ⟨_, lt.1⟩
           | tbl ps => exact ⟨_, lt⟩
           | met f y => exact ⟨_, lt⟩
           | ext φ => exact lt.2.1
         obtain ⟨o, q'⟩ := q'
         rw [fl6.2.1] at q'; cases q'
   have I7 : Inv X pins σ' (upd H' ea (excO ea G)) { s1 with heap := h6 } := by
     refine I6.trackN fe (fun b ob' e z => ?_) (fun z => ?_) (fun y c e z => ?_) (fun p hp z => ?_) ⟨⟨oe, eoe, coe⟩, ⟨oe, eoe⟩, fun h1 h2 ⟨o, e, c⟩ k => ⟨o, k o e, c⟩⟩
     · obtain ⟨o', e'⟩ := I1.base.there b ob' e (by rw [hex]; exact fun z => nomatch z)
       exact nee b o' e' z
     · obtain ⟨m, ⟨o, _, _, e, _⟩, _⟩ := I1.loc
       exact nee _ o e z
     · obtain ⟨v, o, e', _⟩ := I1.cell y c e
       exact nee c o e' z
     · exact nee p.1 p.2 (I1.pin p hp).1 z
   refine store_ok (X := hcx X ea) (v := .ref ea) (hcx_in I7) hN hj (.inl hl) rfl (fun s8 I8 => ?_) (.inr hl)
   refine wpAny_mono (hh ea pins s8 _ _ (endsAs D j) I8 (q ea fe)) (fun f s9 q9 => ?_) fun _ _ z => (show False from z).elim
   have q9 := hcx_sp I.ok q9
   cases f with
   | next => obtain ⟨σ9, H9, I9, q9⟩ := q9; exact name_gone I9 hN hj hl fun s' I' => ⟨_, H9, I', q9⟩
   | brk => obtain ⟨σ9, H9, I9, q9⟩ := q9; exact name_gone I9 hN hj hl fun s' I' => ⟨_, H9, I', q9⟩
   | cont => obtain ⟨σ9, H9, I9, q9⟩ := q9; exact name_gone I9 hN hj hl fun s' I' => ⟨_, H9, I', q9⟩
   | ret u => obtain ⟨v, σ9, H9, I9, r9, q9⟩ := q9; exact name_gone I9 hN hj hl fun s' I' => ⟨v, _, H9, I', r9, q9⟩
end
end L2
namespace L2
open PySem PySem.Spec PyProof.Rows PySem.Calls
section
variable {X : Cx}
theorem mt_startswith : MtM X "str.startswith" (fun x vs H Q => ∃ z y, x = .str z ∧ vs = [.str y] ∧ Q (.bl (Txt.startswith z y)) H) := by
 intro pins s σ H x vs v us Q I rx rv h
 obtain ⟨z, y, rfl, rfl, q⟩ := h
 obtain ⟨t, rfl⟩ := rx
 obtain ⟨u, rfl, t', rfl⟩ := rv.one
 exact SC.startswith ⟨.bl _, H, I, rfl, q⟩
theorem mt_find : MtM X "str.find" (fun x vs H Q => ∃ z y, x = .str z ∧ vs = [.str y] ∧ Q (.int (Txt.find z y)) H) := by
 intro pins s σ H x vs v us Q I rx rv h
 obtain ⟨z, y, rfl, rfl, q⟩ := h
 obtain ⟨t, rfl⟩ := rx
 obtain ⟨u, rfl, t', rfl⟩ := rv.one
 exact SC.find ⟨.int _, H, I.tok _, ⟨_, rfl⟩, q⟩
theorem mt_strip : MtM X "str.strip" (fun x vs H Q => ∃ z y, x = .str z ∧ vs = [.str y] ∧ z.length ≤ sizeLine ∧ Q (.str (Txt.stripChars z y)) H) := by
 intro pins s σ H x vs v us Q I rx rv h
 obtain ⟨z, y, rfl, rfl, hz, q⟩ := h
 obtain ⟨t, rfl⟩ := rx
 obtain ⟨u, rfl, t', rfl⟩ := rv.one
 exact SC.stripChars (fun t' k => ⟨.str _, H, I.tok _, ⟨_, rfl⟩, q⟩) hz
theorem mt_zfill : MtM X "str.zfill" (fun x vs H Q => ∃ z i, x = .str z ∧ vs = [.int i] ∧ PadOk i = true ∧ Q (.str (Txt.zfill z i)) H) := by
 intro pins s σ H x vs v us Q I rx rv h
 obtain ⟨z, i, rfl, rfl, hz, q⟩ := h
 obtain ⟨t, rfl⟩ := rx
 obtain ⟨u, rfl, t', rfl⟩ := rv.one
 exact SC.zfill hz (fun t' k => ⟨.str _, H, I.tok _, ⟨_, rfl⟩, q⟩)
theorem pe_fstrR {c : Str} {j : Nat} {e : Expr} {te : TE} {p1 p2 pos : Pos} (he : PE X e te) (hc : c.length ≤ 1000 := by symm) :
   PE X (.JoinedStr [.Constant (.str c) j p1, .FormattedValue e 114 none p2] pos) (fun σ H Q => te σ H fun x H1 => ∃ z, x = .str z ∧ z.length ≤ 100000 ∧ (∀ k ∈ cd z, k < 1000) ∧ ∀ y, Q (.str y) H1) := by
 intro pins s σ H Q I h
 have l0 : (Str.empty ++ c).length = c.length := by rw [strLen_append]; exact Nat.zero_add _
 refine JoinedStr_many (joinParts_cons (Calls.Constant_str ⟨?_, ?_⟩))
 · rw [l0, sizeLine_eq]; omega
 · refine joinParts_cons (wpAny_FormattedValue_repr (thn (he pins _ σ H _ (I.tok _) h) fun v s1 ⟨x, H1, I1, r, z, ex, hz, hk, q⟩ => ?_))
   subst ex
   obtain ⟨t, rfl⟩ := r
   have hl : (reprText z).length ≤ 1000002 := Nat.le_trans (StrLaws.reprText_len z fun c hc => Nat.lt_of_lt_of_le (hk c hc) (by decide)) (by omega)
   refine wpAny_pyReprObj_str (formatField_str (fun t' tk => ⟨?_, joinParts_nil ⟨.str _, H1, I1.tok _, ⟨_, rfl⟩, q _⟩ ?_⟩) ?_) ?_
   · rw [strLen_append, l0, sizeLine_eq]; omega
   · rw [strLen_append, l0, sizeLine_eq]; omega
   · rw [sizeLine_eq]; omega
   · rw [sizeLine_eq]; omega
end
end L2
namespace L2
open PySem PySem.Spec PyProof.Rows PySem.Calls
structure FunD (K : PySem.W.Frag) (x qual : Str) (st : Stmt) (ds : List Value) (f : Addr) (fd : FuncData) : Prop where
 ex : ∃ (T : Addr) (oc : Value) (od : Option Addr) (kV doc pm : Value) (an : Option Addr) (cdv ct : Value) (osl : Array (Option Value)) (to : Obj) (n : Nat),
   fd = PySem.W.fnOf x qual (defArgs st) (defBody st) (defScope st) (.ref T) kV doc pm an cdv ct ∧ K.lookup f = some ⟨oc, od, .func fd, osl⟩ ∧ PySem.W.codeIn K cdv qual = true ∧ K.lookup T = some to ∧ to.cls = .type "tuple" ∧ to.data = .seq ds.toArray n
 kp : PySem.W.keepIn K (.ref f) = true
section
variable {P : Program} {w : World} {K : PySem.W.Frag} {mg : Str → Option Value} {base : Heap} {x qual : Str} {st : Stmt} {f : Addr} {fd : FuncData} {N ps : List Str} {k : Nat} {sp : Sp} {ds : List Value}
theorem FunD.okX (F : FunD K x qual st ds f fd) (S : FnScope N ps (defScope st)) (len : ∀ vs H Q E, sp vs H Q E → vs.length = ps.length)
   (hbody : ∀ (cdv : Value) (A : Around) (outer : List Env) (s : Shared) (H : Hp) (vs : List V) (Q : VK) (E : XK), Room k (A.deeper (envOfC qual (defScope st) s.heap.objs.size f cdv)) → sp vs H Q E →
     ∃ t, PSs (cxOf (CXW P w) P w K mg base N qual (defScope st) f cdv A outer s H E) (defBody st) t ∧ t { nx := fun _ H' => Q .non H', rt := Q } (start N vs) H) : FnOk P w K mg base (CXW P w) (k + 1) f fd ps sp := by
 obtain ⟨T, oc, od, kV, doc, pm, an, cdv, ct, osl, to, n, rfl, lk, hcd, _⟩ := F.ex
 exact fn_of lk hcd S len fun A outer s H vs Q E hr hsp => hbody cdv A outer s H vs Q E hr hsp
theorem FunD.ok (F : FunD K x qual st ds f fd) (S : FnScope N ps (defScope st)) (len : ∀ vs H Q E, sp vs H Q E → vs.length = ps.length)
   (hbody : ∀ (cdv : Value) (A : Around) (outer : List Env) (s : Shared) (H : Hp) (vs : List V) (Q : VK) (E : XK), Room k (A.deeper (envOfC qual (defScope st) s.heap.objs.size f cdv)) → sp vs H Q E →
     ∃ t, PSs (cxOf CX0 P w K mg base N qual (defScope st) f cdv A outer s H E).nox (defBody st) t ∧ t { nx := fun _ H' => Q .non H', rt := Q } (start N vs) H) : FnOk P w K mg base CX0 (k + 1) f fd ps sp := by
 obtain ⟨T, oc, od, kV, doc, pm, an, cdv, ct, osl, to, n, rfl, lk, hcd, _⟩ := F.ex
 refine fn_of lk hcd S len fun A outer s H vs Q E hr hsp => ?_
 obtain ⟨t, h, q⟩ := hbody cdv A outer s H vs Q E hr hsp
 exact ⟨t, h.nox, q⟩
theorem FunD.binds {es : List Value} (F : FunD K x qual st ds f fd)
   (h : ∀ (T : Addr) (kV doc pm : Value) (an : Option Addr) (cdv ct : Value) (us : List Value) (M : Model) (A : Around) (E : Value → Shared → Prop) (Q : List (Str × Value) → Shared → Prop) (s : Shared) (to : Obj) (n : Nat), s.heap.get? T = some to → to.cls = .type "tuple" → to.data = .seq ds.toArray n →
     (us ++ es).length = ps.length → Q (ps.zip (us ++ es)) s → wpAny M A (bindArgs (PySem.W.fnOf x qual (defArgs st) (defBody st) (defScope st) (.ref T) kV doc pm an cdv ct) ⟨us, []⟩) Q E s) : Binds K fd ps es := by
 obtain ⟨T, oc, od, kV, doc, pm, an, cdv, ct, osl, to, n, rfl, lk, hcd, lt, tc, td⟩ := F.ex
 intro s us X hl M A E Q q
 exact h T kV doc pm an cdv ct us M A E Q s to n (X _ _ lt) tc td hl q
end
section
variable {K : PySem.W.Frag} {C D : Addr} {cd : ClassData} {r b : Bool} {T : String}
theorem kit_self : PySem.W.kitOne K (.ref D) (.ref D) = some true := by unfold PySem.W.kitOne; rw [if_pos (beq_self_eq_true _)]
theorem kitCls_ref (h1 : PySem.W.clsIn K C = some cd) (h2 : PySem.W.typeIn K (.ref C) = some (.type "type")) (h3 : PySem.W.mroIn K D (.ref C) = some r) : PySem.W.kitCls K (.ref D) (.ref C) = some r := by
 show (if ((PySem.W.clsIn K C).isSome && PySem.W.typeIn K (.ref C) == some (.type "type")) = true then PySem.W.mroIn K D (.ref C) else none) = some r
 rw [h1, h2, h3]; rfl
theorem kit_ref (h1 : PySem.W.clsIn K C = some cd) (h2 : PySem.W.typeIn K (.ref C) = some (.type "type")) (h3 : PySem.W.mroIn K D (.ref C) = some r) (hne : (Value.ref D == Value.ref C) = false) : PySem.W.kitOne K (.ref D) (.ref C) = some r := by
 unfold PySem.W.kitOne
 rw [if_neg (by rw [hne]; decide)]
 exact kitCls_ref h1 h2 h3
theorem kit_rty (hm : PySem.W.kitMeta T = true) (h3 : PySem.W.mroIn K D (.type T) = some r) : PySem.W.kitOne K (.ref D) (.type T) = some r := by
 unfold PySem.W.kitOne
 rw [if_neg (by intro z; cases beq_iff_eq.mp z)]
 show (if PySem.W.kitMeta T = true then PySem.W.mroIn K D (.type T) else none) = some r
 rw [if_pos hm]; exact h3
theorem exm_ref (h0 : PySem.W.subIn K (.ref C) (.type "BaseException") = some true) (h1 : PySem.W.clsIn K C = some cd) (h2 : PySem.W.typeIn K (.ref C) = some (.type "type")) (h3 : PySem.W.mroIn K D (.ref C) = some r) : PySem.W.exmOne K (.ref D) (.ref C) = some r := by
 unfold PySem.W.exmOne
 rw [h0, if_pos (by rfl)]
 exact kitCls_ref h1 h2 h3
theorem kitAny_no {t c : Value} {l : List Value} (h : PySem.W.kitOne K t c = some false) (hr : PySem.W.kitAny K t l = some b) : PySem.W.kitAny K t (c :: l) = some b := by
 unfold PySem.W.kitAny
 rw [h]; exact hr
theorem kitAny_nil {t : Value} : PySem.W.kitAny K t [] = some false := rfl
theorem excCls_mk (ga : PySem.W.findIn K (.ref D) "__getattribute__" = some (some (.builtin "BaseException.__getattribute__"))) (gk : PySem.W.findIn K (.ref D) "__getattr__" = some none) (cl : PySem.W.clsIn K D = some cd) (ha : PySem.W.findIn K (.ref D) "__class__" = some (some (.builtin "object.__class__")))
   (hn : PySem.W.specialIn K (.builtin "object.__class__") "__get__" = some (some (.builtin "getset_descriptor.__get__"))) (tk : PySem.W.takesIn K (.builtin "object.__class__") = some true) (mo : PySem.W.mroIn K D (.type "object") = some true) (mb : PySem.W.mroIn K D (.type "BaseException") = some true) : ExcCls K D :=
 ⟨ga, gk, by rw [cl]; rfl, ha, hn, tk, mo, mb⟩
theorem app_len {α : Type} {us ds : List α} {n m : Nat} (h : (us ++ ds).length = n) (hm : ds.length + m = n) : us.length = m := by rw [List.length_append] at h; omega
theorem funD_mk {x qual : Str} {st : Stmt} {f T : Addr} {oc : Value} {od an dd : Option Addr} {osl dsl : Array (Option Value)} {kV doc pm cdv ct : Value} {ds : List Value} {n : Nat} (l : K.lookup f = some ⟨oc, od, .func (PySem.W.fnOf x qual (defArgs st) (defBody st) (defScope st) (.ref T) kV doc pm an cdv ct), osl⟩)
   (c : PySem.W.codeIn K cdv qual = true) (k : PySem.W.keepIn K (.ref f) = true) (lt : K.lookup T = some ⟨.type "tuple", dd, .seq ds.toArray n, dsl⟩) : FunD K x qual st ds f (PySem.W.fnOf x qual (defArgs st) (defBody st) (defScope st) (.ref T) kV doc pm an cdv ct) :=
 ⟨⟨T, oc, od, kV, doc, pm, an, cdv, ct, osl, _, n, rfl, l, c, lt, rfl, rfl⟩, k⟩
end
end L2
namespace L2
theorem Bt.ValueError : PySem.bootBuiltins "ValueError" = some (.type "ValueError") := PyProof.Rows.Boot.«ValueError»
open PySem PySem.Spec PyProof.Rows
def FIG : Str := "0123456789"
def inF (c : Nat) : Bool := !(Builtin.Str.occurrences FIG (S [c]) 0 FIG.length 1).isEmpty
theorem inF_iff (c : Nat) : inF c = true ↔ 48 ≤ c ∧ c ≤ 57 := by
 have h : inF c = decide (c ∈ FIG.cps.toList) := StrLaws.found_one FIG c
 have e : FIG.cps.toList = [48, 49, 50, 51, 52, 53, 54, 55, 56, 57] := by symm
 rw [h, e, decide_eq_true_iff]
 simp only [List.mem_cons, List.not_mem_nil, or_false]
 omega
theorem occF {c : Nat} (h : inF c = true) : Builtin.Str.occurrences FIG (S [c]) 0 FIG.length 1 = [c - 48] := by
 obtain ⟨h1, h2⟩ := (inF_iff c).mp h
 have : c = 48 ∨ c = 49 ∨ c = 50 ∨ c = 51 ∨ c = 52 ∨ c = 53 ∨ c = 54 ∨ c = 55 ∨ c = 56 ∨ c = 57 := by omega
 rcases this with e | e | e | e | e | e | e | e | e | e <;> (subst e; decide +kernel)
theorem findF {c : Nat} (h : inF c = true) : Txt.find FIG (S [c]) = ((c - 48 : Nat) : Int) := by
 unfold Txt.find
 rw [occF h]
def val (l : List Nat) : Int := l.foldl (fun a c => a * 10 + ((c - 48 : Nat) : Int)) 0
theorem val_snoc (l : List Nat) (c : Nat) : val (l ++ [c]) = val l * 10 + ((c - 48 : Nat) : Int) := by unfold val; rw [List.foldl_append]; rfl
theorem val_take {l : List Nat} {i c : Nat} (h : l[i]? = some c) : val (l.take (i + 1)) = val (l.take i) * 10 + ((c - 48 : Nat) : Int) := by
 rw [List.take_succ, h]; exact val_snoc _ _
theorem val_bound : ∀ (n : Nat) (l : List Nat), l.length = n → l.all inF = true → 0 ≤ val l ∧ val l < 10 ^ n
 | 0, l, e, _ => by rw [List.eq_nil_of_length_eq_zero e]; exact ⟨by decide, by decide⟩
 | n + 1, l, e, h => by
   have hne : l ≠ [] := fun z => by rw [z] at e; cases e
   have el : l = l.dropLast ++ [l.getLast hne] := (List.dropLast_concat_getLast hne).symm
   rw [el, List.all_append, Bool.and_eq_true] at h
   obtain ⟨i1, i2⟩ := val_bound n l.dropLast (by rw [List.length_dropLast]; omega) h.1
   have hc := (inF_iff (l.getLast hne)).mp (by simpa using h.2)
   rw [el, val_snoc, Int.pow_succ]
   exact ⟨by omega, by omega⟩
theorem pow10_ib {x : Int} {n : Nat} (h0 : 0 ≤ x) (h : x < 10 ^ n) : ib x ≤ 4 * n := by
 refine ib_big ?_
 have h1 : (10 : Int) ^ n ≤ 16 ^ n := by
   have : (10 : Nat) ^ n ≤ 16 ^ n := Nat.pow_le_pow_left (by decide) n
   exact_mod_cast this
 have h2 : ((2 : Nat) ^ (4 * n)) = 16 ^ n := by rw [Nat.pow_mul]
 rw [h2]
 have h3 : x < ((16 ^ n : Nat) : Int) := by
   have e : ((16 ^ n : Nat) : Int) = (16 : Int) ^ n := by push_cast; rfl
   rw [e]; omega
 omega
theorem cutFrom (l : List Nat) (k : Nat) : cutN l (some (k : Int)) none = l.drop k := by
 unfold cutN
 have e1 : HT.sIx l.length 0 (some (k : Int)) = min k l.length := HT.sIx_nat l.length 0 k
 have e2 : HT.sIx l.length l.length none = l.length := rfl
 rw [e1, e2]
 by_cases h : k ≤ l.length
 · rw [Nat.min_eq_left h, List.take_of_length_le (by rw [List.length_drop]; exact Nat.le_refl _)]
 · rw [Nat.min_eq_right (by omega), List.drop_length, List.drop_eq_nil_of_le (by omega), List.take_nil]
theorem starts1 (z : Str) (k : Nat) : Txt.startswith z (S [k]) = decide ((cd z).take 1 = [k]) := by
 unfold Txt.startswith Builtin.Str.subAt
 have hl : (S [k]).length = 1 := rfl
 rw [hl]
 have hz : z.length = (cd z).length := len_cd z
 have e : z = S (cd z) := (S_cd z).symm
 cases h : cd z with
 | nil =>
   rw [hz, h]
   simp
 | cons c r =>
   rw [hz, h]
   have ex : z.cps.extract 0 (0 + 1) = #[c] := by
     apply Array.ext'
     rw [Array.toList_extract]
     have : z.cps.toList = c :: r := h
     rw [this]; rfl
   rw [ex]
   have e1 : decide (0 + 1 ≤ (c :: r).length) = true := decide_eq_true (by rw [List.length_cons]; omega)
   have e2 : (c :: r).take 1 = [c] := rfl
   rw [e1, e2, Bool.true_and]
   by_cases hk : c = k
   · subst hk
     rw [decide_eq_true rfl]
     show (#[c] == #[c]) = true
     exact beq_self_eq_true _
   · have e3 : ([c] = [k]) = False := by
       rw [eq_iff_iff]; exact ⟨fun h => hk (List.cons.inj h).1, False.elim⟩
     rw [decide_eq_false (by rw [e3]; exact not_false)]
     show (#[c] == #[k]) = false
     rw [beq_eq_false_iff_ne]
     intro h
     exact hk (List.cons.inj (congrArg Array.toList h)).1
theorem dec_cd (x y : Str) : decide (V.str x = V.str y) = decide (cd x = cd y) := by
 rw [Bool.eq_iff_iff, decide_eq_true_iff, decide_eq_true_iff]
 exact ⟨fun h => congrArg cd (V.str.inj h), fun h => congrArg V.str (cd_inj h)⟩
def fig (l : List Nat) : List Nat := if l.take 1 = [45] then l.drop 1 else l
def numB (l : List Nat) (most : Int) : Option Int :=
 if (fig l).length < 1 ∨ most < (fig l).length ∨ ((fig l).take 1 = [48] ∧ l ≠ [48]) ∨ (fig l).all inF = false then none
 else some (if l.take 1 = [45] then - val (fig l) else val (fig l))
def figB (l : List Nat) : Bool := decide (0 < l.length) && l.all inF
theorem figB_iff (l : List Nat) : figB l = true ↔ 0 < l.length ∧ l.all inF = true := by unfold figB; rw [Bool.and_eq_true, decide_eq_true_iff]
theorem numB_no1 {l : List Nat} {m : Int} (h : figB (fig l) = false) : numB l m = none := by
 unfold numB
 rw [if_pos]
 by_cases h1 : (fig l).length < 1
 · exact .inl h1
 · refine .inr (.inr (.inr ?_))
   cases e : (fig l).all inF with
   | false => rfl
   | true => exact absurd ((figB_iff _).mpr ⟨by omega, e⟩) (by rw [h]; decide)
theorem numB_no2 {l : List Nat} {m : Int} (h : (fig l).take 1 = [48]) (h2 : l ≠ [48]) : numB l m = none := if_pos (.inr (.inr (.inl ⟨h, h2⟩)))
theorem numB_no3 {l : List Nat} {m : Int} (h : m < (fig l).length) : numB l m = none := if_pos (.inr (.inl h))
theorem numB_yes {l : List Nat} {m : Int} (h1 : figB (fig l) = true) (h2 : ¬ (fig l).take 1 = [48]) (h3 : ¬ m < (fig l).length) : numB l m = some (if l.take 1 = [45] then - val (fig l) else val (fig l)) := by
 unfold numB
 rw [if_neg]
 obtain ⟨a, b⟩ := (figB_iff _).mp h1
 intro h
 rcases h with h | h | h | h
 · omega
 · exact h3 h
 · exact h2 h.1
 · rw [b] at h; cases h
theorem numB_zero {most : Int} (h : 1 ≤ most) : numB [48] most = some 0 := by
 unfold numB
 have e1 : fig [48] = [48] := by decide
 rw [e1, if_neg]
 · decide
 · intro h
   rcases h with h | h | h | h
   · exact absurd h (by decide)
   · simp only [List.length_cons, List.length_nil] at h; omega
   · exact absurd rfl h.2
   · exact absurd h (by symm)
theorem take1_at {l : List Nat} (h : 1 ≤ l.length) : ∃ c, atI l 0 = some c ∧ l.take 1 = [c] := by
 cases l with
 | nil => cases h
 | cons c r => exact ⟨c, atI_nat (j := 0) rfl, rfl⟩
structure Fine (n : Nat) (z : Str) : Prop where
 len : z.length ≤ n
 cod : ∀ c ∈ cd z, c < 1000
theorem Fine.mono {n m : Nat} {z : Str} (h : Fine n z) (l : n ≤ m) : Fine m z := ⟨Nat.le_trans h.len l, h.cod⟩
theorem Fine.app {n m : Nat} {x y : Str} (h : Fine n x) (k : Fine m y) : Fine (n + m) (x ++ y) := by
 refine ⟨?_, fun c hc => ?_⟩
 · rw [len_cd, cd_app, List.length_append, ← len_cd, ← len_cd]; have := h.len; have := k.len; omega
 · rw [cd_app] at hc
   rcases List.mem_append.mp hc with e | e
   · exact h.cod c e
   · exact k.cod c e
theorem Fine.cut {n : Nat} {z : Str} (h : Fine n z) (lo hi : Option Int) : Fine n (S (cutN (cd z) lo hi)) := by
 refine ⟨?_, fun c hc => ?_⟩
 · rw [len_S]; unfold cutN; rw [List.length_take, List.length_drop, ← len_cd]; have := h.len; omega
 · rw [cd_S] at hc; exact h.cod c (List.mem_of_mem_drop (List.mem_of_mem_take hc))
theorem Fine.size {n : Nat} {z : Str} (h : Fine n z) (hn : n ≤ 100000 := by decide) : z.length ≤ sizeLine := by rw [sizeLine_eq]; have := h.len; omega
theorem Fine.int {i : Int} {k : Nat} (hk : 0 < k) (h : i.natAbs < 10 ^ k) : Fine (k + 1) (toString i) := by
 refine ⟨?_, fun c hc => ?_⟩
 · rw [show ((toString i : String) : Str).length = (toString i).length from PySem.ofString_length _]
   exact int_text_length_le10 hk h
 · rcases Nat.lt_or_ge c 1000 with z | z
   · exact z
   · exact absurd hc (int_text_free' c ⟨by omega, by omega⟩ i)
end L2
namespace L2
open PySem PySem.Spec PyProof.Rows PySem.Calls
theorem rcAt_V {A : Around} {s : Shared} {y x : V} {u v : Value} (ry : RelV y u) (rx : RelV x v) (fy : flatV y = true) (fx : flatV x = true) : SeqAt.RcAt A s u v (eqV y x) := by
 cases y with
 | non =>
   cases ry
   cases x with
   | non => cases rx; exact SeqAt.RcAt.none_none
   | bl b => cases rx; exact SeqAt.RcAt.none_bool b
   | int b => obtain ⟨t, rfl⟩ := rx; exact SeqAt.RcAt.none_int b t
   | str b => obtain ⟨t, rfl⟩ := rx; exact SeqAt.RcAt.none_str b t
   | _ => exact absurd (show false = true from fx) Bool.false_ne_true
 | bl a =>
   cases ry
   cases x with
   | non => cases rx; exact SeqAt.RcAt.bool_none a
   | bl b => cases rx; exact SeqAt.RcAt.bool_bool a b
   | int b => obtain ⟨t, rfl⟩ := rx; exact SeqAt.RcAt.bool_int a b t
   | str b => obtain ⟨t, rfl⟩ := rx; exact SeqAt.RcAt.bool_str a b t
   | _ => exact absurd (show false = true from fx) Bool.false_ne_true
 | int a =>
   obtain ⟨t', rfl⟩ := ry
   cases x with
   | non => cases rx; exact SeqAt.RcAt.int_none a t'
   | bl b => cases rx; exact SeqAt.RcAt.int_bool a t' b
   | int b => obtain ⟨t, rfl⟩ := rx; exact SeqAt.RcAt.int_int a t' b t
   | str b => obtain ⟨t, rfl⟩ := rx; exact SeqAt.RcAt.int_str a t' b t
   | _ => exact absurd (show false = true from fx) Bool.false_ne_true
 | str a =>
   obtain ⟨t', rfl⟩ := ry
   cases x with
   | non => cases rx; exact SeqAt.RcAt.str_none a t'
   | bl b => cases rx; exact SeqAt.RcAt.str_bool a t' b
   | int b => obtain ⟨t, rfl⟩ := rx; exact SeqAt.RcAt.str_int a t' b t
   | str b => obtain ⟨t, rfl⟩ := rx; exact SeqAt.RcAt.str_str a t' b t
   | _ => exact absurd (show false = true from fx) Bool.false_ne_true
 | _ => exact absurd (show false = true from fy) Bool.false_ne_true
theorem rcNe_V {A : Around} {s : Shared} {y x : V} {u v : Value} (ry : RelV y u) (rx : RelV x v) (fy : flatV y = true) (fx : flatV x = true) : SeqAt.RcNeAt A s u v (!eqV y x) := by
 cases y with
 | non =>
   cases ry
   cases x with
   | non => cases rx; exact SeqAt.RcNeAt.none_none
   | bl b => cases rx; exact SeqAt.RcNeAt.none_bool b
   | int b => obtain ⟨t, rfl⟩ := rx; exact SeqAt.RcNeAt.none_int b t
   | str b => obtain ⟨t, rfl⟩ := rx; exact SeqAt.RcNeAt.none_str b t
   | _ => exact absurd (show false = true from fx) Bool.false_ne_true
 | bl a =>
   cases ry
   cases x with
   | non => cases rx; exact SeqAt.RcNeAt.bool_none a
   | bl b => cases rx; exact SeqAt.RcNeAt.bool_bool a b
   | int b => obtain ⟨t, rfl⟩ := rx; exact SeqAt.RcNeAt.bool_int a b t
   | str b => obtain ⟨t, rfl⟩ := rx; exact SeqAt.RcNeAt.bool_str a b t
   | _ => exact absurd (show false = true from fx) Bool.false_ne_true
 | int a =>
   obtain ⟨t', rfl⟩ := ry
   cases x with
   | non => cases rx; exact SeqAt.RcNeAt.int_none a t'
   | bl b => cases rx; exact SeqAt.RcNeAt.int_bool a t' b
   | int b => obtain ⟨t, rfl⟩ := rx; exact SeqAt.RcNeAt.int_int a t' b t
   | str b => obtain ⟨t, rfl⟩ := rx; exact SeqAt.RcNeAt.int_str a t' b t
   | _ => exact absurd (show false = true from fx) Bool.false_ne_true
 | str a =>
   obtain ⟨t', rfl⟩ := ry
   cases x with
   | non => cases rx; exact SeqAt.RcNeAt.str_none a t'
   | bl b => cases rx; exact SeqAt.RcNeAt.str_bool a t' b
   | int b => obtain ⟨t, rfl⟩ := rx; exact SeqAt.RcNeAt.str_int a t' b t
   | str b => obtain ⟨t, rfl⟩ := rx; exact SeqAt.RcNeAt.str_str a t' b t
   | _ => exact absurd (show false = true from fx) Bool.false_ne_true
 | _ => exact absurd (show false = true from fy) Bool.false_ne_true
structure EqJ (X : Cx) (H : Hp) (n : Nat) (x y : V) (b : Bool) : Prop where
 rc : ∀ (pins : List (Addr × Obj)) (s : Shared) (σ : St) (u v : Value) (A : Around), Inv X pins σ H s → RelV x u → RelV y v → A.units + n < cLine → SeqAt.RcAt A s u v b
 ne : ∀ (pins : List (Addr × Obj)) (s : Shared) (σ : St) (u v : Value) (A : Around), Inv X pins σ H s → RelV x u → RelV y v → A.units + n < cLine → SeqAt.RcNeAt A s u v (!b)
def EqJi (X : Cx) (H : Hp) (n : Nat) (x y : V) (b : Bool) : Prop :=
 ∀ (pins : List (Addr × Obj)) (s : Shared) (σ : St) (u v : Value) (A : Around), Inv X pins σ H s → RelV x u → RelV y v → A.units + n < cLine → SeqAt.EqAt A s u v b
section
variable {X : Cx} {H : Hp} {n : Nat} {x y : V} {b : Bool} {p q : Addr} {xs ys : List V}
theorem eqj_flat (fx : flatV x = true) (fy : flatV y = true) : EqJ X H n x y (eqV x y) := ⟨fun _ _ _ _ _ _ _ rx ry _ => rcAt_V rx ry fx fy, fun _ _ _ _ _ _ _ rx ry _ => rcNe_V rx ry fx fy⟩
theorem eqi_flat (fx : flatV x = true) (fy : flatV y = true) : EqJi X H n x y (eqV x y) := fun _ _ _ _ _ _ _ rx ry _ => eqAt_V rx ry fx fy
theorem vals_at {xs : List V} {us : List Value} (r : Vals xs us) {j : Nat} (h : j < us.toArray.size) : ∃ x, xs[j]? = some x ∧ RelV x us.toArray[j] := by
 have hj : j < us.length := by simpa using h
 have hx : j < xs.length := by rw [r.length]; exact hj
 obtain ⟨u, hu, ru⟩ := r.get (List.getElem?_eq_getElem hx)
 refine ⟨xs[j], List.getElem?_eq_getElem hx, ?_⟩
 rw [List.getElem?_eq_getElem hj] at hu
 cases hu
 simpa using ru
theorem eqj_lists {e : Nat → Bool} (h : SqL X.K H p xs) (k : SqL X.K H q ys) (hl : xs.length = ys.length) (he : ∀ (j : Nat) x y, xs[j]? = some x → ys[j]? = some y → EqJi X H n x y (e j)) :
   EqJ X H (n + 1) (.ref p) (.ref q) ((List.range xs.length).all e) := by
 have g : ∀ (pins : List (Addr × Obj)) (s : Shared) (σ : St) (A : Around), Inv X pins σ H s → A.units + (n + 1) < cLine → ∃ its its' : List Value, s.heap.IsList p its.toArray ∧ s.heap.IsList q its'.toArray ∧ its.toArray.size = its'.toArray.size ∧ its.toArray.size = xs.length ∧
     ∀ j (h1 : j < its.toArray.size) (h2 : j < its'.toArray.size), SeqAt.EqAt A.in1 s its.toArray[j] its'.toArray[j] (e j) := fun pins s σ A I hu => by
   obtain ⟨its, r, pl, _⟩ := I.list h
   obtain ⟨its', r', pl', _⟩ := I.list k
   have l1 := r.length
   have l2 := r'.length
   refine ⟨its, its', pl.isList, pl'.isList, by simp only [List.size_toArray]; omega, by simp only [List.size_toArray]; omega, fun j h1 h2 => ?_⟩
   obtain ⟨x, hx, rx⟩ := vals_at r h1
   obtain ⟨y, hy, ry⟩ := vals_at r' h2
   exact he j x y hx hy pins s σ _ _ A.in1 I rx ry (by show A.units + 1 + n < _; omega)
 refine ⟨fun pins s σ u v A I rx ry hu => ?_, fun pins s σ u v A I rx ry hu => ?_⟩ <;> (cases rx; cases ry; have hu' : A.units < cLine := by omega)
 · obtain ⟨its, its', a, b, c, d, z⟩ := g pins s σ A I hu
   rw [← d]; exact SeqAt.RcAt.lists a b c hu' z
 · obtain ⟨its, its', a, b, c, d, z⟩ := g pins s σ A I hu
   rw [← d]; exact SeqAt.RcNeAt.lists a b c hu' z
theorem eqj_lists_len (h : SqL X.K H p xs) (k : SqL X.K H q ys) (hl : xs.length ≠ ys.length) : EqJ X H (n + 1) (.ref p) (.ref q) false := by
 refine ⟨fun pins s σ u v A I rx ry hu => ?_, fun pins s σ u v A I rx ry hu => ?_⟩ <;> (cases rx; cases ry; have hu' : A.units < cLine := by omega)
 · obtain ⟨its, r, pl, _⟩ := I.list h
   obtain ⟨its', r', pl', _⟩ := I.list k
   exact SeqAt.RcAt.lists_lengths pl.isList pl'.isList (by rw [List.size_toArray, List.size_toArray, ← r.length, ← r'.length]; simpa using hl) hu'
 · obtain ⟨its, r, pl, _⟩ := I.list h
   obtain ⟨its', r', pl', _⟩ := I.list k
   exact SeqAt.RcNeAt.lists_lengths pl.isList pl'.isList (by rw [List.size_toArray, List.size_toArray, ← r.length, ← r'.length]; simpa using hl) hu'
theorem eqj_tups {e : Nat → Bool} (h : SqT X.K H p xs) (k : SqT X.K H q ys) (he : ∀ (j : Nat) x y, xs[j]? = some x → ys[j]? = some y → EqJi X H n x y (e j)) :
   EqJ X H (n + 1) (.ref p) (.ref q) ((List.range (min xs.length ys.length)).all e && xs.length == ys.length) := by
 have g : ∀ (pins : List (Addr × Obj)) (s : Shared) (σ : St) (A : Around), Inv X pins σ H s → A.units + (n + 1) < cLine → ∃ its its' : List Value, s.heap.IsTuple p its.toArray ∧ s.heap.IsTuple q its'.toArray ∧ its.toArray.size = xs.length ∧ its'.toArray.size = ys.length ∧
     ∀ j (h1 : j < its.toArray.size) (h2 : j < its'.toArray.size), SeqAt.EqAt A.in1 s its.toArray[j] its'.toArray[j] (e j) := fun pins s σ A I hu => by
   obtain ⟨its, r, pl, _⟩ := I.tuple h
   obtain ⟨its', r', pl', _⟩ := I.tuple k
   have l1 := r.length
   have l2 := r'.length
   refine ⟨its, its', pl, pl', by simp only [List.size_toArray]; omega, by simp only [List.size_toArray]; omega, fun j h1 h2 => ?_⟩
   obtain ⟨x, hx, rx⟩ := vals_at r h1
   obtain ⟨y, hy, ry⟩ := vals_at r' h2
   exact he j x y hx hy pins s σ _ _ A.in1 I rx ry (by show A.units + 1 + n < _; omega)
 refine ⟨fun pins s σ u v A I rx ry hu => ?_, fun pins s σ u v A I rx ry hu => ?_⟩ <;> (cases rx; cases ry; have hu' : A.units < cLine := by omega)
 · obtain ⟨its, its', a, b, c, d, z⟩ := g pins s σ A I hu
   rw [← c, ← d]; exact SeqAt.RcAt.tuples a b hu' z
 · obtain ⟨its, its', a, b, c, d, z⟩ := g pins s σ A I hu
   rw [← c, ← d]
   exact SeqAt.RcNeAt.tuples a b hu' z
theorem eqV_self {x : V} (h : flatV x = true) : eqV x x = true := by
 cases x <;> first | rfl | exact beq_self_eq_true _ | cases h
def eqL : List V → List V → Bool
 | [], [] => true
 | x :: xs, y :: ys => eqV x y && eqL xs ys
 | _, _ => false
theorem eqL_range : ∀ {xs ys : List V}, xs.length = ys.length → (List.range xs.length).all (fun j => eqV (xs.getD j .non) (ys.getD j .non)) = eqL xs ys
 | [], [], _ => rfl
 | x :: xs, y :: ys, h => by
   have h' : xs.length = ys.length := Nat.succ.inj h
   rw [List.length_cons, List.range_succ_eq_map, List.all_cons, List.all_map, eqL, ← eqL_range h']
   rfl
 | [], _ :: _, h => by cases h
 | _ :: _, [], h => by cases h
theorem eqL_len : ∀ {xs ys : List V}, eqL xs ys = true → xs.length = ys.length
 | [], [], _ => rfl
 | x :: xs, y :: ys, h => by rw [eqL, Bool.and_eq_true] at h; rw [List.length_cons, List.length_cons, eqL_len h.2]
 | [], _ :: _, h => by cases h
 | _ :: _, [], h => by cases h
theorem eqL_self : ∀ {xs : List V}, xs.all flatV = true → eqL xs xs = true
 | [], _ => rfl
 | x :: xs, h => by rw [List.all_cons, Bool.and_eq_true] at h; rw [eqL, eqV_self h.1, eqL_self h.2]; rfl
theorem eqL_strs : ∀ {xs ys : List Str}, eqL (xs.map V.str) (ys.map V.str) = decide (xs = ys)
 | [], [] => rfl
 | x :: xs, y :: ys => by
   rw [List.map_cons, List.map_cons, eqL, eqL_strs]
   show ((x == y) && decide (xs = ys)) = _
   by_cases e : x = y
   · subst e; rw [beq_self_eq_true]; by_cases e2 : xs = ys <;> simp [e2]
   · rw [beq_eq_false_iff_ne.mpr e]; simp [e]
 | [], _ :: _ => rfl
 | _ :: _, [] => rfl
theorem all_get {xs : List V} (h : xs.all flatV = true) {j : Nat} {x : V} (e : xs[j]? = some x) : flatV x = true ∧ xs.getD j .non = x :=
 ⟨List.all_eq_true.mp h x (List.mem_of_getElem? e), by rw [List.getD, e]; rfl⟩
theorem eqj_flists (h : SqL X.K H p xs) (k : SqL X.K H q ys) (fx : xs.all flatV = true) (fy : ys.all flatV = true) : EqJ X H (n + 1) (.ref p) (.ref q) (eqL xs ys) := by
 by_cases hl : xs.length = ys.length
 · rw [← eqL_range hl]
   refine eqj_lists h k hl fun j x y hx hy => ?_
   obtain ⟨a, a'⟩ := all_get fx hx
   obtain ⟨b, b'⟩ := all_get fy hy
   rw [a', b']
   exact eqi_flat a b
 · have : eqL xs ys = false := by
     cases e : eqL xs ys with
     | false => rfl
     | true => exact absurd (eqL_len e) hl
   rw [this]
   exact eqj_lists_len h k hl
theorem eqj_ftups (h : SqT X.K H p xs) (k : SqT X.K H q ys) (fx : xs.all flatV = true) (fy : ys.all flatV = true) : EqJ X H (n + 1) (.ref p) (.ref q) (eqL xs ys) := by
 have e : ((List.range (min xs.length ys.length)).all (fun j => eqV (xs.getD j .non) (ys.getD j .non)) && xs.length == ys.length) = eqL xs ys := by
   by_cases hl : xs.length = ys.length
   · rw [← hl, Nat.min_self, beq_self_eq_true, Bool.and_true]; exact eqL_range hl
   · have : eqL xs ys = false := by
       cases e : eqL xs ys with
       | false => rfl
       | true => exact absurd (eqL_len e) hl
     rw [this, beq_eq_false_iff_ne.mpr hl, Bool.and_false]
 rw [← e]
 refine eqj_tups h k fun j x y hx hy => ?_
 obtain ⟨a, a'⟩ := all_get fx hx
 obtain ⟨b, b'⟩ := all_get fy hy
 rw [a', b']
 exact eqi_flat a b
theorem op_eqJ (hu : X.A.units + 20 < cLine) : OpR X (compareOp .Eq) (fun x y H Q => ∃ b, EqJ X H 20 x y b ∧ Q (.bl b) H) := by
 intro pins s σ H x y v u Q I rx ry h
 obtain ⟨b, e, q⟩ := h
 exact e.rc pins s σ v u X.A I rx ry hu X.prog X.w X.xe _ ⟨.bl b, H, I, rfl, q⟩
theorem op_neJ (hu : X.A.units + 20 < cLine) : OpR X (compareOp .NotEq) (fun x y H Q => ∃ b, EqJ X H 20 x y b ∧ Q (.bl (!b)) H) := by
 intro pins s σ H x y v u Q I rx ry h
 obtain ⟨b, e, q⟩ := h
 exact e.ne pins s σ v u X.A I rx ry hu X.prog X.w X.xe _ ⟨.bl (!b), H, I, rfl, q⟩
theorem hu20 {A : Around} {k : Nat} (hr : Room k A) : A.units + 20 < cLine := by have := hr.units; omega
end
end L2
namespace L2
open PySem PySem.Spec PyProof.Rows PySem.Calls
section
variable {P : Program} {w : World} {K : PySem.W.Frag} {mg : Str → Option Value} {base : Heap}
structure MethJ (P : Program) (w : World) (K : PySem.W.Frag) (mg : Str → Option Value) (base : Heap) (CX : CXT) (k : Nat) (C : Addr) (m : Str) where
 f : Addr
 fd : FuncData
 ps : List Str
 sp : Sp
 ds : List Value
 dvs : List V
 c : Cls K C
 hm : Meth K C m f
 F : FnOk P w K mg base CX k f fd ps sp
 hb : Binds K fd ps ds
 hd : Vals dvs ds
end
theorem passW0 {X : Cx} : Passes (CXW X.prog X.w) X E0 := fun _ _ _ _ _ _ _ h => by
 obtain ⟨_, _, _, _, _, _, _, _, _, _, _, z⟩ := h
 exact z.elim
section
variable {X : Cx} {CX : CXT} {k : Nat} {E : XK} {m : Str} {pos apos : Pos} {e o : Expr} {es : List Expr} {ta : TE} {t : TA}
def tMethG (X : Cx) (CX : CXT) (k : Nat) (m : Str) (E : XK) (ta : TE) (t : TA) : TE := fun σ H Q => ta σ H fun x H1 => ∃ (a C dx : Addr) (fs : List (Str × V)) (M : MethJ X.prog X.w X.K X.mg X.base CX k C m), x = .ref a ∧ H1 a = some (.ins C dx fs) ∧ fs.lookup m = none ∧
 t σ H1 fun vs H2 => M.sp (x :: (vs ++ M.dvs)) H2 Q E
theorem pe_methG {pl : Sem Bool} (hr : Room k X.A) (hx : Passes CX X E) (he : PE X o ta) (ha : PA X (e :: es) t)
   (hst : starEach (e :: es) X.env = (false, eval e X.env) :: starEach es X.env := by rfl) (hpl : (backTo pos (starEach es X.env)).any (·.1) = false := by rfl)
   (ht : eval (.Call (.Attribute o m apos) (e :: es) [] pos) X.env = (do
     let ov ← eval o X.env
     standAt apos.atName
     let (f, first) ← holding [ov] (getMethod ov m pl)
     callWith pos f first (backTo pos (starEach (e :: es) X.env)) (backToKw pos (keywordEach [] X.env))) := by rfl) :
   PE X (.Call (.Attribute o m apos) (e :: es) [] pos) (tMethG X CX k m E ta t) := by
 intro pins s σ H Q I h
 refine PySem.W.methodCall_KW (pl := pl) (thn (he pins s σ H _ I h) fun u s1 ⟨x, H1, I1, rx, a, C, dx, fs, M, ex, ea, l, q⟩ => ?_) ht
 subst ex
 obtain rfl : u = Value.ref a := rx
 refine getmeth_ok I1 ea M.c M.hm l ?_
 refine PySem.W.callWith_K (first := [.ref a]) (h₀ := X.base) I.ok.mod.kin M.hm.kp (thn (ha pos pins s1 σ H1 _ I1 q) fun us s2 ⟨vs, H2, I2, r, q2⟩ => ⟨I2.kIn, ?_⟩) hst hpl
 exact run_fn (us := .ref a :: us) (vs := .ref a :: vs) M.F hr M.hb M.hd hx I2 (.cons rfl r) q2
theorem pe_methG0 {pl : Sem Bool} (hr : Room k X.A) (hx : Passes CX X E) (he : PE X o ta)
   (ht : eval (.Call (.Attribute o m apos) [] [] pos) X.env = (do
     let ov ← eval o X.env
     standAt apos.atName
     let (f, first) ← holding [ov] (getMethod ov m pl)
     callWith pos f first (backTo pos (starEach [] X.env)) (backToKw pos (keywordEach [] X.env))) := by rfl) :
   PE X (.Call (.Attribute o m apos) [] [] pos) (tMethG X CX k m E ta tNil) := by
 intro pins s σ H Q I h
 refine PySem.W.methodCall_KW (pl := pl) (thn (he pins s σ H _ I h) fun u s1 ⟨x, H1, I1, rx, a, C, dx, fs, M, ex, ea, l, q⟩ => ?_) ht
 subst ex
 obtain rfl : u = Value.ref a := rx
 refine getmeth_ok I1 ea M.c M.hm l ?_
 exact PySem.W.callWith_K0 (first := [.ref a]) I1.kIn M.hm.kp (run_fn (us := [.ref a]) (vs := [.ref a]) M.F hr M.hb M.hd hx I1 (.cons rfl .nil) q)
structure ClsFn (K : PySem.W.Frag) (C : Addr) (m : Str) (f : Addr) : Prop where
 rd : PySem.W.readsIn K C (.type "type") = true
 at_ : PySem.W.findCls K (.ref C) (.type "type") m = some (.val (.ref f))
 sp : PySem.W.specialIn K (.ref C) "__getattribute__" = some (some (.builtin "type.__getattribute__"))
 kp : PySem.W.keepIn K (.ref f) = true
theorem pe_clsfn {pl : Sem Bool} {C f : Addr} {fd : FuncData} {ps : List Str} {sp : Sp} {x : Str} {np : Pos} (c : ClsFn X.K C m f) (F : FnOk X.prog X.w X.K X.mg X.base CX k f fd ps sp) (hr : Room k X.A) (hg : Gl X x) (hmg : X.mg x = some (.ref C)) (hb : Binds X.K fd ps []) (hx : Passes CX X E)
   (ha : PA X (e :: es) t) (hd : (x == ("__debug__" : Str)) = false := by decide)
   (hst : starEach (e :: es) X.env = (false, eval e X.env) :: starEach es X.env := by rfl) (hpl : (backTo pos (starEach es X.env)).any (·.1) = false := by rfl)
   (ht : eval (.Call (.Attribute (.Name x np) m apos) (e :: es) [] pos) X.env = (do
     let ov ← eval (.Name x np) X.env
     standAt apos.atName
     let (f, first) ← holding [ov] (getMethod ov m pl)
     callWith pos f first (backTo pos (starEach (e :: es) X.env)) (backToKw pos (keywordEach [] X.env))) := by rfl) :
   PE X (.Call (.Attribute (.Name x np) m apos) (e :: es) [] pos) (tCall sp [] E t) := by
 intro pins s σ H Q I h
 refine PySem.W.methodCall_KW (pl := pl) (ld_glob I hg hmg ?_ hd) ht
 refine PySem.W.method_cls I.kIn c.sp (PySem.W.cls_value (s := s) I.kIn c.rd c.at_ rfl ?_)
 refine PySem.W.callWith_K (first := []) (h₀ := X.base) I.ok.mod.kin c.kp (thn (ha pos pins _ σ H _ (I.tok _) h) fun us s2 ⟨vs, H2, I2, r, q2⟩ => ⟨I2.kIn, ?_⟩) hst hpl
 exact run_fn (us := us) (vs := vs) F hr hb .nil hx I2 r q2
end
end L2
namespace L2
open PySem PySem.Spec PyProof.Rows
def dropW (l : List Nat) : List Nat := l.dropWhile (· == 32)
def stripL (l : List Nat) : List Nat := (dropW (dropW l).reverse).reverse
theorem drop_takeWhile (p : Nat → Bool) : ∀ l : List Nat, l.drop (l.takeWhile p).length = l.dropWhile p
 | [] => rfl
 | a :: r => by
   rw [List.takeWhile_cons, List.dropWhile_cons]
   by_cases h : p a = true
   · rw [if_pos h, if_pos h, List.length_cons, List.drop_succ_cons, drop_takeWhile p r]
   · rw [if_neg h, if_neg h]; rfl
theorem blank_cps : (("\u0020" : Str).cps.contains : Nat → Bool) = fun c => c == 32 := by
 have e : ("\u0020" : Str).cps = #[32] := by symm
 funext c
 rw [e]
 show (#[32] : Array Nat).contains c = (c == 32)
 by_cases h : c = 32
 · subst h; simp
 · rw [beq_eq_false_iff_ne.mpr h]
   cases e2 : (#[32] : Array Nat).contains c with
   | false => rfl
   | true => exact absurd (by simpa using e2) h
theorem strip_is (z : Str) : cd (Txt.stripChars z "\u0020") = stripL (cd z) := by
 unfold Txt.stripChars
 rw [stripBy_eq, blank_cps]
 unfold Builtin.Str.strSub stripLo stripHi
 rw [if_pos rfl, if_pos rfl]
 show (z.cps.extract _ _).toList = _
 rw [Array.toList_extract, List.extract_eq_take_drop]
 have e1 : z.cps.toList.drop (z.cps.toList.takeWhile (fun c => c == 32)).length = dropW (cd z) := drop_takeWhile _ _
 rw [e1]
 have hl : z.length = (cd z).length := len_cd z
 have hd : (dropW (cd z)).length = (cd z).length - (z.cps.toList.takeWhile (fun c => c == 32)).length := by rw [← e1, List.length_drop]
 have ht : ((dropW (cd z)).reverse.takeWhile (fun c => c == 32)).length ≤ (dropW (cd z)).length := by
   have := (List.takeWhile_prefix (l := (dropW (cd z)).reverse) (fun c => c == 32)).length_le
   rw [List.length_reverse] at this; exact this
 unfold stripL
 have e2 : dropW (dropW (cd z)).reverse = (dropW (cd z)).reverse.drop ((dropW (cd z)).reverse.takeWhile (fun c => c == 32)).length := (drop_takeWhile _ _).symm
 rw [e2, ← List.reverse_reverse ((dropW (cd z)).take _)]
 congr 1
 rw [List.reverse_take]
 congr 1
 omega
theorem dropW_rep (a : Nat) (l : List Nat) : dropW (List.replicate a 32 ++ l) = dropW l := by
 induction a with
 | zero => rfl
 | succ a ih => rw [List.replicate_succ, List.cons_append]; unfold dropW; rw [List.dropWhile_cons, if_pos (by decide)]; exact ih
theorem dropW_not {l : List Nat} (h : ∀ c, l.head? = some c → c ≠ 32) : dropW l = l := by
 cases l with
 | nil => rfl
 | cons a r => unfold dropW; rw [List.dropWhile_cons, if_neg (by simpa using h a rfl)]
theorem stripL_core {a b : Nat} {w : List Nat} (h1 : ∀ c, w.head? = some c → c ≠ 32) (h2 : ∀ c, w.getLast? = some c → c ≠ 32) : stripL (List.replicate a 32 ++ w ++ List.replicate b 32) = w := by
 unfold stripL
 rw [List.append_assoc, dropW_rep]
 cases w with
 | nil =>
   rw [List.nil_append]
   have : dropW (List.replicate b 32) = [] := by have := dropW_rep b []; rwa [List.append_nil] at this
   rw [this]; rfl
 | cons x r =>
   have e : dropW (x :: r ++ List.replicate b 32) = x :: r ++ List.replicate b 32 := dropW_not fun c hc => h1 c hc
   rw [e, List.reverse_append, List.reverse_replicate, dropW_rep]
   have e2 : dropW (x :: r).reverse = (x :: r).reverse := dropW_not fun c hc => h2 c (by rwa [List.head?_reverse] at hc)
   rw [e2, List.reverse_reverse]
theorem stripL_self {w : List Nat} (h1 : ∀ c, w.head? = some c → c ≠ 32) (h2 : ∀ c, w.getLast? = some c → c ≠ 32) : stripL w = w := by
 have := stripL_core (a := 0) (b := 0) h1 h2
 simpa using this
theorem stripL_no {w : List Nat} (h : ∀ c ∈ w, c ≠ 32) : stripL w = w := stripL_self (fun c hc => h c (List.mem_of_mem_head? hc)) (fun c hc => h c (List.mem_of_getLast? hc))
theorem dropW_mem {l : List Nat} {c : Nat} (h : c ∈ dropW l) : c ∈ l := (List.dropWhile_suffix _).subset h
theorem stripL_mem {l : List Nat} {c : Nat} (h : c ∈ stripL l) : c ∈ l := dropW_mem (List.mem_reverse.mp (dropW_mem (List.mem_reverse.mp h)))
theorem dropW_len (l : List Nat) : (dropW l).length ≤ l.length := (List.dropWhile_suffix _).length_le
theorem stripL_len (l : List Nat) : (stripL l).length ≤ l.length := by
 unfold stripL
 rw [List.length_reverse]
 refine Nat.le_trans (dropW_len _) ?_
 rw [List.length_reverse]; exact dropW_len l
theorem Fine.strip {n : Nat} {z : Str} (h : Fine n z) : Fine n (Txt.stripChars z "\u0020") := by
 refine ⟨?_, fun c hc => ?_⟩
 · rw [len_cd, strip_is]; have := stripL_len (cd z); have := h.len; rw [len_cd] at this; omega
 · rw [strip_is] at hc; exact h.cod c (stripL_mem hc)
def dig (n : Nat) : List Nat := (Nat.toDigits 10 n).map Char.toNat
theorem digChar : ∀ d : Nat, d < 10 → (Nat.digitChar d).toNat = 48 + d := by decide
theorem dig_lt {n : Nat} (h : n < 10) : dig n = [48 + n] := by
 unfold dig; rw [Nat.toDigits_of_lt_base h]; show [(Nat.digitChar n).toNat] = _; rw [digChar n h]
theorem dig_ge {n : Nat} (h : 10 ≤ n) : dig n = dig (n / 10) ++ [48 + n % 10] := by
 unfold dig; rw [Nat.toDigits_of_base_le (by decide) h, List.map_append]; show _ ++ [(Nat.digitChar (n % 10)).toNat] = _; rw [digChar _ (Nat.mod_lt _ (by decide))]
theorem dig_pos (n : Nat) : 0 < (dig n).length := by unfold dig; rw [List.length_map]; exact Nat.length_toDigits_pos
theorem dig_len {k n : Nat} (hk : 1 ≤ k) (hn : n < 10 ^ k) : (dig n).length ≤ k := by unfold dig; rw [List.length_map]; exact toDigits_len_pow (by decide) hk hn
theorem dig_all (n : Nat) : (dig n).all inF = true := by
 induction n using Nat.strongRecOn with
 | _ n ih =>
   by_cases h : n < 10
   · rw [dig_lt h, List.all_cons, (inF_iff _).mpr ⟨by omega, by omega⟩]; rfl
   · rw [dig_ge (by omega), List.all_append, ih (n / 10) (by omega), List.all_cons, (inF_iff _).mpr ⟨by omega, by have := Nat.mod_lt n (show 0 < 10 by decide); omega⟩]; rfl
theorem val_dig (n : Nat) : val (dig n) = n := by
 induction n using Nat.strongRecOn with
 | _ n ih =>
   by_cases h : n < 10
   · rw [dig_lt h]; show (0 : Int) * 10 + ((48 + n - 48 : Nat) : Int) = n; omega
   · rw [dig_ge (by omega), val_snoc, ih (n / 10) (by omega)]; omega
theorem dig_head {n : Nat} (h : n ≠ 0) : ∃ c r, dig n = c :: r ∧ 49 ≤ c ∧ c ≤ 57 := by
 induction n using Nat.strongRecOn with
 | _ n ih =>
   by_cases h10 : n < 10
   · exact ⟨_, _, dig_lt h10, by omega, by omega⟩
   · obtain ⟨c, r, e, h1, h2⟩ := ih (n / 10) (by omega) (by omega)
     exact ⟨c, r ++ [48 + n % 10], by rw [dig_ge (by omega), e]; rfl, h1, h2⟩
theorem dig_fig {n c : Nat} (h : c ∈ dig n) : 48 ≤ c ∧ c ≤ 57 := (inF_iff c).mp (List.all_eq_true.mp (dig_all n) c h)
theorem dig_zero : dig 0 = [48] := dig_lt (by decide)
def numL (i : Int) : List Nat := if i < 0 then 45 :: dig i.natAbs else dig i.natAbs
theorem cd_str (i : Int) : cd ((toString i : String) : Str) = numL i := by
 show (Str.ofString (toString i)).cps.toList = _
 rw [signs_ofString]
 unfold numL
 cases i with
 | ofNat m =>
   rw [if_neg (show ¬ Int.ofNat m < 0 from by have : Int.ofNat m = (m : Int) := rfl; omega)]
   show (Nat.repr m).toList.map Char.toNat = _
   rw [Nat.toList_repr]; rfl
 | negSucc m =>
   rw [if_pos (Int.negSucc_lt_zero m)]
   have : (toString (Int.negSucc m)) = "-" ++ Nat.repr (m + 1) := rfl
   rw [this, String.toList_append, Nat.toList_repr]; rfl
theorem numL_fig (i : Int) : fig (numL i) = dig i.natAbs := by
 unfold numL
 split
 · rfl
 · unfold fig
   rw [if_neg]
   obtain ⟨c, r, e⟩ : ∃ c r, dig i.natAbs = c :: r := by
     cases h : dig i.natAbs with
     | nil => have := dig_pos i.natAbs; rw [h] at this; cases this
     | cons c r => exact ⟨c, r, rfl⟩
   intro z
   have hc := dig_fig (n := i.natAbs) (c := c) (by rw [e]; simp)
   rw [e] at z
   have : c = 45 := by simpa using z
   omega
theorem numL_ne (i : Int) : numL i ≠ [] := by
 unfold numL
 split
 · simp
 · intro z; have := dig_pos i.natAbs; rw [z] at this; cases this
theorem numL_mem {i : Int} {c : Nat} (h : c ∈ numL i) : c = 45 ∨ (48 ≤ c ∧ c ≤ 57) := by
 unfold numL at h
 split at h
 · rcases List.mem_cons.mp h with e | e
   · exact .inl e
   · exact .inr (dig_fig e)
 · exact .inr (dig_fig h)
theorem numL_strip (i : Int) : stripL (numL i) = numL i := stripL_no fun c hc => by rcases numL_mem hc with e | e <;> omega
theorem numB_numL {i : Int} {most : Int} (h1 : 1 ≤ most) (h : ((dig i.natAbs).length : Int) ≤ most) : numB (numL i) most = some i := by
 have e := numL_fig i
 unfold numB
 rw [e, if_neg]
 · congr 1
   rw [val_dig]
   unfold numL
   by_cases hi : i < 0
   · rw [if_pos hi]
     rw [if_pos (show (45 :: dig i.natAbs).take 1 = [45] from rfl)]; omega
   · rw [if_neg hi, if_neg]
     · omega
     · intro z
       obtain ⟨c, r, ec⟩ : ∃ c r, dig i.natAbs = c :: r := by
         cases h : dig i.natAbs with
         | nil => have := dig_pos i.natAbs; rw [h] at this; cases this
         | cons c r => exact ⟨c, r, rfl⟩
       have hc := dig_fig (n := i.natAbs) (c := c) (by rw [ec]; simp)
       rw [ec] at z
       have : c = 45 := by simpa using z
       omega
 · intro z
   rcases z with z | z | z | z
   · have := dig_pos i.natAbs; omega
   · omega
   · by_cases h0 : i.natAbs = 0
     · have : i = 0 := by omega
       subst this
       exact z.2 (by show (if (0:Int) < 0 then _ else _) = _; rw [if_neg (by decide)]; exact dig_zero)
     · obtain ⟨c, r, ec, hc, _⟩ := dig_head h0
       rw [ec] at z
       have : c = 48 := by simpa using z.1
       omega
   · rw [dig_all] at z; cases z
theorem numB_str {i : Int} (h : i.natAbs < 10 ^ 60) : numB (numL i) 60 = some i := numB_numL (by decide) (by have := dig_len (k := 60) (by decide) h; omega)
theorem numB_bad {l : List Nat} {m : Int} {c : Nat} (h : c ∈ fig l) (hc : inF c = false) : numB l m = none :=
 if_pos (.inr (.inr (.inr (by rw [List.all_eq_false]; exact ⟨c, h, by rw [hc]; decide⟩))))
theorem notF {c : Nat} (h : c < 48 ∨ 57 < c) : inF c = false := by
 cases e : inF c with
 | false => rfl
 | true => have := (inF_iff c).mp e; omega
end L2
namespace L2
open PySem PySem.Spec PyProof.Rows PySem.Calls
section
variable {X : Cx}
theorem op_isB : OpR X (compareOp .Is) (fun x y H Q => ∃ c d, x = .bl c ∧ y = .bl d ∧ Q (.bl (c == d)) H) := by
 intro pins s σ H x y v u Q I rx ry h
 obtain ⟨c, d, rfl, rfl, q⟩ := h
 cases rx
 cases ry
 exact is_bool ⟨.bl _, H, I, rfl, q⟩
theorem op_isnotB : OpR X (compareOp .IsNot) (fun x y H Q => ∃ c d, x = .bl c ∧ y = .bl d ∧ Q (.bl (c != d)) H) := by
 intro pins s σ H x y v u Q I rx ry h
 obtain ⟨c, d, rfl, rfl, q⟩ := h
 cases rx
 cases ry
 exact isnot_bool ⟨.bl _, H, I, rfl, q⟩
end
theorem lk0 {f a b : Str} {v w : V} (h1 : (f == a) = false) (h2 : (f == b) = false) : ([(a, v), (b, w)] : List (Str × V)).lookup f = none := by
 rw [List.lookup_cons, h1, List.lookup_cons, h2]; rfl
theorem lk1 {a : Str} {v : V} {r : List (Str × V)} : ((a, v) :: r).lookup a = some v := by rw [List.lookup_cons, beq_self_eq_true]
theorem lk2 {a b : Str} {v w : V} (h : (b == a) = false) {r : List (Str × V)} : ((a, v) :: (b, w) :: r).lookup b = some w := by rw [List.lookup_cons, h]; exact lk1
theorem iteN {c : Bool} {A B : Prop} (h : c = false) (q : B) : if c = true then A else B := by subst h; exact iteF q
theorem iteY {c : Bool} {A B : Prop} (h : c = true) (q : A) : if c = true then A else B := by subst h; exact iteT q
structure Thing (K : PySem.W.Frag) (H : Hp) (x : V) where
 t : Value
 bi : Bool
 bb : Bool
 bs : Bool
 ty : TyE K H x t
 ki : PySem.W.kitOne K t (.type "int") = some bi
 kb : PySem.W.kitOne K t (.type "bool") = some bb
 ks : PySem.W.kitOne K t (.type "str") = some bs
 hi : (bi && !bb) = true → ∃ n, x = .int n
 hs : bs = true → ∃ z, x = .str z
 ni : ∀ n, x = .int n → (bi && !bb) = true
 ns : ∀ z, x = .str z → bs = true
 hbl : bb = true → ∃ b, x = .bl b
 nbl : ∀ b, x = .bl b → bb = true
theorem Same.seqT {K : PySem.W.Frag} {H H' : Hp} {a : Addr} {xs : List V} (e : Same H H') (h : SqT K H a xs) : SqT K H' a xs := by
 rcases h with h | h
 · exact .inl (h.imp (fun k => e _ _ k) (fun ⟨o, k⟩ => ⟨o, e _ _ k⟩))
 · exact .inr h
theorem Same.tyE' {K : PySem.W.Frag} {H H' : Hp} {x : V} {t : Value} (e : Same H H') (h : TyE K H x t) : TyE K H' x t := by
 cases h with
 | old h => exact .old (e.ty h)
 | exc h c => exact .exc (e _ _ h) c
 | tpl h => exact .tpl (e.seqT h)
def Thing.same {K : PySem.W.Frag} {H H' : Hp} {x : V} (h : Thing K H x) (e : Same H H') : Thing K H' x := ⟨h.t, h.bi, h.bb, h.bs, e.tyE' h.ty, h.ki, h.kb, h.ks, h.hi, h.hs, h.ni, h.ns, h.hbl, h.nbl⟩
theorem Same.upd {H H' : Hp} {p : Addr} {o : HO} (e : Same H H') (h : H p = none ∨ H p = some o) : Same H (L2.upd H' p o) := fun b u q => by
 by_cases z : b = p
 · subst z
   rcases h with h | h
   · rw [h] at q; cases q
   · rw [h] at q; rw [zE]; exact q
 · rw [zO z]; exact e b u q
def numV : Option Int → V
 | some n => .int n
 | none => .non
end L2
namespace L2
open PySem PySem.Spec PyProof.Rows
theorem str_is (n : Int) : ((toString n : String) : Str) = S (numL n) := cd_inj (cd_str n)
theorem fineNum {n : Int} (h : n.natAbs < 10 ^ 60) : Fine 61 (S (numL n)) := by rw [← str_is]; exact Fine.int (by decide) h
theorem logOk {m : Int} (h : m.natAbs < 10 ^ 61) : m.natAbs.log2 < 1920 := by
 by_cases h0 : m.natAbs = 0
 · rw [h0]; decide
 · exact (Nat.log2_lt h0).mpr (Nat.lt_trans h (by symm))
theorem bad_of {l : List Nat} {m : Int} {c : Nat} (hh : ∀ d, l.head? = some d → d ≠ 45) (h : c ∈ l) (hc : c < 48 ∨ 57 < c) : numB l m = none := by
 refine numB_bad (c := c) ?_ (notF hc)
 have : fig l = l := if_neg (by
   cases l with
   | nil => cases h
   | cons a r => intro z; exact hh a rfl (by simpa using z))
 rw [this]; exact h
end L2
namespace L2
open PySem PySem.Spec PyProof.Rows PySem.Calls
def TabK (K : PySem.W.Frag) (a : Addr) (D : List (Str × Bool)) : Prop :=
 (a == sysModules) = false ∧ ∃ o es ep, K.lookup a = some o ∧ o.ExactDict ∧ o.data = .dict es ep ∧ KTD.Rows (fun (b : Bool) (v : Value) => v = .bool b) es.toList D
theorem tabK_mk {K : PySem.W.Frag} {a : Addr} {oc : Value} {od : Option Addr} {es : Array DictEntry} {ep : Nat} {sl : Array (Option Value)} {D : List (Str × Bool)} (h : K.lookup a = some ⟨oc, od, .dict es ep, sl⟩) (hs : (a == sysModules) = false) (hc : oc = .type "dict") (hd : od = none) (hsl : sl = #[]) (hr : KTD.Rows (fun (b : Bool) (v : Value) => v = .bool b) es.toList D) : TabK K a D := by
 subst hc hd hsl
 exact ⟨hs, _, es, ep, h, ⟨rfl, rfl, rfl⟩, rfl, hr⟩
def lookB (D : List (Str × Bool)) (z : Str) : V := match D.lookup z with
 | some b => .bl b
 | none => .non
theorem datum_look (z : Str) : ∀ D : List (Str × Bool), KTD.datumAt z (D.map fun p => (p.1, KTD.Dat.flat (.bool p.2))) = (D.lookup z).map fun b => KTD.Dat.flat (.bool b)
 | [] => rfl
 | (x, b) :: D => by
   show (if decide (z = x) = true then some (KTD.Dat.flat (.bool b)) else KTD.datumAt z (D.map fun p => (p.1, KTD.Dat.flat (.bool p.2)))) = _
   rw [datum_look z D, List.lookup_cons]
   by_cases h : z = x
   · subst h; rw [if_pos (decide_eq_true rfl), beq_self_eq_true]; rfl
   · rw [if_neg (by simpa using h), beq_eq_false_iff_ne.mpr h]
section
variable {X : Cx}
theorem pe_gget {x : Str} {a : Addr} {D : List (Str × Bool)} {e : Expr} {te : TE} {np apos cpos : Pos} (hg : Gl X x) (hm : X.mg x = some (.ref a)) (hT : TabK X.K a D) (he : PE X e te) (m : M1 X (.Name x np) "get" apos e cpos) (hdb : (x == ("__debug__" : Str)) = false := by decide) :
   PE X (.Call (.Attribute (.Name x np) "get" apos) [e] [] cpos) (fun σ H Q => te σ H fun v H1 => ∃ z, v = .str z ∧ Q (lookB D z) H1) := by
 intro pins s σ H Q I h
 obtain ⟨lo, o, es, ep, lk, hc, hd, hr⟩ := hT
 have T0 : KTD.TextTab X.base a (D.map fun p => (p.1, KTD.Dat.flat (.bool p.2))) :=
   ⟨lo, o, es, ep, I.ok.mod.kin _ _ lk, hc, hd, hr.mono (f := fun b => KTD.Dat.flat (.bool b)) fun d v e => by subst e; exact PyProof.V.Flat.bool d⟩
 have T : ∀ {pins : List (Addr × Obj)} {σ : St} {H : Hp} {s : Shared}, Inv X pins σ H s → KTD.Here X.base s.heap a (D.map fun p => (p.1, KTD.Dat.flat (.bool p.2))) := fun I => ⟨T0, I.bk⟩
 refine wpAny_Call_method m.base m.few m.line PySem.F.plainAttrs_dict PySem.F.slot_dict_get PySem.F.type_dict_get (ld_glob I hg hm ?_ hdb)
 refine ⟨(T I).typeIs, (T I).noDict, ?_⟩
 rw [m.trees]
 refine Calls.callWith_builtin rfl (Calls.evalArgs_plain (Calls.spliced_cons (thn (he pins s σ H _ I h) fun iv s2 ⟨y, H2, I2, ry, z, ez, q2⟩ => Calls.spliced_nil ?_)))
 subst ez
 obtain ⟨t, rfl⟩ := ry
 refine call_meetsIn PySem.F.slot_dict_get (T I2).typeIs PySem.F.entry_dict_get (PySem.F.args_dict_get_2 _ _) (KTD.meets_get1 (h₀ := X.base)) ⟨T I2, fun d v ha hv => ?_, fun hn => ?_⟩
 · rw [datum_look] at ha
   cases hl : D.lookup z with
   | none => rw [hl] at ha; cases ha
   | some b =>
     rw [hl] at ha
     cases ha
     have hv' : v = .bool b := PyProof.V.Flat.bool_inv hv
     subst hv'
     refine ⟨.bl b, H2, I2.tok _, rfl, ?_⟩
     unfold lookB at q2
     rw [hl] at q2
     exact q2
 · rw [datum_look] at hn
   cases hl : D.lookup z with
   | some b => rw [hl] at hn; cases hn
   | none =>
     refine ⟨.non, H2, I2.tok _, rfl, ?_⟩
     unfold lookB at q2
     rw [hl] at q2
     exact q2
theorem vals_nth : ∀ {xs : List V} {us : List Value}, Vals xs us → xs.all flatV = true → ∀ {x : V} (j : Nat) (h : j < us.toArray.size), eqU x us.toArray[j] = eqV (xs.getD j .non) x := by
 intro xs us r f x j h
 obtain ⟨y, hy, ry⟩ := vals_at r h
 obtain ⟨a, b⟩ := all_get f hy
 rw [b]
 exact eqU_of ry a
def IdxOf (x : V) (xs : List V) (j : Nat) : Prop := ∃ y, xs[j]? = some y ∧ eqV y x = true ∧ ∀ (m : Nat) z, m < j → xs[m]? = some z → eqV z x = false
theorem mt_lindex : MtM X "list.index" (fun x vs H Q => ∃ p xs y j, x = .ref p ∧ vs = [y] ∧ SqL X.K H p xs ∧ xs.all flatV = true ∧ flatV y = true ∧ IdxOf y xs j ∧ Q (.int (j : Nat)) H) := by
 intro pins s σ H x vs v us Q I rx rv h
 obtain ⟨p, xs, y, j, rfl, rfl, hq, fs, fy, ⟨y', hj, hy, hno⟩, q⟩ := h
 cases rx
 obtain ⟨u, rfl, ru⟩ := rv.one
 obtain ⟨its, r, pl, hz⟩ := I.list hq
 obtain ⟨⟨cls, dd, data, sl⟩, ho, hc, n, hd⟩ := pl.isList
 simp only at hc hd
 subst hc hd
 have hl := r.length
 have hlt : j < xs.length := (List.getElem?_eq_some_iff.mp hj).1
 have hn := line63
 refine call_meets PySem.F.slot_list_index ⟨_, ho, rfl⟩ PySem.F.entry_list_index (PySem.F.args_list_index_2 _ _)
   (SeqAt.list_indexAt p its.toArray n dd sl u (eqU y) j (by rw [List.size_toArray]; omega) (by omega) ?_ ?_) ⟨ho, fun w hw => mem_eqAt ru fy r fs w (by simpa using hw), ⟨.int j, H, I.tok _, ⟨_, rfl⟩, q⟩⟩
 · rw [vals_nth r fs, (all_get fs hj).2]; exact hy
 · intro m hm hmj
   rw [vals_nth r fs]
   have hm' : m < xs.length := by omega
   have e := List.getElem?_eq_getElem hm'
   rw [(all_get fs e).2]
   exact hno m _ hmj e
end
end L2
namespace L2
open PySem PySem.Spec PyProof.Rows PySem.Calls
theorem snocInd {p : List Str → Prop} (l : List Str) (h0 : p []) (hs : ∀ l v, p l → p (l ++ [v])) : p l := by
 have key : ∀ l : List Str, p l.reverse := fun l => by
   induction l with
   | nil => exact h0
   | cons a r ih => rw [List.reverse_cons]; exact hs _ _ ih
 have := key l.reverse
 rwa [List.reverse_reverse] at this
def stepT (σ : List Str) (v : Str) : List Str := if v ∈ σ then σ else σ ++ [v]
def metT (ws : List Str) : List Str := ws.foldl stepT []
theorem metT_snoc (ws : List Str) (v : Str) : metT (ws ++ [v]) = stepT (metT ws) v := by unfold metT; rw [List.foldl_append]; rfl
theorem stepT_mem (σ : List Str) (v k : Str) : k ∈ stepT σ v ↔ k ∈ σ ∨ k = v := by
 unfold stepT
 split
 · constructor
   · exact .inl
   · rintro (h | h)
     · exact h
     · subst h; assumption
 · simp
theorem metT_mem (ws : List Str) : ∀ k, k ∈ metT ws ↔ k ∈ ws := by
 refine snocInd (p := fun ws => ∀ k, k ∈ metT ws ↔ k ∈ ws) ws (fun k => Iff.rfl) fun l v ih k => ?_
 rw [metT_snoc, stepT_mem, ih k, List.mem_append, List.mem_singleton]
theorem metT_len (ws : List Str) : (metT ws).length ≤ ws.length := by
 refine snocInd (p := fun ws => (metT ws).length ≤ ws.length) ws (Nat.le_refl _) fun l v ih => ?_
 rw [metT_snoc]; unfold stepT
 split <;> simp <;> omega
theorem metT_nodup (ws : List Str) : (metT ws).length = ws.length ↔ ws.Nodup := by
 refine snocInd (p := fun ws => (metT ws).length = ws.length ↔ ws.Nodup) ws (by simp [metT]) fun l v ih => ?_
 rw [metT_snoc, List.nodup_append]
 have hl := metT_len l
 unfold stepT
 by_cases h : v ∈ metT l
 · rw [if_pos h]
   have h' := (metT_mem l v).mp h
   constructor
   · intro e; simp at e; omega
   · intro ⟨_, _, d⟩; exact absurd rfl (d v h' v (by simp))
 · rw [if_neg h]
   have h' : v ∉ l := fun z => h ((metT_mem l v).mpr z)
   simp only [List.length_append, List.length_singleton, Nat.add_right_cancel_iff, ih]
   constructor
   · intro e; exact ⟨e, by simp, fun a ha b hb z => by rw [List.mem_singleton.mp hb] at z; exact h' (z ▸ ha)⟩
   · exact fun ⟨e, _⟩ => e
theorem isStr_self (P : Program) (w : World) (z : Str) (t : Tok) : (strKind P w).is z (.str z t) = true := by
 show Value.isStrOf z (.str z t) = true
 simp [Value.isStrOf]
section
variable {prog : Program} {w : World} {A : Around} {R : Result → Shared → Prop} {I : Addr} {fp wr : List Addr} {G : Array GenState → Array GenState → Prop} {n : Nat} {P : Nat → Value → Prop} {St : Nat → Shared → Prop}
theorem set_loopT (W : WalksS prog w A.in1 I fp wr G n P St) (S : Addr) (hSf : S ∉ fp) (ws : List Str) (hn : ws.length = n) (hval : ∀ i v, P i v → ∃ z t, v = .str z t ∧ ws[i]? = some z) (hb : n + 1 < scanBound) :
   ∀ (k i : Nat) (s : Shared), n - i = k → i ≤ n → St i s →
     s.heap.SetOf (strKind prog w) S (fun k' => decide (k' ∈ metT (ws.take i))) (metT (ws.take i)).length →
     (∀ s', Moved (S :: wr) G s s' → s'.heap.SetOf (strKind prog w) S (fun k' => decide (k' ∈ metT ws)) (metT ws).length → R (.ok (.ret .none)) s') →
     codeAny (model prog w) A (.builtin "set.update.loop" ⟨[.ref S, .ref I], []⟩) R s := by
 have hSw : S ∉ wr := fun h => hSf (W.sub _ h)
 have hsub : ∀ b ∈ wr, b ∈ S :: wr := fun b hb => List.mem_cons_of_mem _ hb
 intro k
 induction k with
 | zero =>
   intro i s hk hi hst hS hR
   have hin : i = n := by omega
   subst hin
   rw [← hn, List.take_length] at hS
   refine codeAny_builtin F.entry_set_update_loop ?_
   rw [Around.under_plainId F.plain_set_update_loop _]
   show wpAny _ A.in1 (pyNext (.ref I) >>= _) _ _ s
   refine wpAny_bind (W.done s _ _ hst fun s' hm => ?_)
   exact wpAny_pure (hR s' (hm.mono hsub) (by
     obtain ⟨o, es, ep, t, ho, rest⟩ := hS
     exact ⟨o, es, ep, t, hm.heap S _ hSw ho, rest⟩))
 | succ k ih =>
   intro i s hk hi hst hS hR
   have hlt : i < n := by omega
   refine codeAny_builtin F.entry_set_update_loop ?_
   rw [Around.under_plainId F.plain_set_update_loop _]
   show wpAny _ A.in1 (pyNext (.ref I) >>= _) _ _ s
   refine wpAny_bind (W.item i s _ _ hlt hst fun v s' hP hst' hm => ?_)
   obtain ⟨z, t, rfl, hz⟩ := hval i v hP
   obtain ⟨o, es, ep, tb, ho, rest⟩ := hS
   have hS' : s'.heap.SetOf (strKind prog w) S (fun k' => decide (k' ∈ metT (ws.take i))) (metT (ws.take i)).length := ⟨o, es, ep, tb, hm.heap S _ hSw ho, rest⟩
   show wpAny _ A.in1 (holding [Value.str z t] (setAdd S (.str z t)) >>= _) _ _ s'
   refine wpAny_bind (wpAny_holding ?_)
   unfold setAdd
   refine wpAny_holding ?_
   refine wpAny_bind ((strKind prog w).pyHash (k := z) (isStr_self _ _ _ _) ?_)
   have hroom : (metT (ws.take i)).length + 1 < scanBound := by have := metT_len (ws.take i); rw [List.length_take] at this; omega
   refine wpAny_setAddHashed_of (knd := strKind prog w) (s := { s' with toks := s'.toks + 1 }) (isStr_self _ _ _ _) rfl hS' hroom fun h' hsb hS2 => ?_
   have et : ws.take (i + 1) = ws.take i ++ [z] := by rw [List.take_succ, hz]; rfl
   have hSi : h'.SetOf (strKind prog w) S (fun k' => decide (k' ∈ metT (ws.take (i + 1)))) (metT (ws.take (i + 1))).length := by
     refine SetOf_congr hS2 (fun k' => ?_) ?_
     · rw [et, metT_snoc, Bool.eq_iff_iff, decide_eq_true_iff, stepT_mem]
       simp only [Bool.or_eq_true, decide_eq_true_iff]
     · rw [et, metT_snoc]
       unfold stepT
       by_cases h : z ∈ metT (ws.take i)
       · rw [if_pos h, if_pos (decide_eq_true h)]
       · rw [if_neg h, if_neg (by simpa using h), List.length_append]; rfl
   refine wpAny_pure ⟨plainId_quiet F.plain_set_update_loop _, ih (i + 1) _ (by omega) hlt (W.frame _ s' _ _ hst' (Nat.le_succ _) fun b hb o e => ?_) hSi fun s'' hm'' hS'' => ?_⟩
   · rw [hsb.2 b (fun h : b = S => hSf (by rw [← h]; exact hb))]; exact e
   · refine hR s'' (Moved.trans W.gtrans ((hm.mono hsub).then_heap (Nat.le_succ _) fun b o hb e => ?_) hm'') hS''
     rw [hsb.2 b (fun h : b = S => hb (by rw [h]; exact List.mem_cons_self))]; exact e
end
theorem sub_tup_set : isSubtype (.type "tuple") (.type "set") = pure false := by rw [isSubtype_type]; kernel_rfl
theorem sub_tup_frozenset : isSubtype (.type "tuple") (.type "frozenset") = pure false := by rw [isSubtype_type]; kernel_rfl
section
variable {prog : Program} {w : World} {A : Around} {E : Value → Shared → Prop} {s : Shared}
set_option maxHeartbeats 3200000 in
theorem set_tupT {l : Addr} {items : Array Value} {ws : List Str} {Q : Value → Shared → Prop}
   (hh : A.handled = none) (hl : IsTup s.heap l items) (hn : ws.length = items.size) (hi : ∀ (i : Nat) v, items[i]? = some v → ∃ z t, v = .str z t ∧ ws[i]? = some z) (hb : items.size + 1 < scanBound)
   (h : ∀ (h' : Heap) (tk : Nat), h'.SetOf (strKind prog w) s.heap.objs.size (fun k' => decide (k' ∈ metT ws)) (metT ws).length →
     (∀ b o, b < s.heap.objs.size → s.heap.get? b = some o → h'.get? b = some o) → Q (.ref s.heap.objs.size) { s with heap := h', toks := tk }) :
   wpAny (model prog w) A (call (.type "set") [.ref l]) Q E s := by
 obtain ⟨c, tl, hmro⟩ := F.called_set.mro
 have hmade := F.called_set.made
 have hsub := F.called_set.sub
 refine wpAny_call (codeAny_of_tree ?_)
 show wpAny _ _ (callAny (.type "set") _) _ _ _
 refine wpAny_pure ⟨Code.quiet_builtin _ (by symm), codeAny_builtin F.entry_type_call ?_⟩
 rw [Around.under_plain (weight_type_call_type "set" [.ref l] []) rfl]
 have h1 := F.called_set.notType
 have h2 := F.called_set.canCreate
 have hct := F.typeCall_set_1 (.ref l)
 repeat (any_goals (first | assumption | wp_step))
 refine codeAny_mono (code_set_new_1 (.ref l) (E := E) (Q₁ := fun obj s₁ => ∃ led : Bool, obj = .ref s.heap.objs.size ∧ s₁ = { s with heap := s.heap.push { cls := .type "set", dict := none, data := .set #[] 0 (.fresh 0 0 led) } }) fun led => ⟨led, rfl, rfl⟩) fun r s₁ hr => ?_
 cases r with
 | error e => exact hr
 | ok fl =>
   cases fl with
   | ret obj =>
     obtain ⟨led, rfl, rfl⟩ := hr
     have hS : (s.heap.push { cls := .type "set", dict := none, data := .set #[] 0 (.fresh 0 0 led) }).get? s.heap.objs.size = some { cls := .type "set", dict := none, data := .set #[] 0 (.fresh 0 0 led) } := Heap.get?_push_size _ rfl
     have hT : Shared.TypeIs { s with heap := s.heap.push { cls := .type "set", dict := none, data := .set #[] 0 (.fresh 0 0 led) } } (.ref s.heap.objs.size) "set" := ⟨_, hS, rfl⟩
     have hli := F.called_set.init.lookup
     have hbi := F.called_set.init.bind (.ref s.heap.objs.size)
     repeat (any_goals (first | assumption | wp_step))
     refine codeAny_mono (codeAny_call_builtin (R := wants (fun r s₂ => r = .none ∧ ∃ h' tk, s₂ = { s with heap := h', toks := tk } ∧
         h'.SetOf (strKind prog w) s.heap.objs.size (fun k' => decide (k' ∈ metT ws)) (metT ws).length ∧
         (∀ b o, b < s.heap.objs.size → s.heap.get? b = some o → h'.get? b = some o)) E) F.called_set.init.plain F.entry_set_init (check_set_init_1 hT ?_)) fun r₂ s₂ hr₂ => ?_
     · obtain ⟨ol, hol, hcl, nl, hdl⟩ := hl
       obtain ⟨ocls, odict, odata, oslots⟩ := ol
       simp only at hcl hdl
       subst hcl; subst hdl
       have hol' : (s.heap.push { cls := .type "set", dict := none, data := .set #[] 0 (.fresh 0 0 led) }).get? l = some { cls := .type "tuple", dict := odict, data := .seq items nl, slots := oslots } := Heap.get?_push_of_some _ hol
       have hsls := sub_tup_set
       have hslf := sub_tup_frozenset
       have hne : (Value.type "tuple" == Value.type "dict") = false := by decide
       have hl1 : (s.heap.push { cls := .type "set", dict := none, data := .set #[] 0 (.fresh 0 0 led) }).IsTuple l items := ⟨_, hol', rfl, nl, rfl⟩
       unfold Builtin.«set.__init__» noKeywords Builtin.Frozenset.updateFrom
       generalize hPI : pyIter = PI
       wp_walk
       subst hPI
       refine wpAny_pyIter_tuple hl1 ?_
       refine wpAny_bind (wpAny_runValue ?_)
       have hlS : l < s.heap.objs.size := Heap.lt_size hol
       have hh3 : A.in1.in1.in1.handled = none := by simp [hh]
       have hneI : l ≠ (s.heap.push { cls := .type "set", dict := none, data := .set #[] 0 (.fresh 0 0 led) }).objs.size := by
         rw [Heap.size_push]; exact Nat.ne_of_lt (Nat.lt_succ_of_lt hlS)
       have hSf : s.heap.objs.size ∉ [(s.heap.push { cls := .type "set", dict := none, data := .set #[] 0 (.fresh 0 0 led) }).objs.size, l] := by
         rw [Heap.size_push]; simp only [List.mem_cons, List.mem_singleton, List.not_mem_nil, or_false, not_or]
         exact ⟨Nat.ne_of_lt (Nat.lt_succ_self _), Nat.ne_of_gt hlS⟩
       refine set_loopT ((Walks.tuple hh3 _ l hneI items).toS) s.heap.objs.size
         hSf ws hn hi hb (items.size - 0) 0 _ (by omega) (Nat.zero_le _)
         ⟨⟨_, Heap.get?_push_size _ rfl, rfl, rfl⟩, ⟨_, Heap.get?_push_of_some _ hol', rfl, nl, rfl⟩⟩ ?hS0 ?hR
       case hS0 =>
         have hget : ((s.heap.push { cls := .type "set", dict := none, data := .set #[] 0 (.fresh 0 0 led) }).push { cls := .type "tuple_iterator", data := .fields #[.ref l, .int 0 0] }).get? s.heap.objs.size
             = some { cls := .type "set", dict := none, data := .set #[] 0 (.fresh 0 0 led) } := Heap.get?_push_of_some _ hS
         exact SetOf_congr ((setObjOf_fresh (knd := strKind prog w) led).setOf hget (by unfold scanBound; omega)) (fun _ => rfl) rfl
       case hR =>
         intro s' hm hS'
         obtain ⟨h', g', d', tk', os'⟩ := s'
         have eg : g' = s.gens := hm.gens
         have ed : d' = s.drawn := hm.drawn
         have eo : os' = s.os := hm.os
         subst eg; subst ed; subst eo
         show wpAny _ _ _ _ _ _
         refine wpAny_pure ?_
         show wpAny _ _ (ret Value.none) _ _ _
         refine wpAny_pure ⟨rfl, h', tk', rfl, hS', fun b o hb e => ?_⟩
         have hb1 : b ≠ s.heap.objs.size := Nat.ne_of_lt hb
         have hb2 : b ≠ (s.heap.push { cls := .type "set", dict := none, data := .set #[] 0 (.fresh 0 0 led) }).objs.size := by
           rw [Heap.size_push]; exact Nat.ne_of_lt (Nat.lt_succ_of_lt hb)
         exact hm.heap b o (by simp only [List.mem_cons, List.mem_singleton, List.not_mem_nil, or_false, not_or]; exact ⟨hb1, hb2⟩) (Heap.get?_push_of_some _ (Heap.get?_push_of_some _ e))
     · cases r₂ with
       | error e => exact hr₂
       | ok fl₂ =>
         cases fl₂ with
         | ret r =>
           obtain ⟨rfl, h', tk, rfl, hS', hk'⟩ := hr₂
           repeat (any_goals (first | assumption | wp_step))
           exact h _ _ hS' hk'
         | _ => exact hr₂.elim
   | _ => exact hr.elim
end
def SetT (P : Program) (w : World) (a : Addr) (S : Str → Bool) (n : Nat) : HO := .ext fun h => h.SetOf (strKind P w) a S n
section
variable {X : Cx}
theorem call_set_tup (hc : X.calm = true) : CallR X (.type "set") (fun xs H Q => ∃ (p : Addr) (ws : List Str), xs = [.ref p] ∧ SqT X.K H p (ws.map V.str) ∧ ws.length ≤ 1000 ∧ ∀ l, H l = none → Q (.ref l) (upd H l (SetT X.prog X.w l (fun k => decide (k ∈ metT ws)) (metT ws).length))) := by
 intro pins s σ H xs us Q I r h
 obtain ⟨p, ws, rfl, hq, hw, q⟩ := h
 obtain ⟨u, rfl, ru⟩ := vals1 r
 cases ru
 obtain ⟨its, rv, pl, hz⟩ := I.tuple hq
 have hl := rv.length
 rw [List.length_map] at hl
 refine set_tupT (ws := ws) (I.ok.hd hc) pl (by rw [List.size_toArray]; omega) (fun i v hv => ?_) (by rw [List.size_toArray]; unfold scanBound; omega) (fun h' tk hS k => ?_)
 · have hv' : its[i]? = some v := by simpa using hv
   obtain ⟨x, hx, rx⟩ := vals_at rv (j := i) (by rw [List.size_toArray]; exact (List.getElem?_eq_some_iff.mp hv').1)
   obtain ⟨z, hz', rfl⟩ := map_get hx
   obtain ⟨t, e⟩ := rx
   refine ⟨z, t, ?_, hz'⟩
   rw [← e]
   exact (List.getElem?_eq_some_iff.mp hv').2.symm.trans (by simp)
 · refine ⟨.ref s.heap.objs.size, _, I.laid (t' := tk) (a := s.heap.objs.size) (o := SetT X.prog X.w s.heap.objs.size (fun k => decide (k ∈ metT ws)) (metT ws).length) (fun b o e => k b o (Heap.lt_size e) e) (Nat.le_refl _) ?_, rfl, q _ (I.hok.fresh (Nat.le_refl _))⟩
   obtain ⟨o, es, ep, t, ho, rest⟩ := hS
   refine ⟨⟨o, es, ep, t, ho, rest⟩, ⟨o, ho⟩, fun h1 h2 ⟨o1, es1, ep1, t1, ho1, rest1⟩ hk => ⟨o1, es1, ep1, t1, hk _ ho1, rest1⟩⟩
theorem call_len_setT : CallR X (.builtin "len") (fun xs H Q => ∃ p S n, xs = [.ref p] ∧ H p = some (SetT X.prog X.w p S n) ∧ Q (.int (n : Nat)) H) := by
 intro pins s σ H xs us Q I r h
 obtain ⟨p, S, n, rfl, hp, q⟩ := h
 obtain ⟨u, rfl, ru⟩ := vals1 r
 cases ru
 obtain ⟨⟨o, es, ep, t, ho, hex, hd, _, _, hb, hf, e⟩, _⟩ := (show ObjOk X.prog X.w H s.heap p (SetT X.prog X.w p S n) from I.hok p _ hp)
 subst e
 exact call_len_set ho hex hd hf (by unfold scanBound at hb; omega) ⟨.int es.size, H, I.tok _, ⟨_, rfl⟩, q⟩
end
end L2
namespace L2
open PySem PySem.Spec PyProof.Rows PySem.Calls
theorem vals_strs : ∀ (ws : List Str) (tk : Nat), Vals (ws.map V.str) (strsFrom tk ws)
 | [], _ => .nil
 | x :: r, tk => .cons ⟨tk, rfl⟩ (vals_strs r (tk + 1))
section
variable {X : Cx}
theorem mt_split : MtM X "str.split" (fun x vs H Q => ∃ z y, x = .str z ∧ vs = [.str y] ∧ 0 < y.length ∧ z.length ≤ 100000 ∧ ∀ l, H l = none → Q (.ref l) (upd H l (.lst ((Txt.split z y).map V.str)))) := by
 intro pins s σ H x vs v us Q I rx rv h
 obtain ⟨z, y, rfl, rfl, hy, hz, q⟩ := h
 obtain ⟨t, rfl⟩ := rx
 obtain ⟨u, rfl, ⟨t', rfl⟩⟩ := rv.one
 have hy' : (y.length == 0) = false := by rw [beq_eq_false_iff_ne]; omega
 have hle := split_le z y
 have hsz : (Txt.split z y).length ≤ sizeLine := by rw [sizeLine_eq]; omega
 have hzs : z.length ≤ sizeLine := by rw [sizeLine_eq]; omega
 have q := q _ (I.hok.fresh (Nat.le_refl _))
 have fin : ∀ (its : List Value) (tk : Nat), Vals ((Txt.split z y).map V.str) its → EP X pins σ Q (.ref s.heap.objs.size) { s with toks := tk, heap := s.heap.push { cls := .type "list", data := .seq its.toArray } } := fun its tk r =>
   ⟨.ref s.heap.objs.size, _, I.laid (t' := tk) (a := s.heap.objs.size) (fun b o e => Heap.get?_push_of_some _ e) (Nat.le_refl _) (show ObjOk X.prog X.w _ _ _ (.lst ((Txt.split z y).map V.str)) from ⟨by rw [List.length_map]; exact hsz, its, _, r, Heap.get?_push_size _ rfl⟩), rfl, q⟩
 cases h1 : (decide (z.length < y.length) || decide (Builtin.Str.strKind z < Builtin.Str.strKind y)) with
 | true =>
   have e : Txt.split z y = [z] := if_pos h1
   exact call_meets PySem.F.slot_str_split (typeIs_str _ _ _) PySem.F.entry_str_split (PySem.F.args_str_split_2 _ _) (meets_str_split_cannot_occur z y t t' h1) (fin [.str z t] _ (by rw [e]; exact .cons ⟨t, rfl⟩ .nil))
 | false =>
   cases hf : (Builtin.Str.occurrences z y 0 z.length (z.length + 1)).isEmpty with
   | true =>
     have e : Txt.split z y = [z] := (if_neg (ne_true_of_eq_false h1)).trans (if_pos hf)
     exact call_meets PySem.F.slot_str_split (typeIs_str _ _ _) PySem.F.entry_str_split (PySem.F.args_str_split_2 _ _) (meets_str_split_not_found z y t t' h1 hy' hf) (fin [.str z t] _ (by rw [e]; exact .cons ⟨t, rfl⟩ .nil))
   | false =>
     have e : Txt.split z y = Builtin.Str.partsBetween z (Builtin.Str.occurrences z y 0 z.length (z.length + 1)) y.length := (if_neg (ne_true_of_eq_false h1)).trans (if_neg (ne_true_of_eq_false hf))
     refine call_meets PySem.F.slot_str_split (typeIs_str _ _ _) PySem.F.entry_str_split (PySem.F.args_str_split_2 _ _) (meets_str_split_sep z y t t' h1 hy' hf hzs (by rw [← e]; exact hsz)) (fin _ _ ?_)
     rw [e]; exact vals_strs _ _
end
theorem comp_tup {K : PySem.W.Frag} {a : Addr} {xs : List V} {te : TE} {σ : St} {H : Hp} {Q : VK} (hz : xs.length ≤ sizeLine) (W : Nat → List V → Hp → Prop) (h0 : W 0 [] H) (hq : ∀ i ys H, W i ys H → SqT K H a xs)
   (hs : ∀ i x ys H, xs[i]? = some x → ys.length = i → W i ys H → te (some x :: σ) H fun v H' => W (i + 1) (ys ++ [v]) H')
   (hd : ∀ ys H, ys.length = xs.length → W xs.length ys H → ∀ p, H p = none → Q (.ref p) (upd H p (.lst ys))) : CompR (Itt K a) te σ H Q := by
 refine ⟨xs.length, W, hz, h0, fun i ys H hi hl hw => ?_⟩
 have q := hq i ys H hw
 by_cases hlt : i < xs.length
 · refine .inr ⟨⟨xs, xs[i], q, by simp [hlt]⟩, hlt, fun v H' y => ?_⟩
   obtain ⟨e, y⟩ := y
   subst e
   exact hs i v ys _ (y xs q) hl hw
 · have e : i = xs.length := by omega
   subst e
   exact .inl ⟨⟨xs, q, Nat.le_refl _⟩, hd ys H hl hw⟩
theorem joinL_inj : ∀ {a b : List (List Nat)}, a ≠ [] → b ≠ [] → (∀ p ∈ a, 32 ∉ p) → (∀ p ∈ b, 32 ∉ p) → joinL [32] a = joinL [32] b → a = b := by
 have cut : ∀ {x y u v : List Nat}, 32 ∉ x → 32 ∉ y → x ++ 32 :: u = y ++ 32 :: v → x = y ∧ u = v := by
   intro x
   induction x with
   | nil =>
     intro y u v hx hy e
     cases y with
     | nil => exact ⟨rfl, (List.cons.inj e).2⟩
     | cons b r => exact absurd (by rw [show b = 32 from (List.cons.inj e).1.symm]; simp) hy
   | cons a x ih =>
     intro y u v hx hy e
     cases y with
     | nil => exact absurd (by rw [show a = 32 from (List.cons.inj e).1]; simp) hx
     | cons b r =>
       have h := List.cons.inj e
       obtain ⟨h1, h2⟩ := ih (fun z => hx (List.mem_cons_of_mem _ z)) (fun z => hy (List.mem_cons_of_mem _ z)) h.2
       exact ⟨by rw [h.1, h1], h2⟩
 intro a
 induction a with
 | nil => intro b h; exact absurd rfl h
 | cons x r ih =>
   intro b _ hb ha hbb e
   cases b with
   | nil => exact absurd rfl hb
   | cons y s =>
     have fx := ha x (by simp)
     have fy := hbb y (by simp)
     cases r with
     | nil =>
       cases s with
       | nil => exact congrArg (· :: []) e
       | cons y2 s =>
         have e' : x = y ++ [32] ++ joinL [32] (y2 :: s) := e
         exact absurd (by rw [e']; simp) fx
     | cons x2 r =>
       cases s with
       | nil =>
         have e' : x ++ [32] ++ joinL [32] (x2 :: r) = y := e
         exact absurd (by rw [← e']; simp) fy
       | cons y2 s =>
         have e' : x ++ [32] ++ joinL [32] (x2 :: r) = y ++ [32] ++ joinL [32] (y2 :: s) := e
         rw [List.append_assoc, List.append_assoc] at e'
         obtain ⟨h1, h2⟩ := cut fx fy e'
         have := ih (b := y2 :: s) (by simp) (by simp) (fun p hp => ha p (List.mem_cons_of_mem _ hp)) (fun p hp => hbb p (List.mem_cons_of_mem _ hp)) h2
         rw [h1, this]
def splitL (l : List Nat) : List (List Nat) := (Txt.split (S l) (S [32])).map cd
theorem splitL_free {l p : List Nat} (h : p ∈ splitL l) : 32 ∉ p := by
 obtain ⟨z, hz, rfl⟩ := List.mem_map.mp h
 exact StrLaws.split_free (S l) 32 z hz
theorem splitL_ne (l : List Nat) : splitL l ≠ [] := by
 intro e
 have := split_pos (S l) (S [32])
 have e2 := congrArg List.length e
 unfold splitL at e2
 rw [List.length_map] at e2
 rw [e2] at this; cases this
theorem splitL_join (l : List Nat) : joinL [32] (splitL l) = l := by
 have e := StrLaws.join_split (S l) (S [32])
 rw [← StrLaws.glued_eq_join] at e
 have e2 := joinS_is (S [32]) (Txt.split (S l) (S [32]))
 rw [show joinS (S [32]) (Txt.split (S l) (S [32])) = S l from e] at e2
 exact (S_inj e2).symm
theorem splitL_of {ws : List (List Nat)} (h : ws ≠ []) (hf : ∀ p ∈ ws, 32 ∉ p) : splitL (joinL [32] ws) = ws :=
 joinL_inj (splitL_ne _) h (fun _ hp => splitL_free hp) hf (splitL_join _)
theorem split_is (z : Str) : Txt.split z (S [32]) = (splitL (cd z)).map S := by
 unfold splitL
 rw [List.map_map, S_cd]
 have : (S ∘ cd) = id := funext fun x => S_cd x
 rw [this, List.map_id]
theorem splitL_one {l : List Nat} (h : 32 ∉ l) : splitL l = [l] := by
 have := splitL_of (ws := [l]) (by simp) (by simpa using h)
 exact this
end L2
namespace HT
open PySem PySem.Spec PyProof.Rows PySem.Calls
section
variable {prog : Program} {w : World} {A : Around} {E : Value → Shared → Prop} {s : Shared}
theorem getItem_tuple_whole {t sl : Addr} {items : Array Value} {vl vu : Value} {lo hi : Option Int} {Q : Value → Shared → Prop} (ht : IsTup s.heap t items) (hs : s.heap.IsSliceOf sl vl vu .none) (pl : IsPart vl lo) (pu : IsPart vu hi)
   (hw : sIx items.size 0 lo = 0 ∧ sIx items.size items.size hi = items.size) (h : Q (.ref t) s) : wpAny (model prog w) A (getItem (.ref t) (.ref sl)) Q E s := by
 obtain ⟨os, hos, hcs, hds⟩ := id hs
 have hTs : s.TypeIs (.ref sl) "slice" := ⟨os, hos, hcs⟩
 unfold getItem
 try with_reducible refine wpAny_holding ?_
 first | refine wpAny_bind (wpAny_pure ?_) | skip
 refine wpAny_bind (wpAny_sequenceKey ht.typeIs (by decide) ?_)
 refine wpAny_bind (wpAny_callSpecial?_slot (name := Str.ofString "__getitem__") ht.typeIs PyProof.Rows.slot_tuple_getitem
   (wpAny_call_entry PyProof.Rows.slot_tuple_getitem ht.typeIs entry_tuple_getitem ?_ (args_tuple_getitem _ _)))
 show wpAny _ _ (Builtin.Tuple.tupleItemsOf (.ref t) >>= _) _ _ s
 refine wpAny_bind (tupleItemsOf_ ht ?_)
 refine wpAny_bind (wpAny_typeOf hTs ?_)
 rw [if_pos (by decide)]
 refine wpAny_bind (sliceApplied_gen hs pl pu ?_)
 have hyes : ((((sIx items.size 0 lo : Nat) : Int) == 0 && (1 : Int) == 1 && (sIx items.size items.size hi - sIx items.size 0 lo) == items.size) = true) := by
   rw [hw.1, hw.2]; simp
 show wpAny _ _ (if (((sIx items.size 0 lo : Nat) : Int) == 0 && (1 : Int) == 1 && (sIx items.size items.size hi - sIx items.size 0 lo) == items.size) = true then _ else _) _ _ s
 rw [if_pos hyes]
 unfold Builtin.Tuple.tupleIsExact
 refine wpAny_bind (wpAny_bind (wpAny_typeOf ht.typeIs (wpAny_pure ?_)))
 rw [if_pos (by decide)]
 refine wpAny_bind (wpAny_rule ?_)
 first
   | exact wpAny_pure ⟨_, rfl, wpAny_pure h⟩
   | exact wpAny_bind (wpAny_pure (wpAny_pure ⟨_, rfl, wpAny_pure h⟩))
   | exact wpAny_bind (wpAny_pure (wpAny_bind (wpAny_pure (wpAny_pure ⟨_, rfl, wpAny_pure h⟩))))
end
end HT
namespace L2
open PySem PySem.Spec PyProof.Rows PySem.Calls
section
variable {X : Cx}
theorem sl_tup2 : SlR X (fun x lo hi H Q => ∃ a xs, x = .ref a ∧ SqT X.K H a xs ∧ ∀ p H', Same H H' → SqT X.K H' p (cutV xs lo hi) → Q (.ref p) H') := by
 intro pins s σ H x v vl vu lo hi sl Q I rx hs pl pu h
 obtain ⟨a, xs, rfl, hx, q⟩ := h
 by_cases hw : HT.sIx xs.length 0 lo = 0 ∧ HT.sIx xs.length xs.length hi = xs.length
 · cases rx
   obtain ⟨its, r, ht, hz⟩ := I.tuple hx
   have hlen : its.toArray.size = xs.length := by rw [List.size_toArray]; exact r.length.symm
   refine ⟨"tuple", _, PyProof.Rows.slot_tuple_getitem.lookup, ht.typeIs, ?_⟩
   refine HT.getItem_tuple_whole ht hs pl pu (by rw [hlen]; exact hw) ⟨.ref a, H, I, rfl, q a H (Same.refl _) ?_⟩
   have e : cutV xs lo hi = xs := by unfold cutV; rw [hw.1, hw.2, List.drop_zero, Nat.sub_zero, List.take_length]
   rw [e]; exact hx
 · exact sl_tup pins s σ H (.ref a) v vl vu lo hi sl Q I rx hs pl pu ⟨a, xs, rfl, hx, hw, fun p hp => q p _ (zJ hp _) (SqT.of zE)⟩
end
end L2
namespace L2
open PySem PySem.Spec PyProof.Rows PySem.Calls
structure CompOk2 (X : Cx) (scope : Scope) (x y : Str) (M : List Str) : Prop where
 base : CompOk X scope x M
 loc2 : scope.names.lookup y = some .local
 nd2 : (x :: y :: M).Nodup
section
variable {X : Cx} {scope : Scope} {x y : Str} {M : List Str} {pins : List (Addr × Obj)} {σ : St} {H₂ : Hp} {s₂ : Shared} {elt iter tg : Expr} {ifs : List Expr} {pos : Pos} {te : TE} {wi : TI} {g : TG} {tc : TT}
end
end L2
namespace L2
open PySem PySem.Spec PyProof.Rows PySem.Calls
section
variable {X : Cx} {scope : Scope} {x y : Str} {M : List Str} {elt iter : Expr} {ifs : List Expr} {pos p1 p2 p3 : Pos} {kk : Nat} {te : TE} {wi : TI} {tc : TT}
structure CompRT (K : PySem.W.Frag) (J : It) (tc : TT) (te : TE) (σ : St) (H1 : Hp) (Q : VK) : Prop where
 ex : ∃ (n : Nat) (W : Nat → List V → Hp → Prop), n ≤ sizeLine ∧ W 0 [] H1 ∧ ∀ i ys H, i ≤ n → ys.length ≤ i → W i ys H →
   (J.stop i H ∧ ∀ p, H p = none → Q (.ref p) (upd H p (.lst ys))) ∨ (J.go i H ∧ i < n ∧ ∀ z H', J.yld i H z H' → ∃ (p : Addr) (a b : V), z = .ref p ∧ SqT K H' p [a, b] ∧ tc (some a :: some b :: σ) H' fun c H3 => if c = true then te (some a :: some b :: σ) H3 fun z H4 => W (i + 1) (ys ++ [z]) H4 else W (i + 1) ys H3)
end
theorem sub_lst_set : isSubtype (.type "list") (.type "set") = pure false := by rw [isSubtype_type]; kernel_rfl
theorem sub_lst_frozenset : isSubtype (.type "list") (.type "frozenset") = pure false := by rw [isSubtype_type]; kernel_rfl
section
variable {prog : Program} {w : World} {A : Around} {E : Value → Shared → Prop} {s : Shared}
set_option maxHeartbeats 3200000 in
theorem set_listT {l : Addr} {items : Array Value} {ws : List Str} {Q : Value → Shared → Prop}
   (hh : A.handled = none) (hl : s.heap.IsList l items) (hn : ws.length = items.size) (hi : ∀ (i : Nat) v, items[i]? = some v → ∃ z t, v = .str z t ∧ ws[i]? = some z) (hb : items.size + 1 < scanBound)
   (h : ∀ (h' : Heap) (tk : Nat), h'.SetOf (strKind prog w) s.heap.objs.size (fun k' => decide (k' ∈ metT ws)) (metT ws).length →
     (∀ b o, b < s.heap.objs.size → s.heap.get? b = some o → h'.get? b = some o) → Q (.ref s.heap.objs.size) { s with heap := h', toks := tk }) :
   wpAny (model prog w) A (call (.type "set") [.ref l]) Q E s := by
 obtain ⟨c, tl, hmro⟩ := F.called_set.mro
 have hmade := F.called_set.made
 have hsub := F.called_set.sub
 refine wpAny_call (codeAny_of_tree ?_)
 show wpAny _ _ (callAny (.type "set") _) _ _ _
 refine wpAny_pure ⟨Code.quiet_builtin _ (by symm), codeAny_builtin F.entry_type_call ?_⟩
 rw [Around.under_plain (weight_type_call_type "set" [.ref l] []) rfl]
 have h1 := F.called_set.notType
 have h2 := F.called_set.canCreate
 have hct := F.typeCall_set_1 (.ref l)
 repeat (any_goals (first | assumption | wp_step))
 refine codeAny_mono (code_set_new_1 (.ref l) (E := E) (Q₁ := fun obj s₁ => ∃ led : Bool, obj = .ref s.heap.objs.size ∧ s₁ = { s with heap := s.heap.push { cls := .type "set", dict := none, data := .set #[] 0 (.fresh 0 0 led) } }) fun led => ⟨led, rfl, rfl⟩) fun r s₁ hr => ?_
 cases r with
 | error e => exact hr
 | ok fl =>
   cases fl with
   | ret obj =>
     obtain ⟨led, rfl, rfl⟩ := hr
     have hS : (s.heap.push { cls := .type "set", dict := none, data := .set #[] 0 (.fresh 0 0 led) }).get? s.heap.objs.size = some { cls := .type "set", dict := none, data := .set #[] 0 (.fresh 0 0 led) } := Heap.get?_push_size _ rfl
     have hT : Shared.TypeIs { s with heap := s.heap.push { cls := .type "set", dict := none, data := .set #[] 0 (.fresh 0 0 led) } } (.ref s.heap.objs.size) "set" := ⟨_, hS, rfl⟩
     have hli := F.called_set.init.lookup
     have hbi := F.called_set.init.bind (.ref s.heap.objs.size)
     repeat (any_goals (first | assumption | wp_step))
     refine codeAny_mono (codeAny_call_builtin (R := wants (fun r s₂ => r = .none ∧ ∃ h' tk, s₂ = { s with heap := h', toks := tk } ∧
         h'.SetOf (strKind prog w) s.heap.objs.size (fun k' => decide (k' ∈ metT ws)) (metT ws).length ∧
         (∀ b o, b < s.heap.objs.size → s.heap.get? b = some o → h'.get? b = some o)) E) F.called_set.init.plain F.entry_set_init (check_set_init_1 hT ?_)) fun r₂ s₂ hr₂ => ?_
     · obtain ⟨ol, hol, hcl, nl, hdl⟩ := hl
       obtain ⟨ocls, odict, odata, oslots⟩ := ol
       simp only at hcl hdl
       subst hcl; subst hdl
       have hol' : (s.heap.push { cls := .type "set", dict := none, data := .set #[] 0 (.fresh 0 0 led) }).get? l = some { cls := .type "list", dict := odict, data := .seq items nl, slots := oslots } := Heap.get?_push_of_some _ hol
       have hsls := sub_lst_set
       have hslf := sub_lst_frozenset
       have hne : (Value.type "list" == Value.type "dict") = false := by decide
       have hl1 : (s.heap.push { cls := .type "set", dict := none, data := .set #[] 0 (.fresh 0 0 led) }).IsList l items := ⟨_, hol', rfl, nl, rfl⟩
       unfold Builtin.«set.__init__» noKeywords Builtin.Frozenset.updateFrom
       generalize hPI : pyIter = PI
       wp_walk
       subst hPI
       refine wpAny_pyIter_list hl1 ?_
       refine wpAny_bind (wpAny_runValue ?_)
       have hlS : l < s.heap.objs.size := Heap.lt_size hol
       have hh3 : A.in1.in1.in1.handled = none := by simp [hh]
       have hneI : l ≠ (s.heap.push { cls := .type "set", dict := none, data := .set #[] 0 (.fresh 0 0 led) }).objs.size := by
         rw [Heap.size_push]; exact Nat.ne_of_lt (Nat.lt_succ_of_lt hlS)
       have hSf : s.heap.objs.size ∉ [(s.heap.push { cls := .type "set", dict := none, data := .set #[] 0 (.fresh 0 0 led) }).objs.size, l] := by
         rw [Heap.size_push]; simp only [List.mem_cons, List.mem_singleton, List.not_mem_nil, or_false, not_or]
         exact ⟨Nat.ne_of_lt (Nat.lt_succ_self _), Nat.ne_of_gt hlS⟩
       refine set_loopT ((Walks.list hh3 _ l hneI items).toS) s.heap.objs.size
         hSf ws hn hi hb (items.size - 0) 0 _ (by omega) (Nat.zero_le _)
         ⟨⟨_, Heap.get?_push_size _ rfl, rfl, rfl⟩, ⟨_, Heap.get?_push_of_some _ hol', rfl, nl, rfl⟩⟩ ?hS0 ?hR
       case hS0 =>
         have hget : ((s.heap.push { cls := .type "set", dict := none, data := .set #[] 0 (.fresh 0 0 led) }).push { cls := .type "list_iterator", data := .fields #[.ref l, .int 0 0] }).get? s.heap.objs.size
             = some { cls := .type "set", dict := none, data := .set #[] 0 (.fresh 0 0 led) } := Heap.get?_push_of_some _ hS
         exact SetOf_congr ((setObjOf_fresh (knd := strKind prog w) led).setOf hget (by unfold scanBound; omega)) (fun _ => rfl) rfl
       case hR =>
         intro s' hm hS'
         obtain ⟨h', g', d', tk', os'⟩ := s'
         have eg : g' = s.gens := hm.gens
         have ed : d' = s.drawn := hm.drawn
         have eo : os' = s.os := hm.os
         subst eg; subst ed; subst eo
         show wpAny _ _ _ _ _ _
         refine wpAny_pure ?_
         show wpAny _ _ (ret Value.none) _ _ _
         refine wpAny_pure ⟨rfl, h', tk', rfl, hS', fun b o hb e => ?_⟩
         have hb1 : b ≠ s.heap.objs.size := Nat.ne_of_lt hb
         have hb2 : b ≠ (s.heap.push { cls := .type "set", dict := none, data := .set #[] 0 (.fresh 0 0 led) }).objs.size := by
           rw [Heap.size_push]; exact Nat.ne_of_lt (Nat.lt_succ_of_lt hb)
         exact hm.heap b o (by simp only [List.mem_cons, List.mem_singleton, List.not_mem_nil, or_false, not_or]; exact ⟨hb1, hb2⟩) (Heap.get?_push_of_some _ (Heap.get?_push_of_some _ e))
     · cases r₂ with
       | error e => exact hr₂
       | ok fl₂ =>
         cases fl₂ with
         | ret r =>
           obtain ⟨rfl, h', tk, rfl, hS', hk'⟩ := hr₂
           repeat (any_goals (first | assumption | wp_step))
           exact h _ _ hS' hk'
         | _ => exact hr₂.elim
   | _ => exact hr.elim
end
section
variable {X : Cx}
theorem call_set_lst (hc : X.calm = true) : CallR X (.type "set") (fun xs H Q => ∃ (p : Addr) (ws : List Str), xs = [.ref p] ∧ SqL X.K H p (ws.map V.str) ∧ ws.length ≤ 1000 ∧ ∀ l, H l = none → Q (.ref l) (upd H l (SetT X.prog X.w l (fun k => decide (k ∈ metT ws)) (metT ws).length))) := by
 intro pins s σ H xs us Q I r h
 obtain ⟨p, ws, rfl, hq, hw, q⟩ := h
 obtain ⟨u, rfl, ru⟩ := vals1 r
 cases ru
 obtain ⟨its, rv, pl, hz⟩ := I.list hq
 have hl := rv.length
 rw [List.length_map] at hl
 refine set_listT (ws := ws) (I.ok.hd hc) pl.isList (by rw [List.size_toArray]; omega) (fun i v hv => ?_) (by rw [List.size_toArray]; unfold scanBound; omega) (fun h' tk hS k => ?_)
 · have hv' : its[i]? = some v := by simpa using hv
   obtain ⟨x, hx, rx⟩ := vals_at rv (j := i) (by rw [List.size_toArray]; exact (List.getElem?_eq_some_iff.mp hv').1)
   obtain ⟨z, hz', rfl⟩ := map_get hx
   obtain ⟨t, e⟩ := rx
   refine ⟨z, t, ?_, hz'⟩
   rw [← e]
   exact (List.getElem?_eq_some_iff.mp hv').2.symm.trans (by simp)
 · refine ⟨.ref s.heap.objs.size, _, I.laid (t' := tk) (a := s.heap.objs.size) (o := SetT X.prog X.w s.heap.objs.size (fun k => decide (k ∈ metT ws)) (metT ws).length) (fun b o e => k b o (Heap.lt_size e) e) (Nat.le_refl _) ?_, rfl, q _ (I.hok.fresh (Nat.le_refl _))⟩
   obtain ⟨o, es, ep, t, ho, rest⟩ := hS
   refine ⟨⟨o, es, ep, t, ho, rest⟩, ⟨o, ho⟩, fun h1 h2 ⟨o1, es1, ep1, t1, ho1, rest1⟩ hk => ⟨o1, es1, ep1, t1, hk _ ho1, rest1⟩⟩
end
section
variable {X : Cx} {tg : Expr}
end
end L2
namespace L2
open PySem PySem.Spec PyProof.Rows PySem.Calls
end L2
namespace L2
open PySem PySem.Spec PyProof.Rows PySem.Calls
def tDropX (te : TEx) : TSx := fun D E σ H => te σ H (fun _ H1 => D.nx σ H1) (E σ)
theorem psx_expr {X : Cx} {e : Expr} {te : TEx} {pos : Pos} (he : PEx X e te) (hs : swapsWith e none pos.line X.env = pure false := by rfl) : PSx X (.Expr e pos) (tDropX te) := by
 intro pins s σ H D E I h
 exact wpAny_Expr_any (wpAny_mono (he pins s σ H _ _ I h) (fun v s1 ⟨x, H1, I1, r1, q1⟩ => ⟨σ, H1, I1, q1⟩) fun e s' z => ⟨σ, z⟩) I.quiet hs
end L2
namespace L2
open PySem PySem.Spec PyProof.Rows PySem.Calls
open PySem.W (tabObj CodeHd kla_obj kla_fn)
structure LamD where
 qual : Str
 params : Arguments
 body : Expr
 scope : Scope
 x : Str
 y : Str
def SameB (P : Addr) (H H' : Hp) : Prop := ∀ b u, b ≠ P → H b = some u → H' b = some u
theorem SameB.trans {P : Addr} {H H1 H2 : Hp} (a : SameB P H H1) (b : SameB P H1 H2) : SameB P H H2 := fun c u n e => b c u n (a c u n e)
theorem SameB.refl {P : Addr} {H : Hp} : SameB P H H := fun _ _ _ e => e
theorem IsCell.one {h1 h2 : Heap} {c : Addr} {v : Option Value} (x : h1.IsCell c v) (k : ∀ o, h1.get? c = some o → h2.get? c = some o) : h2.IsCell c v :=
 let ⟨o, ho, hd⟩ := x; ⟨o, k o ho, hd⟩
structure LamD.Ok (D : LamD) : Prop where
 kind : D.scope.kind = .function
 co : D.scope.isCoroutine = false
 gen : D.scope.isGenerator = false
 names : D.scope.names = [(D.x, .local), (D.y, .free)]
 ne : D.x ≠ D.y
 bind : ∀ (cc : Addr) (pm cdv ct u : Value), bindArgs (kla_fn "<lambda>" D.qual D.params D.body D.scope [(D.y, cc)] pm cdv ct) ⟨[u], []⟩ = pure [(D.x, u)]
theorem LamD.Ok.of {D : LamD} (O : D.Ok) {x : Str} {k : NameKind} (h : D.scope.names.lookup x = some k) : (x = D.x ∧ k = .local) ∨ (x = D.y ∧ k = .free) := by
 rw [O.names, List.lookup_cons] at h
 cases e : x == D.x with
 | true => rw [e] at h; cases h; exact .inl ⟨eq_of_beq e, rfl⟩
 | false =>
   rw [e, List.lookup_cons] at h
   cases e2 : x == D.y with
   | true => rw [e2] at h; cases h; exact .inr ⟨eq_of_beq e2, rfl⟩
   | false => rw [e2] at h; cases h
end L2
namespace L2
open PySem PySem.Spec PyProof.Rows PySem.Calls
open PySem.W (tabObj CodeHd kla_obj kla_fn)
end L2
namespace L2
open PySem PySem.Spec PyProof.Rows PySem.Calls
open PySem.W (tabObj CodeHd kla_obj kla_fn)
end L2
namespace L2
open PySem PySem.Spec PyProof.Rows PySem.Calls
section
variable {X : Cx}
end
end L2
namespace L2
open PySem PySem.Spec PyProof.Rows PySem.Calls
section
variable {X : Cx}
end
end L2
namespace L2
open PySem PySem.Spec
end L2
namespace L2
open PySem PySem.Spec PyProof.Rows PySem.Calls
def PEp (X : Cx) (e : Expr) (t : TE) : Prop :=
 ∀ (pins : List (Addr × Obj)) (s : Shared) (σ : St) (H : Hp) (Q : VK), Inv X pins σ H s → 1 ≤ s.toks → t σ H Q → wpAny (model X.prog X.w) X.A (eval e X.env) (EP X pins σ Q) X.xe s
def PSp (X : Cx) (st : Stmt) (t : TS) : Prop :=
 ∀ (pins : List (Addr × Obj)) (s : Shared) (σ : St) (H : Hp) (D : Ends), Inv X pins σ H s → 1 ≤ s.toks → t D σ H → wpAny (model X.prog X.w) X.A (exec st X.env) (SP X pins D) X.xe s
def PSsp (X : Cx) (st : List Stmt) (t : TS) : Prop :=
 ∀ (pins : List (Addr × Obj)) (s : Shared) (σ : St) (H : Hp) (D : Ends), Inv X pins σ H s → 1 ≤ s.toks → t D σ H → wpAny (model X.prog X.w) X.A (execs st X.env) (SP X pins D) X.xe s
def PAp (X : Cx) (es : List Expr) (t : TA) : Prop :=
 ∀ (pos : Pos) (pins : List (Addr × Obj)) (s : Shared) (σ : St) (H : Hp) (Q : List V → Hp → Prop), Inv X pins σ H s → 1 ≤ s.toks → t σ H Q → wpAny (model X.prog X.w) X.A (spliced (backTo pos (starEach es X.env))) (AP X pins σ Q) X.xe s
theorem thp {α : Type} {t : Sem α} {Q Q' : α → Shared → Prop} {M : Model} {A : Around} {E : Value → Shared → Prop} {s : Shared} {n : Nat} (hn : n ≤ s.toks) (h : wpAny M A t Q E s) (hQ : ∀ a s, n ≤ s.toks → Q a s → Q' a s) : wpAny M A t Q' E s := wpAny_mono (wpAny_toks_of hn h) (fun a s z => hQ a s z.1 z.2) fun _ _ z => z.2
section
variable {X : Cx} {e : Expr} {te : TE} {pos : Pos} {st : Stmt} {rest : List Stmt} {t u : TS}
theorem PE.made (h : PE X e te) : PEp X e te := fun pins s σ H Q I _ q => h pins s σ H Q I q
theorem psp_ret (he : PEp X e te) : PSp X (.Return (some e) pos) (tRet te) := by
 intro pins s σ H D I hn h
 exact wpAny_Return_some (thn (he pins s σ H _ I hn h) fun v s1 ⟨x, H1, I1, r1, q1⟩ => ⟨x, σ, H1, I1, r1, q1⟩)
theorem psp_set {i : Nat} {x : Str} {pos' : Pos} (hN : X.N.Nodup) (hi : X.N[i]? = some x) (hx : Loc X.env.scope x) (he : PEp X e te) (hs : swapsWith e (some (.Name x pos')) pos.line X.env = pure false := by rfl) (hf : X.fn x = true ∨ X.env.scope.names.lookup x = some .local := by first | exact .inl rfl | exact .inr rfl | assumption) :
   PSp X (.Assign [.Name x pos'] e pos) (tAsg te (gName i)) := by
 intro pins s σ H D I hn h
 refine wpAny_Assign_Name (thn (he pins s σ H _ I hn h) fun v s1 ⟨y, H1, I1, r1, q1⟩ => ?_) hs
 exact store_ok I1 hN hi hx r1 (fun s2 I2 => ⟨_, H1, I2, q1⟩) hf
theorem pssp_cons (h1 : PSp X st t) (h2 : PSs X rest u) : PSsp X (st :: rest) (tSeq t u) := by
 intro pins s σ H D I hn h
 refine wpAny_execs_cons (thn (h1 pins s σ H { D with nx := u D } I hn h) fun f s1 q => ?_)
 cases f with
 | next =>
   obtain ⟨σ', H', I', q⟩ := q
   exact h2 pins s1 σ' H' D I' q
 | ret v => exact q
 | brk => exact q
 | cont => exact q
theorem pssp_one (h1 : PSp X st t) : PSsp X [st] t := by
 intro pins s σ H D I hn h
 refine wpAny_execs_cons (thn (h1 pins s σ H D I hn h) fun f s1 q => ?_)
 cases f with
 | next => exact wpAny_execs_nil q
 | ret v => exact q
 | brk => exact q
 | cont => exact q
theorem pep_replace {o : Expr} {to : TE} {a b : Str} {ka kb : Nat} {apos cpos pa pb : Pos} (ho : PEp X o to) (hab : (a == b) = false := by symm)
   (hbase : attributeBase o "replace" X.env (eval o X.env) = eval o X.env := by rfl)
   (hfew : ((backTo cpos (starEach [.Constant (.str a) ka pa, .Constant (.str b) kb pb] X.env)).all (fun x => !x.1) && (backToKw cpos (keywordEach [] X.env)).all (fun x => x.1.isSome)
     && decide ([Expr.Constant (.str a) ka pa, .Constant (.str b) kb pb].length + ([] : List Keyword).length + (if ([] : List Keyword).isEmpty then 0 else 1) < 30)) = true := by rfl)
   (hline : (apos.endLine == cpos.line) = true := by rfl)
   (hs : backTo cpos (starEach [.Constant (.str a) ka pa, .Constant (.str b) kb pb] X.env) = [(false, eval (.Constant (.str a) ka pa) X.env), (false, eval (.Constant (.str b) kb pb) X.env)] := by rfl) :
   PEp X (.Call (.Attribute o "replace" apos) [.Constant (.str a) ka pa, .Constant (.str b) kb pb] [] cpos) (fun σ H Q => to σ H fun v H1 => ∃ z, v = .str z ∧ z.length + (z.length + 1) * b.length ≤ 16777216 ∧ Q (.str (Txt.replace z a b)) H1) := by
 intro pins s σ H Q I hn h
 refine wpAny_Call_method_late hbase hfew hline rfl (thp hn (ho pins s σ H _ I hn h) fun v s1 hn1 ⟨x, H1, I1, r1, z, ex, hz, q⟩ => ?_)
 subst ex
 obtain ⟨tk, rfl⟩ := r1
 refine ⟨"str", _, PySem.F.plainAttrs_str, PySem.F.slot_str_replace, PySem.F.type_str_replace, typeIs_str _ _ _, (fun _ e => nomatch e), ?_⟩
 rw [hs]
 refine Calls.callWith_builtin rfl (Calls.evalArgs_plain (Calls.spliced_cons (Calls.Constant_str (Calls.spliced_cons (Calls.Constant_str (Calls.spliced_nil ?_))))))
 refine SC.replace (by show s1.toks ≠ 0; omega) (by show s1.toks + 1 ≠ 0; omega) (by show s1.toks ≠ s1.toks + 1; omega) hab hz ?_
 intro t' k
 exact ⟨.str _, H1, I1.tok _, ⟨_, rfl⟩, q⟩
end
structure FnOkP (P : Program) (w : World) (K : PySem.W.Frag) (mg : Str → Option Value) (base : Heap) (CX : CXT) (k : Nat) (f : Addr) (fd : FuncData) (ps : List Str) (sp : Sp) : Prop where
 len : ∀ vs H Q E, sp vs H Q E → vs.length = ps.length
 run : ∀ (A : Around) (outer : List Env) (s : Shared) (H : Hp) (args : Args) (us : List Value) (vs : List V) (Q : VK) (E : XK), Room k A → Env0 P w K mg base A outer s H → 1 ≤ s.toks → BindsTo s fd args (ps.zip us) → Vals vs us → sp vs H Q E →
   codeAny (model P w) A (.call (.ref f) args) (CR CX outer P w H s Q E) s
theorem FnOkP.mono {P : Program} {w : World} {K : PySem.W.Frag} {mg : Str → Option Value} {base : Heap} {CX : CXT} {j k : Nat} {f : Addr} {fd : FuncData} {ps : List Str} {sp : Sp} (F : FnOkP P w K mg base CX j f fd ps sp) (h : j ≤ k) :
   FnOkP P w K mg base CX k f fd ps sp := ⟨F.len, fun A outer s H args us vs Q E hr => F.run A outer s H args us vs Q E (hr.mono h)⟩
theorem fn_ofP {CX : CXT} {P : Program} {w : World} {K : PySem.W.Frag} {mg : Str → Option Value} {base : Heap} {k : Nat} {f : Addr} {name qual : Str} {params : Arguments} {body : List Stmt} {scope : Scope} {dV kV doc pm cdv ct oc : Value} {an od : Option Addr}
   {osl : Array (Option Value)} {N ps : List Str} {sp : Sp} (lk : K.lookup f = some ⟨oc, od, .func (PySem.W.fnOf name qual params body scope dV kV doc pm an cdv ct), osl⟩) (hcd : PySem.W.codeIn K cdv qual = true) (S : FnScope N ps scope)
   (len : ∀ vs H Q E, sp vs H Q E → vs.length = ps.length)
   (hbody : ∀ (A : Around) (outer : List Env) (s : Shared) (H : Hp) (vs : List V) (Q : VK) (E : XK), Room k (A.deeper (envOfC qual scope s.heap.objs.size f cdv)) → sp vs H Q E →
     ∃ t, PSsp (cxOf CX P w K mg base N qual scope f cdv A outer s H E) body t ∧ t { nx := fun _ H' => Q .non H', rt := Q } (start N vs) H) :
   FnOkP P w K mg base CX (k + 1) f (PySem.W.fnOf name qual params body scope dV kV doc pm an cdv ct) ps sp := by
 refine ⟨len, fun A outer s H args us vs Q E hr e0 hn hb r hsp => ?_⟩
 have hl := len _ _ _ _ hsp
 have KX : K.In s.heap := e0.mod.kin.keeps fun b o e => (e0.bs b o e).1
 have lim : s.heap.NoLimit := e0.mod.nolimit.keeps fun b o e => (e0.bs b o e).1
 have hkind : ∀ y ∈ ps.zip us, scope.names.lookup y.1 = some .local ∨ (scope.names.lookup y.1 = some .cell ∧ ((cellsFrom (s.heap.objs.size + 1) scope.names []).lookup y.1).isSome = true) := fun ⟨n, v⟩ hy => by
   rcases S.par n (List.of_mem_zip hy).1 with q | q
   · exact .inl q
   · exact .inr ⟨q, PySem.W.cellsFrom_some _ _ _ (.inl q)⟩
 refine codeAny_call_function hr.depth (KX _ _ lk) rfl S.co S.gen rfl (PySem.W.codeRec_of KX hcd) (hb _ _ _ _ ?_)
 refine wpAny_with_toks hn (wpAny_newFunctionEnv_cells S.kind hkind fun env he s1 x hn1 => ?_)
 subst he
 refine ⟨lim.keeps x.toInCall.keep, codeAny_func ?_⟩
 obtain ⟨t, ht, hq⟩ := hbody A outer s H vs Q E (hr.deeper _) hsp
 have I : Inv (cxOf CX P w K mg base N qual scope f cdv A outer s H E) [] (start N vs) H s1 := inv_start S hr.hd e0 hl r x
 refine wpAny_mono (ht [] s1 (start N vs) H _ I hn1 hq) (fun fl s' hs => ?_) fun e s' hs => hs
 have fin : ∀ {σ' : St} {H' : Hp} {v : V} {u : Value}, Inv (cxOf CX P w K mg base N qual scope f cdv A outer s H E) [] σ' H' s' → RelV v u → Q v H' → CE outer P w H s Q u s' :=
   fun {σ' H' v u} J rv q => ⟨v, H', J.os, J.bare, J.base, J.hok, rv, q⟩
 cases fl with
 | ret u =>
   obtain ⟨v, σ', H', J, rv, q⟩ := hs
   exact fin J rv q
 | next =>
   obtain ⟨σ', H', J, q⟩ := hs
   exact fin (v := V.non) (u := Value.none) J rfl q
 | brk =>
   obtain ⟨_, _, _, q⟩ := hs
   exact False.elim q
 | cont =>
   obtain ⟨_, _, _, q⟩ := hs
   exact False.elim q
theorem PSsp.nox {X : Cx} {b : List Stmt} {t : TS} (h : PSsp X.nox b t) : PSsp X b t := fun pins s σ H D I hn hw =>
 wpAny_mono (h pins s σ H D (I.wish _) hn hw) (fun _ _ q => q.unwish) fun _ _ z => False.elim z
section
variable {P : Program} {w : World} {K : PySem.W.Frag} {mg : Str → Option Value} {base : Heap}
theorem Fun.okP {x qual : Str} {st : Stmt} {f : Addr} {fd : FuncData} {N ps : List Str} {k : Nat} {sp : Sp} (F : Fun K x qual st f fd) (S : FnScope N ps (defScope st)) (len : ∀ vs H Q E, sp vs H Q E → vs.length = ps.length)
   (hbody : ∀ (cdv : Value) (A : Around) (outer : List Env) (s : Shared) (H : Hp) (vs : List V) (Q : VK) (E : XK), Room k (A.deeper (envOfC qual (defScope st) s.heap.objs.size f cdv)) → sp vs H Q E →
     ∃ t, PSsp (cxOf CX0 P w K mg base N qual (defScope st) f cdv A outer s H E).nox (defBody st) t ∧ t { nx := fun _ H' => Q .non H', rt := Q } (start N vs) H) : FnOkP P w K mg base CX0 (k + 1) f fd ps sp := by
 obtain ⟨oc, od, kV, doc, pm, an, cdv, ct, osl, rfl, lk, hcd⟩ := F.ex
 refine fn_ofP lk hcd S len fun A outer s H vs Q E hr hsp => ?_
 obtain ⟨t, h, q⟩ := hbody cdv A outer s H vs Q E hr hsp
 exact ⟨t, h.nox, q⟩
structure MethJP (P : Program) (w : World) (K : PySem.W.Frag) (mg : Str → Option Value) (base : Heap) (CX : CXT) (k : Nat) (C : Addr) (m : Str) where
 f : Addr
 fd : FuncData
 ps : List Str
 sp : Sp
 ds : List Value
 dvs : List V
 c : Cls K C
 hm : Meth K C m f
 F : FnOkP P w K mg base CX k f fd ps sp
 hb : Binds K fd ps ds
 hd : Vals dvs ds
end
section
variable {X : Cx} {CX : CXT} {k : Nat} {E : XK} {m x : Str} {p pos apos : Pos} {e o : Expr} {es : List Expr} {ta te : TE} {t : TA} {f : Addr} {fd : FuncData} {ps : List Str} {ds : List Value} {dvs : List V} {sp : Sp}
theorem run_fnP {pins : List (Addr × Obj)} {σ : St} {H : Hp} {s : Shared} {Q : VK} {us : List Value} {vs : List V} (F : FnOkP X.prog X.w X.K X.mg X.base CX k f fd ps sp) (hr : Room k X.A) (hb : Binds X.K fd ps ds) (hd : Vals dvs ds) (hx : Passes CX X E)
   (I : Inv X pins σ H s) (hn : 1 ≤ s.toks) (r : Vals vs us) (h : sp (vs ++ dvs) H Q E) : wpAny (model X.prog X.w) X.A (call (.ref f) us) (EP X pins σ Q) X.xe s := by
 have r2 : Vals (vs ++ dvs) (us ++ ds) := r.append hd
 have hl : (us ++ ds).length = ps.length := by rw [← r2.length]; exact F.len _ _ _ _ h
 refine wpAny_call (codeAny_mono (F.run X.A X.stack s H ⟨us, []⟩ (us ++ ds) (vs ++ dvs) Q E hr I.env0 hn (hb s us I.kIn hl) r2 h) fun r s' hq => ?_)
 cases r with
 | error e => exact hx pins σ H s e s' I hq
 | ok fl =>
   cases fl with
   | ret u => exact I.after hq
   | next => exact False.elim hq
   | brk => exact False.elim hq
   | cont => exact False.elim hq
theorem pep_call (F : FnOkP X.prog X.w X.K X.mg X.base CX k f fd ps sp) (hr : Room k X.A) (hg : Gl X x) (hm : X.mg x = some (.ref f)) (hk : PySem.W.keepIn X.K (.ref f) = true) (hb : Binds X.K fd ps ds) (hd : Vals dvs ds) (hx : Passes CX X E)
   (ha : PA X (e :: es) t) (hdb : (x == ("__debug__" : Str)) = false := by decide) (he : starEach (e :: es) X.env = (false, eval e X.env) :: starEach es X.env := by rfl) (hpl : (backTo pos (starEach es X.env)).any (·.1) = false := by rfl) :
   PEp X (.Call (.Name x p) (e :: es) [] pos) (tCall sp dvs E t) := by
 intro pins s σ H Q I hn h
 refine wpAny_Call_Name_kw (ld_glob I hg hm ?_ hdb)
 refine PySem.W.callWith_K (h₀ := X.base) I.ok.mod.kin hk (thp hn (ha pos pins s σ H _ I h) fun us s1 hn1 ⟨vs, H1, I1, r, q⟩ => ⟨I1.kIn, ?_⟩) he hpl
 exact run_fnP F hr hb hd hx I1 hn1 r q
def PEm (X : Cx) (e : Expr) (t : TE) : Prop :=
 ∀ (pins : List (Addr × Obj)) (s : Shared) (σ : St) (H : Hp) (Q : VK), Inv X pins σ H s → t σ H Q → wpAny (model X.prog X.w) X.A (eval e X.env) (fun u s' => 1 ≤ s'.toks ∧ EP X pins σ Q u s') X.xe s
theorem pem_strip {to : TE} {a : Str} {ka : Nat} {cpos pa : Pos} (ho : PE X o to)
   (hbase : attributeBase o "strip" X.env (eval o X.env) = eval o X.env := by rfl)
   (hfew : ((backTo cpos (starEach [.Constant (.str a) ka pa] X.env)).all (fun x => !x.1) && (backToKw cpos (keywordEach [] X.env)).all (fun x => x.1.isSome)
     && decide ([Expr.Constant (.str a) ka pa].length + ([] : List Keyword).length + (if ([] : List Keyword).isEmpty then 0 else 1) < 30)) = true := by rfl)
   (hline : (apos.endLine == cpos.line) = true := by rfl)
   (hs : backTo cpos (starEach [.Constant (.str a) ka pa] X.env) = [(false, eval (.Constant (.str a) ka pa) X.env)] := by rfl) :
   PEm X (.Call (.Attribute o "strip" apos) [.Constant (.str a) ka pa] [] cpos) (fun σ H Q => to σ H fun v H1 => ∃ z, v = .str z ∧ z.length ≤ sizeLine ∧ Q (.str (Txt.stripChars z a)) H1) := by
 intro pins s σ H Q I h
 refine wpAny_Call_method_late hbase hfew hline rfl (thn (ho pins s σ H _ I h) fun v s1 ⟨x, H1, I1, r1, z, ex, hz, q⟩ => ?_)
 subst ex
 obtain ⟨tk, rfl⟩ := r1
 refine ⟨"str", _, PySem.F.plainAttrs_str, PySem.F.slot_str_strip, PySem.F.type_str_strip, typeIs_str _ _ _, (fun _ e => nomatch e), ?_⟩
 rw [hs]
 refine Calls.callWith_builtin rfl (Calls.evalArgs_plain (Calls.spliced_cons (Calls.Constant_str (Calls.spliced_nil ?_))))
 refine wpAny_mono (wpAny_toks_of (n := 1) (by show 1 ≤ s1.toks + 1; omega) (mt_strip pins _ σ H1 (.str z) [.str a] _ _ Q (I1.tok _) ⟨_, rfl⟩ (.cons ⟨_, rfl⟩ .nil) ⟨z, a, rfl, rfl, hz, q⟩)) (fun _ _ z => z) fun _ _ z => z.2
def tMethP (X : Cx) (CX : CXT) (k : Nat) (m : Str) (E : XK) (ta te : TE) : TE := fun σ H Q => ta σ H fun x H1 => ∃ (a C dx : Addr) (fs : List (Str × V)) (M : MethJP X.prog X.w X.K X.mg X.base CX k C m), x = .ref a ∧ H1 a = some (.ins C dx fs) ∧ fs.lookup m = none ∧
 te σ H1 fun v H2 => M.sp (x :: ([v] ++ M.dvs)) H2 Q E
theorem pe_methP {pl : Sem Bool} (hr : Room k X.A) (hx : Passes CX X E) (he : PE X o ta) (ha : PEm X e te)
   (hst : starEach [e] X.env = [(false, eval e X.env)] := by rfl) (hb1 : backTo pos (starEach [e] X.env) = [(false, eval e X.env)] := by rfl)
   (ht : eval (.Call (.Attribute o m apos) [e] [] pos) X.env = (do
     let ov ← eval o X.env
     standAt apos.atName
     let (f, first) ← holding [ov] (getMethod ov m pl)
     callWith pos f first (backTo pos (starEach [e] X.env)) (backToKw pos (keywordEach [] X.env))) := by rfl) :
   PE X (.Call (.Attribute o m apos) [e] [] pos) (tMethP X CX k m E ta te) := by
 intro pins s σ H Q I h
 refine PySem.W.methodCall_KW (pl := pl) (thn (he pins s σ H _ I h) fun u s1 ⟨x, H1, I1, rx, a, C, dx, fs, M, ex, ea, l, q⟩ => ?_) ht
 subst ex
 obtain rfl : u = Value.ref a := rx
 refine getmeth_ok I1 ea M.c M.hm l ?_
 refine PySem.W.callWith_K (first := [.ref a]) (h₀ := X.base) I.ok.mod.kin M.hm.kp ?_ hst rfl
 rw [hb1]
 exact Calls.spliced_cons (thn (ha pins s1 σ H1 _ I1 q) fun v s2 ⟨hn, x, H2, I2, rx, q2⟩ => Calls.spliced_nil ⟨I2.kIn, run_fnP (us := [.ref a, v]) (vs := [.ref a, x]) M.F hr M.hb M.hd hx I2 hn (.cons rfl (.cons rx .nil)) q2⟩)
end
end L2
namespace L2
open PySem PySem.Spec PyProof.Rows PySem.Calls
section
variable {X : Cx}
end
end L2
namespace L2
open PySem PySem.Spec PyProof.Rows PySem.Calls
section
variable {X : Cx}
end
end L2
namespace L2
open PySem PySem.Spec PyProof.Rows PySem.Calls
section
variable {X : Cx} {scope : Scope} {x y : Str} {M : List Str} {tg elt iter : Expr} {ifs : List Expr} {pos p1 p2 p3 : Pos} {kk : Nat} {te : TE} {wi : TI} {tc : TT} {g : TG}
end
end L2
namespace L2
open PySem PySem.Spec PyProof.Rows PySem.Calls
end L2
namespace L2
open PySem PySem.Spec PyProof.Rows PySem.Calls
theorem thI {α : Type} {t : Sem α} {Q : α → Shared → Prop} {M : Model} {A : Around} {E : Value → Shared → Prop} {s : Shared} {n : Nat} (hn : n ≤ s.toks) (h : wpAny M A t (fun a s => n ≤ s.toks → Q a s) E s) : wpAny M A t Q E s := thp hn h fun _ _ hn q => q hn
section
variable {X : Cx} {scope : Scope} {x : Str} {M : List Str} {pins : List (Addr × Obj)} {σ : St} {H₂ : Hp} {s₂ : Shared} {elt iter : Expr} {px pos : Pos} {te : TE} {wi : TI}
theorem comp_blockP (K : CompOk X scope x M) (hc : X.calm = true) (I : Inv X pins σ H₂ s₂) (ht₂ : 1 ≤ s₂.toks) (he : ∀ (C : Addr) (s₂ : Shared) (H₂ : Hp) (fp : List Addr), PEp (compCx X scope C x M s₂ H₂ fp) elt te)
   {it : Addr} {fp : List Addr} {tn : Nat → Heap → Prop} {J : It} (T : Turn X.prog X.w X.K (.Name x px) J fp it tn) (st : tn 0 s₂.heap) (hf : ∀ b ∈ fp, FpOk X pins H₂ b) {n : Nat} (hsz : n ≤ sizeLine) {W : Nat → List V → Hp → Prop} {F : List V → Hp → Prop}
   (w0 : W 0 [] H₂) (turn : ∀ i ys H, i ≤ n → ys.length = i → W i ys H → (J.stop i H ∧ F ys H) ∨ (J.go i H ∧ i < n ∧ ∀ x H', J.yld i H x H' → te (some x :: σ) H' fun v H'' => W (i + 1) (ys ++ [v]) H''))
   {E : Value → Shared → Prop} {RR : Value → Addr → Result → Shared → Prop}
   (hRR : ∀ (D C : Addr) (s' : Shared) (H' : Hp) (ys : List V) (m : Str → Option Value), Inv X pins σ (upd H' D (.lst ys)) s' → H' D = none → FpOk X pins (upd H' D (.lst ys)) C → s'.heap.Ns C m → F ys H' → RR (.ref D) C (.ok .next) s') :
   wpAny (model X.prog X.w) X.A (newList []) (fun acc s₃ => wpAny (model X.prog X.w) X.A (newFunctionEnv scope X.env.globals (clOf X.env scope.names []) [] X.env.qual none .none (some X.env)) (fun cenv s₄ =>
     codeAny (model X.prog X.w) X.A (.compStart (.ListComp elt [⟨.Name x px, iter, [], 0⟩] scope pos) 0 (.ref it) acc { cenv with scope := relabel scope X.env }) (RR acc cenv.locals) s₄) E s₃) E s₂ := by
 refine wpAny_newObj_type (wpAny_newFunctionEnv K.cell (by intro y hy; simp at hy) (fun h₁ hns₁ hsb₁ => ?_) K.kind)
 dsimp only at hns₁ hsb₁ ⊢
 generalize hH2 : s₂.heap.push { cls := .type "list", dict := none, data := .seq ([] : List Value).toArray } = H2 at hns₁ hsb₁ ⊢
 have hC : H2.objs.size = s₂.heap.objs.size + 1 := by rw [← hH2, Heap.size_push]
 have hDC : s₂.heap.objs.size ≠ H2.objs.size := by rw [hC]; exact Nat.ne_of_lt (Nat.lt_succ_self _)
 have below : ∀ b, b < s₂.heap.objs.size → b ≠ H2.objs.size ∧ b ≠ s₂.heap.objs.size := fun b hb => ⟨by rw [hC]; exact Nat.ne_of_lt (Nat.lt_succ_of_lt hb), Nat.ne_of_lt hb⟩
 have hfl : ∀ b ∈ fp, b < s₂.heap.objs.size := fun b hb => by obtain ⟨o, e, _⟩ := T.obj _ _ st b hb; exact Heap.lt_size e
 have old : ∀ b o, s₂.heap.get? b = some o → h₁.get? b = some o := fun b o e => hsb₁.extBut b o (below b (Heap.lt_size e)).1 (Heap.get?_push_of_some _ (hH2 ▸ Heap.get?_push_of_some _ e))
 have hacc : h₁.get? s₂.heap.objs.size = some { cls := .type "list", data := .seq ([] : List Value).toArray 0 } := hsb₁.extBut _ _ hDC (Heap.get?_push_of_some _ (hH2 ▸ Heap.get?_push_size _ rfl))
 generalize hCC : H2.objs.size = C at *
 generalize hDD : s₂.heap.objs.size = D at *
 have hCle : s₂.heap.objs.size ≤ C := by rw [hDD, hC]; exact Nat.le_succ _
 have st₁ : tn 0 h₁ := T.keep _ _ _ st fun b _ o e => old b o e
 have I₁ := inv_comp (t := s₂.toks + ([] : List (Str × Value)).length) K I hf (fun b hb => by rw [hDD]; exact hfl b hb) hCle hns₁ old
 generalize hX' : compCx X scope C x M s₂ H₂ fp = X' at I₁
 have eX : X'.prog = X.prog ∧ X'.w = X.w ∧ X'.K = X.K ∧ X'.calm = true ∧ X'.A = X.A ∧ X'.ex = fp ∧ X'.env = compEnvC scope (clOf X.env scope.names []) C X.env ∧ X'.s₀ = s₂ ∧ X'.pn = [] := by
   subst hX'; exact ⟨rfl, rfl, rfl, hc, rfl, rfl, rfl, rfl, rfl⟩
 obtain ⟨eP, ew, eK, ec, eA, eex, eenv, es0, epn⟩ := eX
 have eL : X'.env.locals = C := by rw [eenv]; rfl
 have cells' : ∀ y c, X'.env.cells.lookup y = some c → X.env.cells.lookup y = some c := fun y c e => by rw [eenv] at e; exact CompOk.cl_of e
 have efs : X'.fs = frs X.stack := by subst hX'; rfl
 have fsub : ∀ b ∈ X'.fs, b = X.env.locals ∨ b ∈ X.fs := fun b hb => List.mem_cons.mp (I.stkSub b (by rw [← efs]; exact hb))
 have fpok : ∀ {pn : List (Addr × Obj)} {H' : Hp}, (∀ p ∈ pn, p.1 = D) → (∀ b ∈ fp, H' b = none) → ∀ b ∈ fp, FpOk X' pn H' b := fun {pn H'} hp hn b hb => by
   refine ⟨hn b hb, ?_, fun z => ?_, .inl (by rw [eex]; exact hb), fun y c e => (hf b hb).2.2.2.2.1 y c (cells' y c e), fun p hq => ?_⟩
   · rw [eL]; exact (below b (hfl b hb)).1
   · rcases fsub b z with q | q
     · exact (hf b hb).2.1 q
     · exact (hf b hb).2.2.1 q
   · rw [epn, List.nil_append] at hq
     rw [hp p hq]; exact Ne.symm (below b (hfl b hb)).2
 have Dfp : D ∉ fp := fun z => Nat.lt_irrefl _ (hfl D z)
 have ltL : X.env.locals < D := by have := I.lt; rw [hDD] at this; exact this
 have ltF : ∀ b ∈ X.fs, b < D := fun b hb => Nat.lt_of_not_le fun z => I.nofs (a := b) (by rw [hDD]; exact z) hb
 have newok : ∀ {b : Addr} {pn : List (Addr × Obj)} {H' : Hp}, D ≤ b → b ≠ C → H' b = none → (∀ p ∈ pn, p.1 ≠ b) → FpOk X' pn H' b := fun {b pn H'} hb hbC hn hp => by
   refine ⟨hn, by rw [eL]; exact hbC, fun z => ?_, .inr (by rw [es0, hDD]; exact hb), fun y c e => ?_, fun p hq => ?_⟩
   · rcases fsub b z with q | q
     · rw [q] at hb; exact absurd (Nat.lt_of_lt_of_le ltL hb) (Nat.lt_irrefl _)
     · exact absurd (Nat.lt_of_lt_of_le (ltF b q) hb) (Nat.lt_irrefl _)
   · obtain ⟨v, o, ho, _⟩ := I.cell y c (cells' y c e)
     have := Heap.lt_size ho
     rw [hDD] at this
     exact Nat.ne_of_lt (Nat.lt_of_lt_of_le this hb)
   · rw [epn, List.nil_append] at hq
     exact hp p hq
 have outer : ∀ {σ' : St} {H' : Hp} {s' : Shared} {pn : List (Addr × Obj)}, Inv X' pn σ' H' s' → Inv X pins σ H' s' := fun {σ' H' s' pn} J' => by
   subst hX'
   refine I.call' (ch := fp) J'.os J'.base J'.hok J'.bare fun b hb => ?_
   obtain ⟨f0, f1, f2, f3, f4, f5⟩ := hf b hb
   exact ⟨f3, f1, f4, f5⟩
 have outok : ∀ {b : Addr} {H' : Hp}, D ≤ b → H' b = none → FpOk X pins H' b := fun {b H'} hb hn => by
   have q := I.fpOk (H' := H') (b := b) (by rw [hDD]; exact hb) hn
   exact q
 have loop : ∀ s₃ : Shared, s₃ = { s₂ with heap := h₁, toks := s₂.toks + ([] : List (Str × Value)).length } →
     codeAny (model X.prog X.w) X.A (.compLoop (.ListComp elt [⟨.Name x px, iter, [], 0⟩] scope pos) 0 (.ref it) (.ref D) (compEnvC scope (clOf X.env scope.names []) C X.env)) (RR (.ref D) C) s₃ := by
   rintro s₃ rfl
   refine compLoop_go (fun k s' => ∃ (i : Nat) (ys : List V) (its : List Value) (σ0 : Option V) (H' : Hp), i ≤ n ∧ k = n + 1 - i ∧ ys.length = i ∧ Inv X' [] (σ0 :: σ) H' s' ∧ tn i s'.heap ∧ (∀ b ∈ fp, H' b = none) ∧ H' D = none ∧ Vals ys its ∧
     (∃ c, s'.heap.get? D = some { cls := .type "list", data := .seq its.toArray c }) ∧ W i ys H' ∧ 1 ≤ s'.toks) ?_ (n + 1) ⟨0, [], [], none, H₂, Nat.zero_le _, rfl, rfl, I₁, st₁, fun b hb => (hf b hb).1, by rw [← hDD]; exact I.hok.fresh (Nat.le_refl _), .nil, ⟨0, hacc⟩, w0, (by show 1 ≤ s₂.toks + _; omega)⟩
   rintro k s' ⟨i, ys, its, σ0, H', hi, rfl, hyl, I', st', fr', hD', rv, ⟨c, hobj⟩, w', ht'⟩
   have hx0 : X'.N[0]? = some x := by subst hX'; rfl
   have hxl : X'.env.scope.names.lookup x = some .local := by rw [eenv]; exact lookup_relabel_local K.loc
   have hNd : X'.N.Nodup := by subst hX'; exact K.nd
   rcases turn i ys H' hi hyl w' with ⟨stop, fin⟩ | ⟨go, hlt, step⟩
   · have pinD : Inv X' [(D, { cls := .type "list", data := .seq its.toArray c })] (σ0 :: σ) H' s' := I'.pins_of fun p hp => by
       obtain rfl : p = (D, { cls := .type "list", data := .seq its.toArray c }) := by simpa using hp
       refine ⟨hobj, hD', ?_, ?_, fun v z => nomatch z⟩
       · rw [eL]; exact hDC
       · intro z
         rcases fsub D z with q | q
         · rw [q] at ltL; exact Nat.lt_irrefl _ ltL
         · exact Nat.lt_irrefl _ (ltF D q)
     have q := T.done X' eP ew eK ec i _ s' (σ0 :: σ) H' (notedBy (model X.prog X.w) X.A (compEnvC scope (clOf X.env scope.names []) C X.env) fun e s' => RR (.ref D) C (.error e) s') pinD (fpok (fun p hp => by obtain rfl : p = (D, { cls := .type "list", data := .seq its.toArray c }) := (by simpa using hp); rfl) fr') st' stop
     rw [eA] at q
     refine wpAny_mono q (fun r s4 ⟨hr, I4⟩ => ?_) fun _ _ z => z
     subst hr
     obtain ⟨e4, n4, _⟩ := I4.pin (D, { cls := .type "list", data := .seq its.toArray c }) (List.mem_append_right _ (by simp))
     have O4 := outer I4
     obtain ⟨m4, ns4, _⟩ := I4.loc
     rw [eL] at ns4
     refine hRR D C s4 H' ys m4 (O4.track (outok (Nat.le_refl _) n4) (Nat.le_trans I.sz (by rw [hDD]; exact Nat.le_refl _)) ⟨by rw [hyl]; exact Nat.le_trans hi hsz, its, c, rv, e4⟩) n4 (outok (by rw [hC]; exact Nat.le_succ _) ?_) ns4 fin
     rw [zO (Ne.symm hDC)]
     have := I4.free
     rw [eL] at this
     exact this
   · have pinD : Inv X' [(D, { cls := .type "list", data := .seq its.toArray c })] (σ0 :: σ) H' s' := I'.pins_of fun p hp => by
       obtain rfl : p = (D, { cls := .type "list", data := .seq its.toArray c }) := by simpa using hp
       refine ⟨hobj, hD', ?_, ?_, fun v z => nomatch z⟩
       · rw [eL]; exact hDC
       · intro z
         rcases fsub D z with q | q
         · rw [q] at ltL; exact Nat.lt_irrefl _ ltL
         · exact Nat.lt_irrefl _ (ltF D q)
     have pd : ∀ p ∈ [(D, ({ cls := .type "list", data := .seq its.toArray c } : Obj))], p.1 = D := fun p hp => by obtain rfl : p = (D, { cls := .type "list", data := .seq its.toArray c }) := (by simpa using hp); rfl
     have q := T.item X' eP ew eK ec i _ s' (σ0 :: σ) H' (notedBy (model X.prog X.w) X.A (compEnvC scope (clOf X.env scope.names []) C X.env) fun e s' => RR (.ref D) C (.error e) s') pinD (fpok pd fr') st' go
     rw [eA] at q
     refine thp ht' q (fun r s4 ht4 ⟨u, hr, h4⟩ => ?_)
     subst hr
     refine thp ht4 h4 (fun _ s5 ht5 ⟨xv, H5, I5, r5, y5, st5, fr5⟩ => ?_)
     have I5' := I5.pinned (fpok pd fr5) (T.obj _ _ st5)
     refine wpAny_assign_Name ?_
     rw [← eenv]
     refine thI ht5 (store_ok I5' hNd hx0 (.inl hxl) r5 (fun s6 I6 => fun ht6 => ?_) (.inr hxl))
     have te6 := step xv H5 y5
     have q6 := (he C s₂ H₂ fp) (([(D, ({ cls := .type "list", data := .seq its.toArray c } : Obj))]) ++ pinsAt fp s5.heap) s6 (some xv :: σ) H5 (fun v H'' => W (i + 1) (ys ++ [v]) H'') (by rw [hX']; exact I6) ht6 te6
     rw [hX', eP, ew, eA] at q6
     refine wpAny_mono (wpAny_toks_of ht6 q6) (fun u7 s7 ⟨ht7, v7, H7, I7, r7, w7⟩ => ?_) (fun _ _ z => by subst hX'; exact (show False from z.2).elim)
     obtain ⟨e7, n7, _⟩ := I7.pin (D, { cls := .type "list", data := .seq its.toArray c }) (List.mem_append_right _ (List.mem_append_left _ (by simp)))
     refine append_at (hsz := by rw [List.size_toArray, ← rv.length, hyl]; exact Nat.le_trans hi hsz) e7 fun h8 sb8 g8 => ?_
     have I8 : Inv X' [] (some xv :: σ) H7 { s7 with heap := h8, toks := s7.toks } := (I7.pins_of (pins' := []) fun p hp => absurd hp (by simp)).turned (t' := s7.toks) (it := D) (fun b o hb e => (sb8.2 b hb).trans e) n7 (by rw [eL]; exact hDC) (.inr (by rw [es0, hDD]; exact Nat.le_refl _))
       (newok (H' := H7) (pn := []) (Nat.le_refl _) hDC n7 (fun p hp => absurd hp (by simp))).2.2.2.2.1 (fun p hp => by rw [epn] at hp; exact absurd hp (by simp))
     refine ⟨n + 1 - (i + 1), by omega, i + 1, ys ++ [v7], its ++ [u7], some xv, H7, hlt, rfl, by rw [List.length_append, List.length_singleton, hyl], I8, ?_, fun b hb => ?_, n7, rv.append (.cons r7 .nil), ⟨c + 1, ?_⟩, w7, ht7⟩
     · refine T.keep _ _ _ st5 fun b hb o e => ?_
       have e' := (I7.pin (b, o) (List.mem_append_right _ (List.mem_append_right _ (mem_pinsAt hb e)))).1
       exact (sb8.2 b (fun z => Dfp (z ▸ hb))).trans e'
     · obtain ⟨o, e, d⟩ := T.obj _ _ st5 b hb
       exact (I7.pin (b, o) (List.mem_append_right _ (List.mem_append_right _ (mem_pinsAt hb e)))).2.1
     · rw [g8, List.push_toArray]
 exact codeAny_compStart_list (loop _ rfl) (T.self X.A 0 _ _ _ st₁ (loop _ rfl))
theorem psp_comp {i : Nat} {y : Str} {spos py : Pos} (hN : X.N.Nodup) (hy : X.N[i]? = some y) (hl : Loc X.env.scope y) (K : CompOk X scope x M) (hc : X.calm = true) (hi : PI X (.Name x px) iter wi) (he : ∀ (C : Addr) (s₂ : Shared) (H₂ : Hp) (fp : List Addr), PEp (compCx X scope C x M s₂ H₂ fp) elt te)
   (hsw : swapsWith (.ListComp elt [⟨.Name x px, iter, [], 0⟩] scope pos) (some (.Name y py)) spos.line X.env = pure true := by rfl)
   (hs : ∀ x, foldedSetIterable iter X.env x = pure x := by intro _; rfl) (hf : X.fn y = true ∨ X.env.scope.names.lookup y = some .local := by first | exact .inl rfl | exact .inr rfl | assumption) :
   PSp X (.Assign [.Name y py] (.ListComp elt [⟨.Name x px, iter, [], 0⟩] scope pos) spos) (tAsg (tComp wi te) (gName i)) := by
 intro pins s σ H Dn I hn h
 rw [exec_Assign_Name_used _ _ _ _ hsw]
 refine wpAny_bind (wpAny_standAt (wpAny_bind ?_))
 show wpAny _ X.A (do let _ ← comprehension (.ListComp elt [⟨.Name x px, iter, [], 0⟩] scope pos) scope X.env _ (newList []) false (eval iter X.env) (some (assign (.Name y py) X.env))) _ _ s
 refine wpAny_bind (thn (wpAny_comprehension_free (use := some (assign (.Name y py) X.env)) (Q := fun _ s' => SP X pins Dn .next s') rfl hs (K.closure I.ok) K.kind K.names (thp hn (hi pins s σ H _ I h) fun v s1 hn1 h1 => thp hn1 h1 fun itv s2 hn2 h2 => ?_)) fun _ s' hq => wpAny_pure (wpAny_pure hq))
 obtain ⟨it, fp, tn, J, H2, e, I2, T, st2, f2, n, W, hsz, w0, turn⟩ := h2
 subst e
 refine comp_blockP (RR := fun acc C => compPost (model X.prog X.w) X.A X.xe (some (assign (.Name y py) X.env)) (fun _ s' => SP X pins Dn .next s') acc C) K hc I2 hn2 he T st2 f2 hsz (F := fun ys H => ∀ p, H p = none → Dn.nx (σ.set i (some (.ref p))) (upd H p (.lst ys))) w0 turn ?_
 intro D C s' H' ys m I' n' fC ns fin
 refine wpAny_assign_Name (store_ok2 (v := .ref D) I' hN hy hl rfl (fun s'' I'' ch => ?_) hf)
 obtain ⟨f0, f1, f2, f3, f4, f5⟩ := fC
 obtain ⟨a, sb1, ha⟩ := ch
 have hCa : C ≠ a := by
   rcases ha with z | z
   · rw [z]; exact f1
   · exact Ne.symm (f4 y a z)
 refine ⟨m, ns.sameBut sb1 hCa, fun h' sb => ?_⟩
 exact ⟨_, _, I''.turned (t' := s''.toks) (it := C) (fun b o hb e => (sb.2 b hb).trans e) f0 f1 f3 f4 f5, fin D n'⟩
theorem psp_compR {i : Nat} {y : Str} {spos py : Pos} (hN : X.N.Nodup) (hy : X.N[i]? = some y) (hl : Loc X.env.scope y) (K : CompOk X scope x M) (hc : X.calm = true) (hi : PI X (.Name x px) iter wi) (he : ∀ (C : Addr) (s₂ : Shared) (H₂ : Hp) (fp : List Addr), PEp (compCx X scope C x M s₂ H₂ fp) elt te)
   (hsw : swapsWith (.ListComp elt [⟨.Name x px, iter, [], 0⟩] scope pos) (some (.Name y py)) spos.line X.env = pure true := by rfl)
   (hs : ∀ x, foldedSetIterable iter X.env x = pure x := by intro _; rfl) (hf : X.fn y = true ∨ X.env.scope.names.lookup y = some .local := by first | exact .inl rfl | exact .inr rfl | assumption) :
   PSp X (.Assign [.Name y py] (.ListComp elt [⟨.Name x px, iter, [], 0⟩] scope pos) spos) (tAsg (tCompR wi te) (gName i)) := by
 intro pins s σ H D I hn h
 have q := psp_comp (pos := pos) (spos := spos) hN hy hl K hc (wi := fun σ0 H0 R0 => ∃ R, wi σ0 H0 R ∧ ∀ J H1, R J H1 → R0 J H1) (pi_conv hi fun σ H R ⟨R1, a, b⟩ => ⟨R1, a, b⟩) he hsw hs hf pins s σ H D I hn
 exact q ⟨_, h, fun J H1 r => r.ex⟩
end
section
variable {X : Cx} {pos : Pos} {a b e : Expr} {es : List Expr} {ta tb te : TE} {t : TA} {st : Stmt} {rest : List Stmt}
theorem PS.made {t : TS} (h : PS X st t) : PSp X st t := fun pins s σ H D I _ q => h pins s σ H D I q
theorem PSs.made {t : TS} (h : PSs X rest t) : PSsp X rest t := fun pins s σ H D I _ q => h pins s σ H D I q
theorem PA.made (h : PA X es t) : PAp X es t := fun pos pins s σ H Q I _ q => h pos pins s σ H Q I q
theorem pssp_consP {t u : TS} (h1 : PSp X st t) (h2 : PSsp X rest u) : PSsp X (st :: rest) (tSeq t u) := by
 intro pins s σ H D I hn h
 refine wpAny_execs_cons (thp hn (h1 pins s σ H { D with nx := u D } I hn h) fun f s1 hn1 q => ?_)
 cases f with
 | next =>
   obtain ⟨σ', H', I', q⟩ := q
   exact h2 pins s1 σ' H' D I' hn1 q
 | ret v => exact q
 | brk => exact q
 | cont => exact q
theorem psp_if {c : Expr} {a b : List Stmt} {tc : TT} {t u : TS} (hc : PT X c tc) (ha : PSsp X a t) (hb : PSsp X b u) : PSp X (.If c a b pos) (tIfS tc t u) := by
 intro pins s σ H D I hn h
 refine wpAny_If (thp hn (hc pins s σ H _ I h) fun d s1 hn1 ⟨H1, I1, q1⟩ => ?_)
 cases d with
 | true => exact ha pins s1 σ H1 D I1 hn1 q1
 | false => exact hb pins s1 σ H1 D I1 hn1 q1
theorem pem_int {i j pos} : PEm X (.Constant (.int i) j pos) (tC (.int i)) := fun _ s _ H _ I h => wpAny_Constant_int ⟨by show 1 ≤ s.toks + 1; omega, .int i, H, I.tok _, ⟨_, rfl⟩, h⟩
theorem pem_str {x j pos} : PEm X (.Constant (.str x) j pos) (tC (.str x)) := fun _ s _ H _ I h => Calls.Constant_str ⟨by show 1 ≤ s.toks + 1; omega, .str x, H, I.tok _, ⟨_, rfl⟩, h⟩
theorem pem_op {op : Operator} {r : R2} (ho : OpR X (binaryOp op) r) (ha : PE X a ta) (hb : PEm X b tb) : PEm X (.BinOp a op b pos) (tOp r ta tb) := by
 intro pins s σ H Q I h
 refine wpAny_BinOp (thn (ha pins s σ H _ I h) fun v s1 ⟨x, H1, I1, r1, q1⟩ => thn (hb pins s1 σ H1 _ I1 q1) fun u s2 ⟨hn, y, H2, I2, r2, q2⟩ => ?_)
 exact thp hn (ho pins s2 σ H2 x y v u Q I2 r1 r2 q2) fun _ _ hn q => ⟨hn, q⟩
def PTm (X : Cx) (e : Expr) (t : TT) : Prop :=
 ∀ (pins : List (Addr × Obj)) (s : Shared) (σ : St) (H : Hp) (Q : Bool → Hp → Prop), Inv X pins σ H s → t σ H Q → wpAny (model X.prog X.w) X.A (isTrue e X.env (eval e X.env)) (fun d s' => 1 ≤ s'.toks ∧ TP X pins σ Q d s') X.xe s
theorem ptm_cmpR {op : CmpOp} {r : R2} (ho : OpR X (compareOp op) r) (ha : PE X a ta) (hb : PEm X b tb) (hm : behindInMarks op b = false) : PTm X (.Compare a [op] [b] pos) (tTest (tOp r ta tb)) := by
 intro pins s σ H Q I h
 refine wpAny_isTrue_Compare1 (thn (ha pins s σ H _ I h) fun v s1 ⟨x, H1, I1, r1, q1⟩ => thn (hb pins s1 σ H1 _ I1 q1) fun u s2 ⟨hn, y, H2, I2, r2, q2⟩ =>
   thp hn (ho pins s2 σ H2 x y v u _ I2 r1 r2 q2) fun c s3 hn3 ⟨z, H3, I3, r3, k, e, q3⟩ => ?_) hm
 subst e
 cases r3
 exact wpAny_truthy_bool ⟨hn3, H3, I3, q3⟩
theorem pss_ifm {c : Expr} {a b : List Stmt} {tc : TT} {t u v : TS} (hc : PTm X c tc) (ha : PSsp X a t) (hb : PSsp X b u) (hr : PSsp X rest v) : PSs X (.If c a b pos :: rest) (tSeq (tIfS tc t u) v) := by
 intro pins s σ H D I h
 have key : wpAny (model X.prog X.w) X.A (exec (.If c a b pos) X.env) (fun f s' => 1 ≤ s'.toks ∧ SP X pins { D with nx := v D } f s') X.xe s := by
   refine wpAny_If (thn (hc pins s σ H _ I h) fun d s1 ⟨hn1, H1, I1, q1⟩ => ?_)
   cases d with
   | true => exact thp hn1 (ha pins s1 σ H1 { D with nx := v D } I1 hn1 q1) fun _ _ hn q => ⟨hn, q⟩
   | false => exact thp hn1 (hb pins s1 σ H1 { D with nx := v D } I1 hn1 q1) fun _ _ hn q => ⟨hn, q⟩
 refine wpAny_execs_cons (thn key fun f s1 ⟨hn, q⟩ => ?_)
 cases f with
 | next =>
   obtain ⟨σ', H', I', q⟩ := q
   exact hr pins s1 σ' H' D I' hn q
 | ret v => exact q
 | brk => exact q
 | cont => exact q
theorem pss_setm {i : Nat} {x : Str} {pos' : Pos} {v : TS} (hN : X.N.Nodup) (hi : X.N[i]? = some x) (hx : Loc X.env.scope x) (he : PEm X e te) (hr : PSsp X rest v) (hs : swapsWith e (some (.Name x pos')) pos.line X.env = pure false := by rfl) (hf : X.fn x = true ∨ X.env.scope.names.lookup x = some .local := by first | exact .inl rfl | exact .inr rfl | assumption) :
   PSs X (.Assign [.Name x pos'] e pos :: rest) (tSeq (tAsg te (gName i)) v) := by
 intro pins s σ H D I h
 have key : wpAny (model X.prog X.w) X.A (exec (.Assign [.Name x pos'] e pos) X.env) (fun f s' => 1 ≤ s'.toks ∧ SP X pins { D with nx := v D } f s') X.xe s := by
   refine wpAny_Assign_Name (thn (he pins s σ H _ I h) fun w s1 ⟨hn1, y, H1, I1, r1, q1⟩ => ?_) hs
   exact thI hn1 (store_ok I1 hN hi hx r1 (fun s2 I2 hn2 => ⟨hn2, _, H1, I2, q1⟩) hf)
 refine wpAny_execs_cons (thn key fun f s1 ⟨hn, q⟩ => ?_)
 cases f with
 | next =>
   obtain ⟨σ', H', I', q⟩ := q
   exact hr pins s1 σ' H' D I' hn q
 | ret v => exact q
 | brk => exact q
 | cont => exact q
theorem pep_op {op : Operator} {r : R2} (ho : OpR X (binaryOp op) r) (ha : PEp X a ta) (hb : PE X b tb) : PEp X (.BinOp a op b pos) (tOp r ta tb) := by
 intro pins s σ H Q I hn h
 refine wpAny_BinOp (thn (ha pins s σ H _ I hn h) fun v s1 ⟨x, H1, I1, r1, q1⟩ => thn (hb pins s1 σ H1 _ I1 q1) fun u s2 ⟨y, H2, I2, r2, q2⟩ => ?_)
 exact ho pins s2 σ H2 x y v u Q I2 r1 r2 q2
theorem pap_cons (ha : PEp X e te) (hr : PAp X es t) (hs : starEach (e :: es) X.env = (false, eval e X.env) :: starEach es X.env := by rfl) : PAp X (e :: es) (tCons te t) := by
 intro pos pins s σ H Q I hn h
 rw [hs]
 show wpAny _ _ (spliced ((false, eval e X.env) :: backTo pos (starEach es X.env))) _ _ s
 refine Calls.spliced_cons (thp hn (ha pins s σ H _ I hn h) fun u s1 hn1 ⟨x, H1, I1, r1, q1⟩ => ?_)
 exact thn (hr pos pins s1 σ H1 _ I1 hn1 q1) fun us s2 ⟨xs, H2, I2, r2, q2⟩ => ⟨x :: xs, H2, I2, .cons r1 r2, q2⟩
theorem pep_lst (h : PAp X es t) : PEp X (.List es pos) (tLst t) := by
 intro pins s σ H Q I hn hq
 refine wpAny_List_spliced (thn (h pos pins s σ H _ I hn hq) fun us s1 ⟨xs, H1, I1, r, z, q⟩ => ⟨by rw [← r.length]; exact z, ?_⟩)
 have hf : H1 s1.heap.objs.size = none := I1.hok.fresh (Nat.le_refl _)
 refine ⟨.ref s1.heap.objs.size, upd H1 s1.heap.objs.size (.lst xs), I1.laid (t' := s1.toks) (fun b u e => Heap.get?_push_of_some _ e) (Nat.le_refl _) ?_, rfl, q _ hf⟩
 exact ⟨z, us, 0, r, Heap.get?_push_size _ rfl⟩
theorem pep_ix {r : R2} (hr : IxR X r) (ha : PEp X a ta) (hb : PE X b tb) (hs : PlainIx b) : PEp X (.Subscript a b pos) (tOp r ta tb) := by
 intro pins s σ H Q I hn h
 refine Subscript_ (thn (ha pins s σ H _ I hn h) fun v s1 ⟨x, H1, I1, r1, q1⟩ => thn (hb pins s1 σ H1 _ I1 q1) fun u s2 ⟨y, H2, I2, r2, q2⟩ => ?_)
 exact hr a b pins s2 σ H2 x y v u Q I2 r1 r2 q2 (hs _ _)
end
end L2
namespace L2
open PySem PySem.Spec PyProof.Rows PySem.Calls
abbrev dbl2 (l : List Nat) : List Nat := StrLaws.dbl 32 l
theorem rep_dbl (l : List Nat) : Txt.replace (S l) (S [32]) (S [32, 32]) = S (dbl2 l) := replace_dbl (S l) (S [32]) (S [32, 32]) 32 rfl rfl
theorem dbl_app : ∀ (a b : List Nat), dbl2 (a ++ b) = dbl2 a ++ dbl2 b
 | [], _ => rfl
 | k :: r, b => by
   have e : ∀ x : List Nat, dbl2 (k :: x) = if k = 32 then k :: k :: dbl2 x else k :: dbl2 x := fun _ => rfl
   rw [List.cons_append, e, e, dbl_app r b]
   split <;> rfl
theorem dbl_free : ∀ {a : List Nat}, 32 ∉ a → dbl2 a = a
 | [], _ => rfl
 | k :: r, h => by
   have e : dbl2 (k :: r) = if k = 32 then k :: k :: dbl2 r else k :: dbl2 r := rfl
   rw [e, if_neg (fun z => h (by rw [z]; exact List.mem_cons_self)), dbl_free fun z => h (List.mem_cons_of_mem _ z)]
def spread : List (List Nat) → List (List Nat)
 | [] => []
 | [a] => [a]
 | a :: b :: r => a :: [] :: spread (b :: r)
theorem spread_ne {ws : List (List Nat)} (h : ws ≠ []) : spread ws ≠ [] := by
 match ws with
 | [] => exact absurd rfl h
 | [a] => intro e; cases e
 | a :: b :: r => intro e; cases e
theorem dbl_join : ∀ {ws : List (List Nat)}, (∀ p ∈ ws, 32 ∉ p) → dbl2 (joinL [32] ws) = joinL [32] (spread ws)
 | [], _ => rfl
 | [a], h => dbl_free (h a (by simp))
 | a :: b :: r, h => by
   show dbl2 (a ++ [32] ++ joinL [32] (b :: r)) = a ++ [32] ++ joinL [32] ([] :: spread (b :: r))
   rw [dbl_app, dbl_app, dbl_free (h a (by simp)), dbl_join fun p hp => h p (List.mem_cons_of_mem _ hp)]
   have hne := spread_ne (ws := b :: r) (by simp)
   cases hs : spread (b :: r) with
   | nil => exact absurd hs hne
   | cons x y =>
     show a ++ [32, 32] ++ joinL [32] (x :: y) = a ++ [32] ++ ([] ++ [32] ++ joinL [32] (x :: y))
     simp
theorem spread_mem : ∀ {ws : List (List Nat)} {p : List Nat}, p ∈ spread ws → p = [] ∨ p ∈ ws
 | [a], p, h => .inr h
 | a :: b :: r, p, h => by
   rcases List.mem_cons.mp h with e | h
   · exact .inr (by rw [e]; exact List.mem_cons_self)
   · rcases List.mem_cons.mp h with e | h
     · exact .inl e
     · rcases spread_mem h with e | e
       · exact .inl e
       · exact .inr (List.mem_cons_of_mem _ e)
end L2
namespace L2
open PySem PySem.Spec PyProof.Rows
def pad3 (l : List Nat) : List Nat := List.replicate (3 - l.length) 48 ++ l
def figM (n : Int) : List Nat := pad3 (dig n.natAbs)
def sgn (n : Int) : List Nat := if n < 0 then [45] else []
def monL (n : Int) : List Nat := sgn n ++ ((figM n).take ((figM n).length - 2) ++ 46 :: (figM n).drop ((figM n).length - 2))
def isF (c : Nat) : Prop := 48 ≤ c ∧ c ≤ 57
theorem pad3_len (l : List Nat) : 3 ≤ (pad3 l).length ∧ (pad3 l).length = max 3 l.length := by
 unfold pad3; rw [List.length_append, List.length_replicate]; omega
theorem figM_fig {n : Int} {c : Nat} (h : c ∈ figM n) : isF c := by
 unfold figM pad3 at h
 rcases List.mem_append.mp h with h | h
 · rw [(List.mem_replicate.mp h).2]; exact ⟨by decide, by decide⟩
 · exact dig_fig h
theorem val_rep (k : Nat) (l : List Nat) : val (List.replicate k 48 ++ l) = val l := by
 induction k with
 | zero => rfl
 | succ k ih => rw [List.replicate_succ, List.cons_append]; unfold val; rw [List.foldl_cons]; exact ih
theorem val_figM (n : Int) : val (figM n) = n.natAbs := by unfold figM pad3; rw [val_rep, val_dig]
theorem figM_head {n : Int} (h : (figM n).head? = some 48) : (figM n).length = 3 := by
 have hl := (pad3_len (dig n.natAbs)).2
 by_cases h3 : (dig n.natAbs).length ≤ 3
 · show (pad3 _).length = 3; omega
 · exfalso
   have e : figM n = dig n.natAbs := by unfold figM pad3; rw [show 3 - (dig n.natAbs).length = 0 by omega]; rfl
   rw [e] at h
   by_cases h0 : n.natAbs = 0
   · rw [h0, dig_zero] at h3; simp at h3
   · obtain ⟨c, r, ec, hc, _⟩ := dig_head h0
     rw [ec] at h
     have : c = 48 := by simpa using h
     omega
theorem mon_shape (n : Int) : ∃ a x y, monL n = sgn n ++ (a ++ [46, x, y]) ∧ figM n = a ++ [x, y] ∧ a ≠ [] ∧ (∀ c ∈ a, isF c) ∧ isF x ∧ isF y ∧ (a.head? = some 48 → a = [48]) := by
 have hl : 3 ≤ (figM n).length := (pad3_len _).1
 have hd : ((figM n).drop ((figM n).length - 2)).length = 2 := by rw [List.length_drop]; omega
 obtain ⟨x, y, e⟩ : ∃ x y, (figM n).drop ((figM n).length - 2) = [x, y] := by
   match h : (figM n).drop ((figM n).length - 2), hd with
   | [x, y], _ => exact ⟨x, y, rfl⟩
 have ea : figM n = (figM n).take ((figM n).length - 2) ++ [x, y] := by rw [← e, List.take_append_drop]
 have ht : ((figM n).take ((figM n).length - 2)).length = (figM n).length - 2 := by rw [List.length_take]; omega
 refine ⟨(figM n).take ((figM n).length - 2), x, y, ?_, ea, ?_, fun c hc => figM_fig (List.mem_of_mem_take hc), figM_fig (n := n) (by rw [ea]; simp), figM_fig (n := n) (by rw [ea]; simp), fun h => ?_⟩
 · unfold monL; rw [e]
 · intro z; rw [z] at ht; simp at ht; omega
 · have h1 : (figM n).head? = some 48 := by
     rw [ea]
     cases hh : (figM n).take ((figM n).length - 2) with
     | nil => rw [hh] at h; cases h
     | cons c r => rw [hh] at h; exact h
   have h3 := figM_head h1
   rw [h3] at h ht ⊢
   match hh : (figM n).take (3 - 2), ht with
   | [c], _ => rw [hh] at h; have : c = 48 := by simpa using h
               rw [this]
theorem sgn_mem {n : Int} {c : Nat} (h : c ∈ sgn n) : c = 45 := by unfold sgn at h; split at h; exact List.mem_singleton.mp h; cases h
theorem mon_chars {n : Int} {c : Nat} (h : c ∈ monL n) : c = 45 ∨ c = 46 ∨ isF c := by
 obtain ⟨a, x, y, e, _, _, ha, hx, hy, _⟩ := mon_shape n
 rw [e] at h
 rcases List.mem_append.mp h with h | h
 · exact .inl (sgn_mem h)
 · rcases List.mem_append.mp h with h | h
   · exact .inr (.inr (ha c h))
   · simp only [List.mem_cons, List.not_mem_nil, or_false] at h
     rcases h with h | h | h
     · exact .inr (.inl h)
     · rw [h]; exact .inr (.inr hx)
     · rw [h]; exact .inr (.inr hy)
theorem mon_len (n : Int) : 4 ≤ (monL n).length := by
 obtain ⟨a, x, y, e, _, ha, _⟩ := mon_shape n
 rw [e, List.length_append, List.length_append]
 have : 0 < a.length := List.length_pos_iff.mpr ha
 simp only [List.length_cons, List.length_nil]; omega
def filt (l : List Nat) : List Nat := (l.filter (· != 45)).filter (· != 46)
def ansM (l : List Nat) : Option Int := if (filt l).length = 0 ∨ (filt l).all inF = false ∨ 60 < (filt l).length then none else if monL (if l.take 1 = [45] then -val (filt l) else val (filt l)) = l then some (if l.take 1 = [45] then -val (filt l) else val (filt l)) else none
theorem filt_fig {l : List Nat} (h : ∀ c ∈ l, isF c) : filt l = l := by
 unfold filt
 have e1 : l.filter (· != 45) = l := List.filter_eq_self.mpr fun c hc => by have := h c hc; unfold isF at this; simp; omega
 rw [e1]
 exact List.filter_eq_self.mpr fun c hc => by have := h c hc; unfold isF at this; simp; omega
theorem filt_app (a b : List Nat) : filt (a ++ b) = filt a ++ filt b := by unfold filt; rw [List.filter_append, List.filter_append]
theorem filt_mon (n : Int) : filt (monL n) = figM n := by
 obtain ⟨a, x, y, e, ef, ha, hc, hx, hy, _⟩ := mon_shape n
 have e1 : filt (sgn n) = [] := by unfold sgn; split <;> rfl
 have e2 : filt [46, x, y] = [x, y] := by
   rw [show [46, x, y] = [46] ++ [x, y] from rfl, filt_app, show filt [46] = [] from rfl, List.nil_append]
   exact filt_fig fun c hc => by simp only [List.mem_cons, List.not_mem_nil, or_false] at hc; rcases hc with e | e <;> rw [e] <;> assumption
 rw [e, filt_app, filt_app, e1, filt_fig hc, e2, ef, List.nil_append]
theorem mon_take (n : Int) : (monL n).take 1 = [45] ↔ n < 0 := by
 obtain ⟨a, x, y, e, ef, ha, hc, hx, hy, _⟩ := mon_shape n
 rw [e]
 unfold sgn
 split
 · rename_i h; exact ⟨fun _ => h, fun _ => rfl⟩
 · rename_i h
   refine ⟨fun z => ?_, fun z => absurd z h⟩
   cases a with
   | nil => exact absurd rfl ha
   | cons b a =>
     have : b = 45 := by simpa using z
     have hb := hc b (by simp)
     unfold isF at hb; omega
theorem ansM_mon {n : Int} (h : n.natAbs < 10 ^ 60) : ansM (monL n) = some n := by
 unfold ansM
 rw [filt_mon, val_figM]
 have hl := pad3_len (dig n.natAbs)
 have hd := dig_len (k := 60) (by decide) h
 have hh : (if (monL n).take 1 = [45] then -((n.natAbs : Nat) : Int) else ((n.natAbs : Nat) : Int)) = n := by
   by_cases hn : n < 0
   · rw [if_pos ((mon_take n).mpr hn)]; omega
   · rw [if_neg (fun z => hn ((mon_take n).mp z))]; omega
 rw [hh, if_neg, if_pos rfl]
 rintro (z | z | z)
 · have : (figM n).length = (pad3 (dig n.natAbs)).length := rfl
   omega
 · rw [List.all_eq_false] at z
   obtain ⟨c, hc, k⟩ := z
   exact k ((inF_iff c).mpr (figM_fig hc))
 · have : (figM n).length = (pad3 (dig n.natAbs)).length := rfl
   omega
theorem mon_fine {n : Int} (h : n.natAbs < 10 ^ 60) : Fine 65 (S (monL n)) := by
 refine ⟨?_, fun c hc => ?_⟩
 · obtain ⟨a, x, y, e, ef, _⟩ := mon_shape n
   have hl := (pad3_len (dig n.natAbs)).2
   have hd := dig_len (k := 60) (by decide) h
   have e3 := congrArg List.length ef
   rw [List.length_append] at e3
   have e4 : (figM n).length = (pad3 (dig n.natAbs)).length := rfl
   rw [len_S, e, List.length_append, List.length_append]
   have e5 : (sgn n).length ≤ 1 := by unfold sgn; split <;> simp
   simp only [List.length_cons, List.length_nil] at e3 ⊢
   omega
 · rw [cd_S] at hc
   rcases mon_chars hc with z | z | z
   · omega
   · omega
   · unfold isF at z; omega
theorem mon_blank {n : Int} : (∀ c, (monL n).head? = some c → c ≠ 32) ∧ (∀ c, (monL n).getLast? = some c → c ≠ 32) := by
 have k : ∀ c ∈ monL n, c ≠ 32 := fun c hc => by rcases mon_chars hc with z | z | z; omega; omega; unfold isF at z; omega
 exact ⟨fun c hc => k c (List.mem_of_mem_head? hc), fun c hc => k c (List.mem_of_getLast? hc)⟩
theorem joinL_filter {c : Nat} : ∀ {ps : List (List Nat)}, (∀ p ∈ ps, c ∉ p) → (joinL [c] ps).filter (· != c) = joinL [] ps
 | [], _ => rfl
 | [x], h => List.filter_eq_self.mpr fun d hd => by
     have := h x (by simp)
     simp; intro z; subst z; exact this hd
 | x :: y :: r, h => by
   have hx : x.filter (· != c) = x := List.filter_eq_self.mpr fun d hd => by
     have := h x (by simp)
     simp; intro z; subst z; exact this hd
   show (x ++ [c] ++ joinL [c] (y :: r)).filter (· != c) = x ++ [] ++ joinL [] (y :: r)
   rw [List.filter_append, List.filter_append, hx, joinL_filter fun p hp => h p (List.mem_cons_of_mem _ hp)]
   simp
theorem replace_is (z : Str) (c : Nat) : cd (Txt.replace z (S [c]) (S [])) = (cd z).filter (· != c) := by
 have h1 : Txt.replace z (S [c]) (S []) = Str.join (S []) (Txt.split z (S [c])) := StrLaws.replace_one z (S []) c
 have h2 : Str.join (S [c]) (Txt.split z (S [c])) = z := StrLaws.join_split z (S [c])
 rw [h1, ← StrLaws.glued_eq_join, show Builtin.Str.glued (S []) (Txt.split z (S [c])) = joinS (S []) (Txt.split z (S [c])) from rfl, joinS_is, cd_S, cd_S]
 rw [← StrLaws.glued_eq_join, show Builtin.Str.glued (S [c]) (Txt.split z (S [c])) = joinS (S [c]) (Txt.split z (S [c])) from rfl, joinS_is] at h2
 have h3 := congrArg cd h2
 rw [cd_S, cd_S] at h3
 rw [← h3, joinL_filter]
 intro p hp
 obtain ⟨x, hx, rfl⟩ := List.mem_map.mp hp
 exact StrLaws.split_free z c x hx
end L2
namespace K07
open PySem L2
def top (i : Nat) : Stmt := PySem.Challenge.pw_askpaper_k07_kinds_written.main.body.getD i (.Pass ⟨0, 0, 0, 0⟩)
abbrev s_is_whole : Stmt := top 25
abbrev s_is_name : Stmt := top 26
abbrev s_are_unlike_names : Stmt := top 27
abbrev s_are_figures : Stmt := top 28
abbrev s_figures_worth : Stmt := top 29
abbrev s_number_of : Stmt := top 30
abbrev s_number_or_none : Stmt := top 31
abbrev s_money_shown : Stmt := top 39
abbrev s_money_or_none : Stmt := top 40
abbrev s_c_Kind___init : Stmt := inClass (top 41) 0
abbrev s_c_Kind_read : Stmt := inClass (top 41) 3
abbrev s_c_YesNo___init : Stmt := inClass (top 42) 0
abbrev s_c_YesNo_fits : Stmt := inClass (top 42) 1
abbrev s_c_YesNo_answer_of : Stmt := inClass (top 42) 2
abbrev s_c_YesNo_shown : Stmt := inClass (top 42) 3
abbrev s_c_YesNo_rank : Stmt := inClass (top 42) 4
abbrev s_c_YesNo_sample : Stmt := inClass (top 42) 5
abbrev s_c_YesNo_told : Stmt := inClass (top 42) 6
abbrev s_c_Whole_fits : Stmt := inClass (top 43) 0
abbrev s_c_Whole_answer_of : Stmt := inClass (top 43) 1
abbrev s_c_Whole_shown : Stmt := inClass (top 43) 2
abbrev s_c_Whole_rank : Stmt := inClass (top 43) 3
abbrev s_c_Whole_sample : Stmt := inClass (top 43) 4
abbrev s_c_Whole_bounds : Stmt := inClass (top 43) 5
abbrev s_c_Whole_told : Stmt := inClass (top 43) 6
abbrev s_c_Money_answer_of : Stmt := inClass (top 44) 0
abbrev s_c_Money_shown : Stmt := inClass (top 44) 1
abbrev s_c_Money_told : Stmt := inClass (top 44) 2
abbrev s_c_Pick___init : Stmt := inClass (top 45) 0
abbrev s_c_Pick_fits : Stmt := inClass (top 45) 1
abbrev s_c_Pick_answer_of : Stmt := inClass (top 45) 2
abbrev s_c_Pick_shown : Stmt := inClass (top 45) 3
abbrev s_c_Pick_rank : Stmt := inClass (top 45) 4
abbrev s_c_Pick_sample : Stmt := inClass (top 45) 5
abbrev s_c_Pick_told : Stmt := inClass (top 45) 6
abbrev s_c_Names___init : Stmt := inClass (top 46) 0
abbrev s_c_Names_fits : Stmt := inClass (top 46) 1
abbrev s_c_Names_answer_of : Stmt := inClass (top 46) 2
abbrev s_c_Names_shown : Stmt := inClass (top 46) 3
abbrev s_c_Names_rank : Stmt := inClass (top 46) 4
abbrev s_c_Names_sample : Stmt := inClass (top 46) 5
abbrev s_c_Names_told : Stmt := inClass (top 46) 6
abbrev s_are_bounds : Stmt := top 47
abbrev s_whole_or_none : Stmt := top 48
abbrev s_money_kind_or_none : Stmt := top 49
abbrev s_pick_or_none : Stmt := top 50
abbrev s_names_or_none : Stmt := top 51
abbrev s_kind_or_none : Stmt := top 52
abbrev s_kind_of : Stmt := top 53
abbrev s_law_whole : Stmt := top 55
abbrev s_law_letter : Stmt := top 56
abbrev s_law_wide : Stmt := top 57
abbrev s_law_low : Stmt := top 58
abbrev s_law_size : Stmt := top 59
abbrev s_law_money : Stmt := top 60
abbrev s_law_words : Stmt := top 61
abbrev s_law_numbers : Stmt := top 62
abbrev s_law_good : Stmt := top 63
abbrev s_law_odd : Stmt := top 64
abbrev s_law_bad : Stmt := top 65
abbrev s_law_only : Stmt := top 66
abbrev s_law_refused : Stmt := top 67
abbrev s_law_sample : Stmt := top 68
abbrev s_law_told : Stmt := top 69
abbrev s_law : Stmt := top 70
structure Adr where
 f_is_whole : Addr
 d_is_whole : FuncData
 f_is_name : Addr
 d_is_name : FuncData
 f_are_unlike_names : Addr
 d_are_unlike_names : FuncData
 f_are_figures : Addr
 d_are_figures : FuncData
 f_figures_worth : Addr
 d_figures_worth : FuncData
 f_number_of : Addr
 d_number_of : FuncData
 ds_number_of : List Value
 f_number_or_none : Addr
 d_number_or_none : FuncData
 f_money_shown : Addr
 d_money_shown : FuncData
 f_money_or_none : Addr
 d_money_or_none : FuncData
 f_c_Kind___init : Addr
 d_c_Kind___init : FuncData
 f_c_Kind_read : Addr
 d_c_Kind_read : FuncData
 f_c_YesNo___init : Addr
 d_c_YesNo___init : FuncData
 f_c_YesNo_fits : Addr
 d_c_YesNo_fits : FuncData
 f_c_YesNo_answer_of : Addr
 d_c_YesNo_answer_of : FuncData
 f_c_YesNo_shown : Addr
 d_c_YesNo_shown : FuncData
 f_c_YesNo_rank : Addr
 d_c_YesNo_rank : FuncData
 f_c_YesNo_sample : Addr
 d_c_YesNo_sample : FuncData
 f_c_YesNo_told : Addr
 d_c_YesNo_told : FuncData
 f_c_Whole_fits : Addr
 d_c_Whole_fits : FuncData
 f_c_Whole_answer_of : Addr
 d_c_Whole_answer_of : FuncData
 f_c_Whole_shown : Addr
 d_c_Whole_shown : FuncData
 f_c_Whole_rank : Addr
 d_c_Whole_rank : FuncData
 f_c_Whole_sample : Addr
 d_c_Whole_sample : FuncData
 f_c_Whole_bounds : Addr
 d_c_Whole_bounds : FuncData
 f_c_Whole_told : Addr
 d_c_Whole_told : FuncData
 f_c_Money_answer_of : Addr
 d_c_Money_answer_of : FuncData
 f_c_Money_shown : Addr
 d_c_Money_shown : FuncData
 f_c_Money_told : Addr
 d_c_Money_told : FuncData
 f_c_Pick___init : Addr
 d_c_Pick___init : FuncData
 f_c_Pick_fits : Addr
 d_c_Pick_fits : FuncData
 f_c_Pick_answer_of : Addr
 d_c_Pick_answer_of : FuncData
 f_c_Pick_shown : Addr
 d_c_Pick_shown : FuncData
 f_c_Pick_rank : Addr
 d_c_Pick_rank : FuncData
 f_c_Pick_sample : Addr
 d_c_Pick_sample : FuncData
 f_c_Pick_told : Addr
 d_c_Pick_told : FuncData
 f_c_Names___init : Addr
 d_c_Names___init : FuncData
 ds_c_Names___init : List Value
 f_c_Names_fits : Addr
 d_c_Names_fits : FuncData
 f_c_Names_answer_of : Addr
 d_c_Names_answer_of : FuncData
 f_c_Names_shown : Addr
 d_c_Names_shown : FuncData
 f_c_Names_rank : Addr
 d_c_Names_rank : FuncData
 f_c_Names_sample : Addr
 d_c_Names_sample : FuncData
 f_c_Names_told : Addr
 d_c_Names_told : FuncData
 f_are_bounds : Addr
 d_are_bounds : FuncData
 f_whole_or_none : Addr
 d_whole_or_none : FuncData
 f_money_kind_or_none : Addr
 d_money_kind_or_none : FuncData
 f_pick_or_none : Addr
 d_pick_or_none : FuncData
 f_names_or_none : Addr
 d_names_or_none : FuncData
 f_kind_or_none : Addr
 d_kind_or_none : FuncData
 f_kind_of : Addr
 d_kind_of : FuncData
 f_law_whole : Addr
 d_law_whole : FuncData
 f_law_letter : Addr
 d_law_letter : FuncData
 f_law_wide : Addr
 d_law_wide : FuncData
 f_law_low : Addr
 d_law_low : FuncData
 f_law_size : Addr
 d_law_size : FuncData
 f_law_money : Addr
 d_law_money : FuncData
 f_law_words : Addr
 d_law_words : FuncData
 f_law_numbers : Addr
 d_law_numbers : FuncData
 f_law_good : Addr
 d_law_good : FuncData
 f_law_odd : Addr
 d_law_odd : FuncData
 f_law_bad : Addr
 d_law_bad : FuncData
 f_law_only : Addr
 d_law_only : FuncData
 f_law_refused : Addr
 d_law_refused : FuncData
 f_law_sample : Addr
 d_law_sample : FuncData
 f_law_told : Addr
 d_law_told : FuncData
 f_law : Addr
 d_law : FuncData
 a_NO_NAMES : Addr
 a_SAMPLE_NAMES : Addr
 a_WRITTEN_TRUTHS : Addr
 c_AskError : Addr
 c_Kind : Addr
 c_Money : Addr
 c_Names : Addr
 c_NoAnswer : Addr
 c_NoKind : Addr
 c_NoLeft : Addr
 c_NoLine : Addr
 c_NoNumber : Addr
 c_NoRow : Addr
 c_NoSay : Addr
 c_NoSaying : Addr
 c_NoSum : Addr
 c_NoWay : Addr
 c_NotCome : Addr
 c_NotYet : Addr
 c_Nowhere : Addr
 c_OutOfReach : Addr
 c_Pick : Addr
 c_Ring : Addr
 c_Twice : Addr
 c_Unknown : Addr
 c_Whole : Addr
 c_WrongKind : Addr
 c_YesNo : Addr
structure Txt (K : W.Frag) (mg : Str → Option Value) (A : Adr) : Prop where
 F_is_whole : Fun K "is_whole" "is_whole" s_is_whole A.f_is_whole A.d_is_whole
 b_is_whole : Binds K A.d_is_whole ["thing"] []
 k_is_whole : W.keepIn K (.ref A.f_is_whole) = true
 m_is_whole : mg "is_whole" = some (.ref A.f_is_whole)
 F_is_name : Fun K "is_name" "is_name" s_is_name A.f_is_name A.d_is_name
 b_is_name : Binds K A.d_is_name ["thing"] []
 k_is_name : W.keepIn K (.ref A.f_is_name) = true
 m_is_name : mg "is_name" = some (.ref A.f_is_name)
 F_are_unlike_names : Fun K "are_unlike_names" "are_unlike_names" s_are_unlike_names A.f_are_unlike_names A.d_are_unlike_names
 b_are_unlike_names : Binds K A.d_are_unlike_names ["words"] []
 k_are_unlike_names : W.keepIn K (.ref A.f_are_unlike_names) = true
 m_are_unlike_names : mg "are_unlike_names" = some (.ref A.f_are_unlike_names)
 F_are_figures : Fun K "are_figures" "are_figures" s_are_figures A.f_are_figures A.d_are_figures
 b_are_figures : Binds K A.d_are_figures ["text"] []
 k_are_figures : W.keepIn K (.ref A.f_are_figures) = true
 m_are_figures : mg "are_figures" = some (.ref A.f_are_figures)
 F_figures_worth : Fun K "figures_worth" "figures_worth" s_figures_worth A.f_figures_worth A.d_figures_worth
 b_figures_worth : Binds K A.d_figures_worth ["figures"] []
 k_figures_worth : W.keepIn K (.ref A.f_figures_worth) = true
 m_figures_worth : mg "figures_worth" = some (.ref A.f_figures_worth)
 F_number_of : FunD K "number_of" "number_of" s_number_of A.ds_number_of A.f_number_of A.d_number_of
 b_number_of : Binds K A.d_number_of ["text", "most"] []
 bd_number_of : Binds K A.d_number_of ["text", "most"] A.ds_number_of
 dv_number_of : Vals [(.int 60)] A.ds_number_of
 k_number_of : W.keepIn K (.ref A.f_number_of) = true
 m_number_of : mg "number_of" = some (.ref A.f_number_of)
 F_number_or_none : Fun K "number_or_none" "number_or_none" s_number_or_none A.f_number_or_none A.d_number_or_none
 b_number_or_none : Binds K A.d_number_or_none ["text"] []
 k_number_or_none : W.keepIn K (.ref A.f_number_or_none) = true
 m_number_or_none : mg "number_or_none" = some (.ref A.f_number_or_none)
 F_money_shown : Fun K "money_shown" "money_shown" s_money_shown A.f_money_shown A.d_money_shown
 b_money_shown : Binds K A.d_money_shown ["hundredths"] []
 k_money_shown : W.keepIn K (.ref A.f_money_shown) = true
 m_money_shown : mg "money_shown" = some (.ref A.f_money_shown)
 F_money_or_none : Fun K "money_or_none" "money_or_none" s_money_or_none A.f_money_or_none A.d_money_or_none
 b_money_or_none : Binds K A.d_money_or_none ["text"] []
 k_money_or_none : W.keepIn K (.ref A.f_money_or_none) = true
 m_money_or_none : mg "money_or_none" = some (.ref A.f_money_or_none)
 F_c_Kind___init : Fun K "__init__" "Kind.__init__" s_c_Kind___init A.f_c_Kind___init A.d_c_Kind___init
 b_c_Kind___init : Binds K A.d_c_Kind___init ["self", "low", "high"] []
 k_c_Kind___init : W.keepIn K (.ref A.f_c_Kind___init) = true
 F_c_Kind_read : Fun K "read" "Kind.read" s_c_Kind_read A.f_c_Kind_read A.d_c_Kind_read
 b_c_Kind_read : Binds K A.d_c_Kind_read ["self", "text"] []
 k_c_Kind_read : W.keepIn K (.ref A.f_c_Kind_read) = true
 F_c_YesNo___init : Fun K "__init__" "YesNo.__init__" s_c_YesNo___init A.f_c_YesNo___init A.d_c_YesNo___init
 b_c_YesNo___init : Binds K A.d_c_YesNo___init ["self"] []
 k_c_YesNo___init : W.keepIn K (.ref A.f_c_YesNo___init) = true
 F_c_YesNo_fits : Fun K "fits" "YesNo.fits" s_c_YesNo_fits A.f_c_YesNo_fits A.d_c_YesNo_fits
 b_c_YesNo_fits : Binds K A.d_c_YesNo_fits ["self", "thing"] []
 k_c_YesNo_fits : W.keepIn K (.ref A.f_c_YesNo_fits) = true
 F_c_YesNo_answer_of : Fun K "answer_of" "YesNo.answer_of" s_c_YesNo_answer_of A.f_c_YesNo_answer_of A.d_c_YesNo_answer_of
 b_c_YesNo_answer_of : Binds K A.d_c_YesNo_answer_of ["self", "text"] []
 k_c_YesNo_answer_of : W.keepIn K (.ref A.f_c_YesNo_answer_of) = true
 F_c_YesNo_shown : Fun K "shown" "YesNo.shown" s_c_YesNo_shown A.f_c_YesNo_shown A.d_c_YesNo_shown
 b_c_YesNo_shown : Binds K A.d_c_YesNo_shown ["self", "answer"] []
 k_c_YesNo_shown : W.keepIn K (.ref A.f_c_YesNo_shown) = true
 F_c_YesNo_rank : Fun K "rank" "YesNo.rank" s_c_YesNo_rank A.f_c_YesNo_rank A.d_c_YesNo_rank
 b_c_YesNo_rank : Binds K A.d_c_YesNo_rank ["self", "answer"] []
 k_c_YesNo_rank : W.keepIn K (.ref A.f_c_YesNo_rank) = true
 F_c_YesNo_sample : Fun K "sample" "YesNo.sample" s_c_YesNo_sample A.f_c_YesNo_sample A.d_c_YesNo_sample
 b_c_YesNo_sample : Binds K A.d_c_YesNo_sample ["self", "rank"] []
 k_c_YesNo_sample : W.keepIn K (.ref A.f_c_YesNo_sample) = true
 F_c_YesNo_told : Fun K "told" "YesNo.told" s_c_YesNo_told A.f_c_YesNo_told A.d_c_YesNo_told
 b_c_YesNo_told : Binds K A.d_c_YesNo_told ["self"] []
 k_c_YesNo_told : W.keepIn K (.ref A.f_c_YesNo_told) = true
 F_c_Whole_fits : Fun K "fits" "Whole.fits" s_c_Whole_fits A.f_c_Whole_fits A.d_c_Whole_fits
 b_c_Whole_fits : Binds K A.d_c_Whole_fits ["self", "thing"] []
 k_c_Whole_fits : W.keepIn K (.ref A.f_c_Whole_fits) = true
 F_c_Whole_answer_of : Fun K "answer_of" "Whole.answer_of" s_c_Whole_answer_of A.f_c_Whole_answer_of A.d_c_Whole_answer_of
 b_c_Whole_answer_of : Binds K A.d_c_Whole_answer_of ["self", "text"] []
 k_c_Whole_answer_of : W.keepIn K (.ref A.f_c_Whole_answer_of) = true
 F_c_Whole_shown : Fun K "shown" "Whole.shown" s_c_Whole_shown A.f_c_Whole_shown A.d_c_Whole_shown
 b_c_Whole_shown : Binds K A.d_c_Whole_shown ["self", "answer"] []
 k_c_Whole_shown : W.keepIn K (.ref A.f_c_Whole_shown) = true
 F_c_Whole_rank : Fun K "rank" "Whole.rank" s_c_Whole_rank A.f_c_Whole_rank A.d_c_Whole_rank
 b_c_Whole_rank : Binds K A.d_c_Whole_rank ["self", "answer"] []
 k_c_Whole_rank : W.keepIn K (.ref A.f_c_Whole_rank) = true
 F_c_Whole_sample : Fun K "sample" "Whole.sample" s_c_Whole_sample A.f_c_Whole_sample A.d_c_Whole_sample
 b_c_Whole_sample : Binds K A.d_c_Whole_sample ["self", "rank"] []
 k_c_Whole_sample : W.keepIn K (.ref A.f_c_Whole_sample) = true
 F_c_Whole_bounds : Fun K "bounds" "Whole.bounds" s_c_Whole_bounds A.f_c_Whole_bounds A.d_c_Whole_bounds
 b_c_Whole_bounds : Binds K A.d_c_Whole_bounds ["self"] []
 k_c_Whole_bounds : W.keepIn K (.ref A.f_c_Whole_bounds) = true
 F_c_Whole_told : Fun K "told" "Whole.told" s_c_Whole_told A.f_c_Whole_told A.d_c_Whole_told
 b_c_Whole_told : Binds K A.d_c_Whole_told ["self"] []
 k_c_Whole_told : W.keepIn K (.ref A.f_c_Whole_told) = true
 F_c_Money_answer_of : Fun K "answer_of" "Money.answer_of" s_c_Money_answer_of A.f_c_Money_answer_of A.d_c_Money_answer_of
 b_c_Money_answer_of : Binds K A.d_c_Money_answer_of ["self", "text"] []
 k_c_Money_answer_of : W.keepIn K (.ref A.f_c_Money_answer_of) = true
 F_c_Money_shown : Fun K "shown" "Money.shown" s_c_Money_shown A.f_c_Money_shown A.d_c_Money_shown
 b_c_Money_shown : Binds K A.d_c_Money_shown ["self", "answer"] []
 k_c_Money_shown : W.keepIn K (.ref A.f_c_Money_shown) = true
 F_c_Money_told : Fun K "told" "Money.told" s_c_Money_told A.f_c_Money_told A.d_c_Money_told
 b_c_Money_told : Binds K A.d_c_Money_told ["self"] []
 k_c_Money_told : W.keepIn K (.ref A.f_c_Money_told) = true
 F_c_Pick___init : Fun K "__init__" "Pick.__init__" s_c_Pick___init A.f_c_Pick___init A.d_c_Pick___init
 b_c_Pick___init : Binds K A.d_c_Pick___init ["self", "words"] []
 k_c_Pick___init : W.keepIn K (.ref A.f_c_Pick___init) = true
 F_c_Pick_fits : Fun K "fits" "Pick.fits" s_c_Pick_fits A.f_c_Pick_fits A.d_c_Pick_fits
 b_c_Pick_fits : Binds K A.d_c_Pick_fits ["self", "thing"] []
 k_c_Pick_fits : W.keepIn K (.ref A.f_c_Pick_fits) = true
 F_c_Pick_answer_of : Fun K "answer_of" "Pick.answer_of" s_c_Pick_answer_of A.f_c_Pick_answer_of A.d_c_Pick_answer_of
 b_c_Pick_answer_of : Binds K A.d_c_Pick_answer_of ["self", "text"] []
 k_c_Pick_answer_of : W.keepIn K (.ref A.f_c_Pick_answer_of) = true
 F_c_Pick_shown : Fun K "shown" "Pick.shown" s_c_Pick_shown A.f_c_Pick_shown A.d_c_Pick_shown
 b_c_Pick_shown : Binds K A.d_c_Pick_shown ["self", "answer"] []
 k_c_Pick_shown : W.keepIn K (.ref A.f_c_Pick_shown) = true
 F_c_Pick_rank : Fun K "rank" "Pick.rank" s_c_Pick_rank A.f_c_Pick_rank A.d_c_Pick_rank
 b_c_Pick_rank : Binds K A.d_c_Pick_rank ["self", "answer"] []
 k_c_Pick_rank : W.keepIn K (.ref A.f_c_Pick_rank) = true
 F_c_Pick_sample : Fun K "sample" "Pick.sample" s_c_Pick_sample A.f_c_Pick_sample A.d_c_Pick_sample
 b_c_Pick_sample : Binds K A.d_c_Pick_sample ["self", "rank"] []
 k_c_Pick_sample : W.keepIn K (.ref A.f_c_Pick_sample) = true
 F_c_Pick_told : Fun K "told" "Pick.told" s_c_Pick_told A.f_c_Pick_told A.d_c_Pick_told
 b_c_Pick_told : Binds K A.d_c_Pick_told ["self"] []
 k_c_Pick_told : W.keepIn K (.ref A.f_c_Pick_told) = true
 F_c_Names___init : FunD K "__init__" "Names.__init__" s_c_Names___init A.ds_c_Names___init A.f_c_Names___init A.d_c_Names___init
 b_c_Names___init : Binds K A.d_c_Names___init ["self", "most"] []
 bd_c_Names___init : Binds K A.d_c_Names___init ["self", "most"] A.ds_c_Names___init
 dv_c_Names___init : Vals [(.int 3)] A.ds_c_Names___init
 k_c_Names___init : W.keepIn K (.ref A.f_c_Names___init) = true
 F_c_Names_fits : Fun K "fits" "Names.fits" s_c_Names_fits A.f_c_Names_fits A.d_c_Names_fits
 b_c_Names_fits : Binds K A.d_c_Names_fits ["self", "thing"] []
 k_c_Names_fits : W.keepIn K (.ref A.f_c_Names_fits) = true
 F_c_Names_answer_of : Fun K "answer_of" "Names.answer_of" s_c_Names_answer_of A.f_c_Names_answer_of A.d_c_Names_answer_of
 b_c_Names_answer_of : Binds K A.d_c_Names_answer_of ["self", "text"] []
 k_c_Names_answer_of : W.keepIn K (.ref A.f_c_Names_answer_of) = true
 F_c_Names_shown : Fun K "shown" "Names.shown" s_c_Names_shown A.f_c_Names_shown A.d_c_Names_shown
 b_c_Names_shown : Binds K A.d_c_Names_shown ["self", "answer"] []
 k_c_Names_shown : W.keepIn K (.ref A.f_c_Names_shown) = true
 F_c_Names_rank : Fun K "rank" "Names.rank" s_c_Names_rank A.f_c_Names_rank A.d_c_Names_rank
 b_c_Names_rank : Binds K A.d_c_Names_rank ["self", "answer"] []
 k_c_Names_rank : W.keepIn K (.ref A.f_c_Names_rank) = true
 F_c_Names_sample : Fun K "sample" "Names.sample" s_c_Names_sample A.f_c_Names_sample A.d_c_Names_sample
 b_c_Names_sample : Binds K A.d_c_Names_sample ["self", "rank"] []
 k_c_Names_sample : W.keepIn K (.ref A.f_c_Names_sample) = true
 F_c_Names_told : Fun K "told" "Names.told" s_c_Names_told A.f_c_Names_told A.d_c_Names_told
 b_c_Names_told : Binds K A.d_c_Names_told ["self"] []
 k_c_Names_told : W.keepIn K (.ref A.f_c_Names_told) = true
 F_are_bounds : Fun K "are_bounds" "are_bounds" s_are_bounds A.f_are_bounds A.d_are_bounds
 b_are_bounds : Binds K A.d_are_bounds ["numbers"] []
 k_are_bounds : W.keepIn K (.ref A.f_are_bounds) = true
 m_are_bounds : mg "are_bounds" = some (.ref A.f_are_bounds)
 F_whole_or_none : Fun K "whole_or_none" "whole_or_none" s_whole_or_none A.f_whole_or_none A.d_whole_or_none
 b_whole_or_none : Binds K A.d_whole_or_none ["words"] []
 k_whole_or_none : W.keepIn K (.ref A.f_whole_or_none) = true
 m_whole_or_none : mg "whole_or_none" = some (.ref A.f_whole_or_none)
 F_money_kind_or_none : Fun K "money_kind_or_none" "money_kind_or_none" s_money_kind_or_none A.f_money_kind_or_none A.d_money_kind_or_none
 b_money_kind_or_none : Binds K A.d_money_kind_or_none ["words"] []
 k_money_kind_or_none : W.keepIn K (.ref A.f_money_kind_or_none) = true
 m_money_kind_or_none : mg "money_kind_or_none" = some (.ref A.f_money_kind_or_none)
 F_pick_or_none : Fun K "pick_or_none" "pick_or_none" s_pick_or_none A.f_pick_or_none A.d_pick_or_none
 b_pick_or_none : Binds K A.d_pick_or_none ["words"] []
 k_pick_or_none : W.keepIn K (.ref A.f_pick_or_none) = true
 m_pick_or_none : mg "pick_or_none" = some (.ref A.f_pick_or_none)
 F_names_or_none : Fun K "names_or_none" "names_or_none" s_names_or_none A.f_names_or_none A.d_names_or_none
 b_names_or_none : Binds K A.d_names_or_none ["words"] []
 k_names_or_none : W.keepIn K (.ref A.f_names_or_none) = true
 m_names_or_none : mg "names_or_none" = some (.ref A.f_names_or_none)
 F_kind_or_none : Fun K "kind_or_none" "kind_or_none" s_kind_or_none A.f_kind_or_none A.d_kind_or_none
 b_kind_or_none : Binds K A.d_kind_or_none ["first", "words"] []
 k_kind_or_none : W.keepIn K (.ref A.f_kind_or_none) = true
 m_kind_or_none : mg "kind_or_none" = some (.ref A.f_kind_or_none)
 F_kind_of : Fun K "kind_of" "kind_of" s_kind_of A.f_kind_of A.d_kind_of
 b_kind_of : Binds K A.d_kind_of ["text"] []
 k_kind_of : W.keepIn K (.ref A.f_kind_of) = true
 m_kind_of : mg "kind_of" = some (.ref A.f_kind_of)
 F_law_whole : Fun K "_law_whole" "_law_whole" s_law_whole A.f_law_whole A.d_law_whole
 b_law_whole : Binds K A.d_law_whole ["_law_found"] []
 k_law_whole : W.keepIn K (.ref A.f_law_whole) = true
 m_law_whole : mg "_law_whole" = some (.ref A.f_law_whole)
 F_law_letter : Fun K "_law_letter" "_law_letter" s_law_letter A.f_law_letter A.d_law_letter
 b_law_letter : Binds K A.d_law_letter ["_law_number"] []
 k_law_letter : W.keepIn K (.ref A.f_law_letter) = true
 m_law_letter : mg "_law_letter" = some (.ref A.f_law_letter)
 F_law_wide : Fun K "_law_wide" "_law_wide" s_law_wide A.f_law_wide A.d_law_wide
 b_law_wide : Binds K A.d_law_wide ["_law_cell"] []
 k_law_wide : W.keepIn K (.ref A.f_law_wide) = true
 m_law_wide : mg "_law_wide" = some (.ref A.f_law_wide)
 F_law_low : Fun K "_law_low" "_law_low" s_law_low A.f_law_low A.d_law_low
 b_law_low : Binds K A.d_law_low ["_law_cell"] []
 k_law_low : W.keepIn K (.ref A.f_law_low) = true
 m_law_low : mg "_law_low" = some (.ref A.f_law_low)
 F_law_size : Fun K "_law_size" "_law_size" s_law_size A.f_law_size A.d_law_size
 b_law_size : Binds K A.d_law_size ["_law_cell"] []
 k_law_size : W.keepIn K (.ref A.f_law_size) = true
 m_law_size : mg "_law_size" = some (.ref A.f_law_size)
 F_law_money : Fun K "_law_money" "_law_money" s_law_money A.f_law_money A.d_law_money
 b_law_money : Binds K A.d_law_money ["_law_number"] []
 k_law_money : W.keepIn K (.ref A.f_law_money) = true
 m_law_money : mg "_law_money" = some (.ref A.f_law_money)
 F_law_words : Fun K "_law_words" "_law_words" s_law_words A.f_law_words A.d_law_words
 b_law_words : Binds K A.d_law_words ["_law_cell", "_law_many"] []
 k_law_words : W.keepIn K (.ref A.f_law_words) = true
 m_law_words : mg "_law_words" = some (.ref A.f_law_words)
 F_law_numbers : Fun K "_law_numbers" "_law_numbers" s_law_numbers A.f_law_numbers A.d_law_numbers
 b_law_numbers : Binds K A.d_law_numbers ["_law_head", "_law_low_here", "_law_high"] []
 k_law_numbers : W.keepIn K (.ref A.f_law_numbers) = true
 m_law_numbers : mg "_law_numbers" = some (.ref A.f_law_numbers)
 F_law_good : Fun K "_law_good" "_law_good" s_law_good A.f_law_good A.d_law_good
 b_law_good : Binds K A.d_law_good ["_law_cell"] []
 k_law_good : W.keepIn K (.ref A.f_law_good) = true
 m_law_good : mg "_law_good" = some (.ref A.f_law_good)
 F_law_odd : Fun K "_law_odd" "_law_odd" s_law_odd A.f_law_odd A.d_law_odd
 b_law_odd : Binds K A.d_law_odd ["_law_cell"] []
 k_law_odd : W.keepIn K (.ref A.f_law_odd) = true
 m_law_odd : mg "_law_odd" = some (.ref A.f_law_odd)
 F_law_bad : Fun K "_law_bad" "_law_bad" s_law_bad A.f_law_bad A.d_law_bad
 b_law_bad : Binds K A.d_law_bad ["_law_cell"] []
 k_law_bad : W.keepIn K (.ref A.f_law_bad) = true
 m_law_bad : mg "_law_bad" = some (.ref A.f_law_bad)
 F_law_only : Fun K "_law_only" "_law_only" s_law_only A.f_law_only A.d_law_only
 b_law_only : Binds K A.d_law_only ["_law_kept"] []
 k_law_only : W.keepIn K (.ref A.f_law_only) = true
 m_law_only : mg "_law_only" = some (.ref A.f_law_only)
 F_law_refused : Fun K "_law_refused" "_law_refused" s_law_refused A.f_law_refused A.d_law_refused
 b_law_refused : Binds K A.d_law_refused ["_law_thing"] []
 k_law_refused : W.keepIn K (.ref A.f_law_refused) = true
 m_law_refused : mg "_law_refused" = some (.ref A.f_law_refused)
 F_law_sample : Fun K "_law_sample" "_law_sample" s_law_sample A.f_law_sample A.d_law_sample
 b_law_sample : Binds K A.d_law_sample ["_law_kind", "_law_rank"] []
 k_law_sample : W.keepIn K (.ref A.f_law_sample) = true
 m_law_sample : mg "_law_sample" = some (.ref A.f_law_sample)
 F_law_told : Fun K "_law_told" "_law_told" s_law_told A.f_law_told A.d_law_told
 b_law_told : Binds K A.d_law_told ["_law_text", "_law_low_here", "_law_high"] []
 k_law_told : W.keepIn K (.ref A.f_law_told) = true
 m_law_told : mg "_law_told" = some (.ref A.f_law_told)
 F_law : Fun K "law" "law" s_law A.f_law A.d_law
 b_law : Binds K A.d_law ["_law_script"] []
 k_law : W.keepIn K (.ref A.f_law) = true
 m_law : mg "law" = some (.ref A.f_law)
 g_FEWEST_WORDS : GlobV mg "FEWEST_WORDS" (.int 2)
 g_FIGURES : GlobV mg "FIGURES" (.str "0123456789")
 g_LETTERS : GlobV mg "LETTERS" (.str "abcdefghijklmnopqrstuvwxyz")
 g_LONGEST_NAME : GlobV mg "LONGEST_NAME" (.int 12)
 g_MOST_FIGURES : GlobV mg "MOST_FIGURES" (.int 60)
 g_MOST_NAMES : GlobV mg "MOST_NAMES" (.int 6)
 g_MOST_WORDS : GlobV mg "MOST_WORDS" (.int 6)
 g_NO_NAMES : GlobV mg "NO_NAMES" (.ref A.a_NO_NAMES)
 q_NO_NAMES : ∀ H, SqT K H A.a_NO_NAMES [(.str "and"), (.str "each"), (.str "end"), (.str "is"), (.str "not"), (.str "or"), (.str "unless"), (.str "when")]
 g_SAMPLE_NAMES : GlobV mg "SAMPLE_NAMES" (.ref A.a_SAMPLE_NAMES)
 q_SAMPLE_NAMES : ∀ H, SqT K H A.a_SAMPLE_NAMES [(.str "a"), (.str "b"), (.str "c"), (.str "d"), (.str "e"), (.str "f")]
 m_WRITTEN_TRUTHS : mg "WRITTEN_TRUTHS" = some (.ref A.a_WRITTEN_TRUTHS)
 t_WRITTEN_TRUTHS : TabK K A.a_WRITTEN_TRUTHS [("yes", true), ("no", false)]
 n_ValueError : mg "ValueError" = none
 n_abs : mg "abs" = none
 n_all : mg "all" = none
 n_bool : mg "bool" = none
 n_int : mg "int" = none
 n_isinstance : mg "isinstance" = none
 n_len : mg "len" = none
 n_list : mg "list" = none
 n_range : mg "range" = none
 n_set : mg "set" = none
 n_str : mg "str" = none
 n_tuple : mg "tuple" = none
 i_NoneType_int : W.kitOne K (.type "NoneType") (.type "int") = some false
 i_bool_int : W.kitOne K (.type "bool") (.type "int") = some true
 i_int_int : W.kitOne K (.type "int") (.type "int") = some true
 i_str_int : W.kitOne K (.type "str") (.type "int") = some false
 i_list_int : W.kitOne K (.type "list") (.type "int") = some false
 i_tuple_int : W.kitOne K (.type "tuple") (.type "int") = some false
 i_dict_int : W.kitOne K (.type "dict") (.type "int") = some false
 i_NoneType_bool : W.kitOne K (.type "NoneType") (.type "bool") = some false
 i_bool_bool : W.kitOne K (.type "bool") (.type "bool") = some true
 i_int_bool : W.kitOne K (.type "int") (.type "bool") = some false
 i_str_bool : W.kitOne K (.type "str") (.type "bool") = some false
 i_list_bool : W.kitOne K (.type "list") (.type "bool") = some false
 i_tuple_bool : W.kitOne K (.type "tuple") (.type "bool") = some false
 i_dict_bool : W.kitOne K (.type "dict") (.type "bool") = some false
 i_NoneType_str : W.kitOne K (.type "NoneType") (.type "str") = some false
 i_bool_str : W.kitOne K (.type "bool") (.type "str") = some false
 i_int_str : W.kitOne K (.type "int") (.type "str") = some false
 i_str_str : W.kitOne K (.type "str") (.type "str") = some true
 i_list_str : W.kitOne K (.type "list") (.type "str") = some false
 i_tuple_str : W.kitOne K (.type "tuple") (.type "str") = some false
 i_dict_str : W.kitOne K (.type "dict") (.type "str") = some false
 i_NoneType_tuple : W.kitOne K (.type "NoneType") (.type "tuple") = some false
 i_bool_tuple : W.kitOne K (.type "bool") (.type "tuple") = some false
 i_int_tuple : W.kitOne K (.type "int") (.type "tuple") = some false
 i_str_tuple : W.kitOne K (.type "str") (.type "tuple") = some false
 i_list_tuple : W.kitOne K (.type "list") (.type "tuple") = some false
 i_tuple_tuple : W.kitOne K (.type "tuple") (.type "tuple") = some true
 i_dict_tuple : W.kitOne K (.type "dict") (.type "tuple") = some false
 m_AskError : mg "AskError" = some (.ref A.c_AskError)
 v_AskError : GlobV mg "AskError" (.ref A.c_AskError)
 m_Kind : mg "Kind" = some (.ref A.c_Kind)
 v_Kind : GlobV mg "Kind" (.ref A.c_Kind)
 m_Money : mg "Money" = some (.ref A.c_Money)
 v_Money : GlobV mg "Money" (.ref A.c_Money)
 m_Names : mg "Names" = some (.ref A.c_Names)
 v_Names : GlobV mg "Names" (.ref A.c_Names)
 m_NoAnswer : mg "NoAnswer" = some (.ref A.c_NoAnswer)
 v_NoAnswer : GlobV mg "NoAnswer" (.ref A.c_NoAnswer)
 m_NoKind : mg "NoKind" = some (.ref A.c_NoKind)
 v_NoKind : GlobV mg "NoKind" (.ref A.c_NoKind)
 m_NoLeft : mg "NoLeft" = some (.ref A.c_NoLeft)
 v_NoLeft : GlobV mg "NoLeft" (.ref A.c_NoLeft)
 m_NoLine : mg "NoLine" = some (.ref A.c_NoLine)
 v_NoLine : GlobV mg "NoLine" (.ref A.c_NoLine)
 m_NoNumber : mg "NoNumber" = some (.ref A.c_NoNumber)
 v_NoNumber : GlobV mg "NoNumber" (.ref A.c_NoNumber)
 m_NoRow : mg "NoRow" = some (.ref A.c_NoRow)
 v_NoRow : GlobV mg "NoRow" (.ref A.c_NoRow)
 m_NoSay : mg "NoSay" = some (.ref A.c_NoSay)
 v_NoSay : GlobV mg "NoSay" (.ref A.c_NoSay)
 m_NoSaying : mg "NoSaying" = some (.ref A.c_NoSaying)
 v_NoSaying : GlobV mg "NoSaying" (.ref A.c_NoSaying)
 m_NoSum : mg "NoSum" = some (.ref A.c_NoSum)
 v_NoSum : GlobV mg "NoSum" (.ref A.c_NoSum)
 m_NoWay : mg "NoWay" = some (.ref A.c_NoWay)
 v_NoWay : GlobV mg "NoWay" (.ref A.c_NoWay)
 m_NotCome : mg "NotCome" = some (.ref A.c_NotCome)
 v_NotCome : GlobV mg "NotCome" (.ref A.c_NotCome)
 m_NotYet : mg "NotYet" = some (.ref A.c_NotYet)
 v_NotYet : GlobV mg "NotYet" (.ref A.c_NotYet)
 m_Nowhere : mg "Nowhere" = some (.ref A.c_Nowhere)
 v_Nowhere : GlobV mg "Nowhere" (.ref A.c_Nowhere)
 m_OutOfReach : mg "OutOfReach" = some (.ref A.c_OutOfReach)
 v_OutOfReach : GlobV mg "OutOfReach" (.ref A.c_OutOfReach)
 m_Pick : mg "Pick" = some (.ref A.c_Pick)
 v_Pick : GlobV mg "Pick" (.ref A.c_Pick)
 m_Ring : mg "Ring" = some (.ref A.c_Ring)
 v_Ring : GlobV mg "Ring" (.ref A.c_Ring)
 m_Twice : mg "Twice" = some (.ref A.c_Twice)
 v_Twice : GlobV mg "Twice" (.ref A.c_Twice)
 m_Unknown : mg "Unknown" = some (.ref A.c_Unknown)
 v_Unknown : GlobV mg "Unknown" (.ref A.c_Unknown)
 m_Whole : mg "Whole" = some (.ref A.c_Whole)
 v_Whole : GlobV mg "Whole" (.ref A.c_Whole)
 m_WrongKind : mg "WrongKind" = some (.ref A.c_WrongKind)
 v_WrongKind : GlobV mg "WrongKind" (.ref A.c_WrongKind)
 m_YesNo : mg "YesNo" = some (.ref A.c_YesNo)
 v_YesNo : GlobV mg "YesNo" (.ref A.c_YesNo)
 x_NoAnswer : W.excIn K A.c_NoAnswer mroVE "ValueError.__new__" = true
 ec_NoAnswer : ExcCls K A.c_NoAnswer
 x_NoKind : W.excIn K A.c_NoKind mroVE "ValueError.__new__" = true
 ec_NoKind : ExcCls K A.c_NoKind
 x_NoNumber : W.excIn K A.c_NoNumber mroVE "ValueError.__new__" = true
 ec_NoNumber : ExcCls K A.c_NoNumber
 em_NoNumber_NoNumber : W.exmOne K (.ref A.c_NoNumber) (.ref A.c_NoNumber) = some true
 em_NoAnswer_NoAnswer : W.exmOne K (.ref A.c_NoAnswer) (.ref A.c_NoAnswer) = some true
 em_NoKind_AskError : W.exmOne K (.ref A.c_NoKind) (.ref A.c_AskError) = some true
 kr_NoKind_NoAnswer : W.kitOne K (.ref A.c_NoKind) (.ref A.c_NoAnswer) = some false
 kr_NoKind_NoLeft : W.kitOne K (.ref A.c_NoKind) (.ref A.c_NoLeft) = some false
 kr_NoKind_NoLine : W.kitOne K (.ref A.c_NoKind) (.ref A.c_NoLine) = some false
 kr_NoKind_NoNumber : W.kitOne K (.ref A.c_NoKind) (.ref A.c_NoNumber) = some false
 kr_NoKind_NoRow : W.kitOne K (.ref A.c_NoKind) (.ref A.c_NoRow) = some false
 kr_NoKind_NoSay : W.kitOne K (.ref A.c_NoKind) (.ref A.c_NoSay) = some false
 kr_NoKind_NoSaying : W.kitOne K (.ref A.c_NoKind) (.ref A.c_NoSaying) = some false
 kr_NoKind_NoSum : W.kitOne K (.ref A.c_NoKind) (.ref A.c_NoSum) = some false
 kr_NoKind_NoWay : W.kitOne K (.ref A.c_NoKind) (.ref A.c_NoWay) = some false
 kr_NoKind_NotCome : W.kitOne K (.ref A.c_NoKind) (.ref A.c_NotCome) = some false
 kr_NoKind_NotYet : W.kitOne K (.ref A.c_NoKind) (.ref A.c_NotYet) = some false
 kr_NoKind_Nowhere : W.kitOne K (.ref A.c_NoKind) (.ref A.c_Nowhere) = some false
 kr_NoKind_OutOfReach : W.kitOne K (.ref A.c_NoKind) (.ref A.c_OutOfReach) = some false
 kr_NoKind_Ring : W.kitOne K (.ref A.c_NoKind) (.ref A.c_Ring) = some false
 kr_NoKind_Twice : W.kitOne K (.ref A.c_NoKind) (.ref A.c_Twice) = some false
 kr_NoKind_Unknown : W.kitOne K (.ref A.c_NoKind) (.ref A.c_Unknown) = some false
 kr_NoKind_WrongKind : W.kitOne K (.ref A.c_NoKind) (.ref A.c_WrongKind) = some false
 kr_NoKind_NoKind : W.kitOne K (.ref A.c_NoKind) (.ref A.c_NoKind) = some true
 kr_YesNo_YesNo : W.kitOne K (.ref A.c_YesNo) (.ref A.c_YesNo) = some true
 kr_YesNo_Whole : W.kitOne K (.ref A.c_YesNo) (.ref A.c_Whole) = some false
 kr_YesNo_Money : W.kitOne K (.ref A.c_YesNo) (.ref A.c_Money) = some false
 kr_YesNo_Pick : W.kitOne K (.ref A.c_YesNo) (.ref A.c_Pick) = some false
 kr_YesNo_Names : W.kitOne K (.ref A.c_YesNo) (.ref A.c_Names) = some false
 kr_Whole_YesNo : W.kitOne K (.ref A.c_Whole) (.ref A.c_YesNo) = some false
 kr_Whole_Whole : W.kitOne K (.ref A.c_Whole) (.ref A.c_Whole) = some true
 kr_Whole_Money : W.kitOne K (.ref A.c_Whole) (.ref A.c_Money) = some false
 kr_Whole_Pick : W.kitOne K (.ref A.c_Whole) (.ref A.c_Pick) = some false
 kr_Whole_Names : W.kitOne K (.ref A.c_Whole) (.ref A.c_Names) = some false
 kr_Money_YesNo : W.kitOne K (.ref A.c_Money) (.ref A.c_YesNo) = some false
 kr_Money_Whole : W.kitOne K (.ref A.c_Money) (.ref A.c_Whole) = some true
 kr_Money_Money : W.kitOne K (.ref A.c_Money) (.ref A.c_Money) = some true
 kr_Money_Pick : W.kitOne K (.ref A.c_Money) (.ref A.c_Pick) = some false
 kr_Money_Names : W.kitOne K (.ref A.c_Money) (.ref A.c_Names) = some false
 kr_Pick_YesNo : W.kitOne K (.ref A.c_Pick) (.ref A.c_YesNo) = some false
 kr_Pick_Whole : W.kitOne K (.ref A.c_Pick) (.ref A.c_Whole) = some false
 kr_Pick_Money : W.kitOne K (.ref A.c_Pick) (.ref A.c_Money) = some false
 kr_Pick_Pick : W.kitOne K (.ref A.c_Pick) (.ref A.c_Pick) = some true
 kr_Pick_Names : W.kitOne K (.ref A.c_Pick) (.ref A.c_Names) = some false
 kr_Names_YesNo : W.kitOne K (.ref A.c_Names) (.ref A.c_YesNo) = some false
 kr_Names_Whole : W.kitOne K (.ref A.c_Names) (.ref A.c_Whole) = some false
 kr_Names_Money : W.kitOne K (.ref A.c_Names) (.ref A.c_Money) = some false
 kr_Names_Pick : W.kitOne K (.ref A.c_Names) (.ref A.c_Pick) = some false
 kr_Names_Names : W.kitOne K (.ref A.c_Names) (.ref A.c_Names) = some true
 kr_YesNo_Kind : W.kitOne K (.ref A.c_YesNo) (.ref A.c_Kind) = some true
 kr_Whole_Kind : W.kitOne K (.ref A.c_Whole) (.ref A.c_Kind) = some true
 kr_Money_Kind : W.kitOne K (.ref A.c_Money) (.ref A.c_Kind) = some true
 kr_Pick_Kind : W.kitOne K (.ref A.c_Pick) (.ref A.c_Kind) = some true
 kr_Names_Kind : W.kitOne K (.ref A.c_Names) (.ref A.c_Kind) = some true
 krt_NoKind_ValueError : W.kitOne K (.ref A.c_NoKind) (.type "ValueError") = some true
 cl_YesNo : Cls K A.c_YesNo
 ty_YesNo : ∀ (H : Hp) (a dx : Addr) (fs : List (Str × V)), H a = some (.ins A.c_YesNo dx fs) → TyOf K H (.ref a) (.ref A.c_YesNo)
 mk_YesNo : Mk K A.c_YesNo A.f_c_YesNo___init
 me_YesNo_fits : Meth K A.c_YesNo "fits" A.f_c_YesNo_fits
 me_YesNo_answer_of : Meth K A.c_YesNo "answer_of" A.f_c_YesNo_answer_of
 me_YesNo_shown : Meth K A.c_YesNo "shown" A.f_c_YesNo_shown
 me_YesNo_rank : Meth K A.c_YesNo "rank" A.f_c_YesNo_rank
 me_YesNo_sample : Meth K A.c_YesNo "sample" A.f_c_YesNo_sample
 me_YesNo_read : Meth K A.c_YesNo "read" A.f_c_Kind_read
 me_YesNo_told : Meth K A.c_YesNo "told" A.f_c_YesNo_told
 no_YesNo_low : NoAttr K A.c_YesNo "low"
 no_YesNo_high : NoAttr K A.c_YesNo "high"
 cl_Whole : Cls K A.c_Whole
 ty_Whole : ∀ (H : Hp) (a dx : Addr) (fs : List (Str × V)), H a = some (.ins A.c_Whole dx fs) → TyOf K H (.ref a) (.ref A.c_Whole)
 mk_Whole : Mk K A.c_Whole A.f_c_Kind___init
 me_Whole_fits : Meth K A.c_Whole "fits" A.f_c_Whole_fits
 me_Whole_answer_of : Meth K A.c_Whole "answer_of" A.f_c_Whole_answer_of
 me_Whole_shown : Meth K A.c_Whole "shown" A.f_c_Whole_shown
 me_Whole_rank : Meth K A.c_Whole "rank" A.f_c_Whole_rank
 me_Whole_sample : Meth K A.c_Whole "sample" A.f_c_Whole_sample
 me_Whole_read : Meth K A.c_Whole "read" A.f_c_Kind_read
 me_Whole_told : Meth K A.c_Whole "told" A.f_c_Whole_told
 me_Whole_bounds : Meth K A.c_Whole "bounds" A.f_c_Whole_bounds
 no_Whole_low : NoAttr K A.c_Whole "low"
 no_Whole_high : NoAttr K A.c_Whole "high"
 cl_Money : Cls K A.c_Money
 ty_Money : ∀ (H : Hp) (a dx : Addr) (fs : List (Str × V)), H a = some (.ins A.c_Money dx fs) → TyOf K H (.ref a) (.ref A.c_Money)
 mk_Money : Mk K A.c_Money A.f_c_Kind___init
 me_Money_fits : Meth K A.c_Money "fits" A.f_c_Whole_fits
 me_Money_answer_of : Meth K A.c_Money "answer_of" A.f_c_Money_answer_of
 me_Money_shown : Meth K A.c_Money "shown" A.f_c_Money_shown
 me_Money_rank : Meth K A.c_Money "rank" A.f_c_Whole_rank
 me_Money_sample : Meth K A.c_Money "sample" A.f_c_Whole_sample
 me_Money_read : Meth K A.c_Money "read" A.f_c_Kind_read
 me_Money_told : Meth K A.c_Money "told" A.f_c_Money_told
 me_Money_bounds : Meth K A.c_Money "bounds" A.f_c_Whole_bounds
 no_Money_low : NoAttr K A.c_Money "low"
 no_Money_high : NoAttr K A.c_Money "high"
 cl_Pick : Cls K A.c_Pick
 ty_Pick : ∀ (H : Hp) (a dx : Addr) (fs : List (Str × V)), H a = some (.ins A.c_Pick dx fs) → TyOf K H (.ref a) (.ref A.c_Pick)
 mk_Pick : Mk K A.c_Pick A.f_c_Pick___init
 me_Pick_fits : Meth K A.c_Pick "fits" A.f_c_Pick_fits
 me_Pick_answer_of : Meth K A.c_Pick "answer_of" A.f_c_Pick_answer_of
 me_Pick_shown : Meth K A.c_Pick "shown" A.f_c_Pick_shown
 me_Pick_rank : Meth K A.c_Pick "rank" A.f_c_Pick_rank
 me_Pick_sample : Meth K A.c_Pick "sample" A.f_c_Pick_sample
 me_Pick_read : Meth K A.c_Pick "read" A.f_c_Kind_read
 me_Pick_told : Meth K A.c_Pick "told" A.f_c_Pick_told
 no_Pick_low : NoAttr K A.c_Pick "low"
 no_Pick_high : NoAttr K A.c_Pick "high"
 no_Pick_words : NoAttr K A.c_Pick "words"
 cl_Names : Cls K A.c_Names
 ty_Names : ∀ (H : Hp) (a dx : Addr) (fs : List (Str × V)), H a = some (.ins A.c_Names dx fs) → TyOf K H (.ref a) (.ref A.c_Names)
 mk_Names : Mk K A.c_Names A.f_c_Names___init
 me_Names_fits : Meth K A.c_Names "fits" A.f_c_Names_fits
 me_Names_answer_of : Meth K A.c_Names "answer_of" A.f_c_Names_answer_of
 me_Names_shown : Meth K A.c_Names "shown" A.f_c_Names_shown
 me_Names_rank : Meth K A.c_Names "rank" A.f_c_Names_rank
 me_Names_sample : Meth K A.c_Names "sample" A.f_c_Names_sample
 me_Names_read : Meth K A.c_Names "read" A.f_c_Kind_read
 me_Names_told : Meth K A.c_Names "told" A.f_c_Names_told
 no_Names_low : NoAttr K A.c_Names "low"
 no_Names_high : NoAttr K A.c_Names "high"
 cf_Kind_init : ClsFn K A.c_Kind "__init__" A.f_c_Kind___init
theorem sc_is_whole : FnScope ["thing"] ["thing"] (defScope s_is_whole) := ⟨rfl, rfl, rfl, by symm, rfl, by symm, by symm⟩
theorem sc_is_name : FnScope ["thing"] ["thing"] (defScope s_is_name) := ⟨rfl, rfl, rfl, by symm, rfl, by symm, by symm⟩
theorem sc_are_unlike_names : FnScope ["words"] ["words"] (defScope s_are_unlike_names) := ⟨rfl, rfl, rfl, by symm, rfl, by symm, by symm⟩
theorem sc_are_figures : FnScope ["text"] ["text"] (defScope s_are_figures) := ⟨rfl, rfl, rfl, by symm, rfl, by symm, by symm⟩
theorem sc_figures_worth : FnScope ["figures", "worth", "sign"] ["figures"] (defScope s_figures_worth) := ⟨rfl, rfl, rfl, by symm, rfl, by symm, by symm⟩
theorem sc_number_of : FnScope ["text", "most", "below", "figures", "worth"] ["text", "most"] (defScope s_number_of) := ⟨rfl, rfl, rfl, by symm, rfl, by symm, by symm⟩
theorem sc_number_or_none : FnScope ["text"] ["text"] (defScope s_number_or_none) := ⟨rfl, rfl, rfl, by symm, rfl, by symm, by symm⟩
theorem sc_money_shown : FnScope ["hundredths", "figures", "minus"] ["hundredths"] (defScope s_money_shown) := ⟨rfl, rfl, rfl, by symm, rfl, by symm, by symm⟩
theorem sc_money_or_none : FnScope ["text", "figures", "worth", "hundredths"] ["text"] (defScope s_money_or_none) := ⟨rfl, rfl, rfl, by symm, rfl, by symm, by symm⟩
theorem sc_c_Kind___init : FnScope ["self", "low", "high"] ["self", "low", "high"] (defScope s_c_Kind___init) := ⟨rfl, rfl, rfl, by symm, rfl, by symm, by symm⟩
theorem sc_c_Kind_read : FnScope ["self", "text", "answer"] ["self", "text"] (defScope s_c_Kind_read) := ⟨rfl, rfl, rfl, by symm, rfl, by symm, by symm⟩
theorem sc_c_YesNo___init : FnScope ["self"] ["self"] (defScope s_c_YesNo___init) := ⟨rfl, rfl, rfl, by symm, rfl, by symm, by symm⟩
theorem sc_c_YesNo_fits : FnScope ["self", "thing"] ["self", "thing"] (defScope s_c_YesNo_fits) := ⟨rfl, rfl, rfl, by symm, rfl, by symm, by symm⟩
theorem sc_c_YesNo_answer_of : FnScope ["self", "text"] ["self", "text"] (defScope s_c_YesNo_answer_of) := ⟨rfl, rfl, rfl, by symm, rfl, by symm, by symm⟩
theorem sc_c_YesNo_shown : FnScope ["self", "answer"] ["self", "answer"] (defScope s_c_YesNo_shown) := ⟨rfl, rfl, rfl, by symm, rfl, by symm, by symm⟩
theorem sc_c_YesNo_rank : FnScope ["self", "answer"] ["self", "answer"] (defScope s_c_YesNo_rank) := ⟨rfl, rfl, rfl, by symm, rfl, by symm, by symm⟩
theorem sc_c_YesNo_sample : FnScope ["self", "rank"] ["self", "rank"] (defScope s_c_YesNo_sample) := ⟨rfl, rfl, rfl, by symm, rfl, by symm, by symm⟩
theorem sc_c_YesNo_told : FnScope ["self"] ["self"] (defScope s_c_YesNo_told) := ⟨rfl, rfl, rfl, by symm, rfl, by symm, by symm⟩
theorem sc_c_Whole_fits : FnScope ["self", "thing"] ["self", "thing"] (defScope s_c_Whole_fits) := ⟨rfl, rfl, rfl, by symm, rfl, by symm, by symm⟩
theorem sc_c_Whole_answer_of : FnScope ["self", "text"] ["self", "text"] (defScope s_c_Whole_answer_of) := ⟨rfl, rfl, rfl, by symm, rfl, by symm, by symm⟩
theorem sc_c_Whole_shown : FnScope ["self", "answer"] ["self", "answer"] (defScope s_c_Whole_shown) := ⟨rfl, rfl, rfl, by symm, rfl, by symm, by symm⟩
theorem sc_c_Whole_rank : FnScope ["self", "answer"] ["self", "answer"] (defScope s_c_Whole_rank) := ⟨rfl, rfl, rfl, by symm, rfl, by symm, by symm⟩
theorem sc_c_Whole_sample : FnScope ["self", "rank"] ["self", "rank"] (defScope s_c_Whole_sample) := ⟨rfl, rfl, rfl, by symm, rfl, by symm, by symm⟩
theorem sc_c_Whole_bounds : FnScope ["self"] ["self"] (defScope s_c_Whole_bounds) := ⟨rfl, rfl, rfl, by symm, rfl, by symm, by symm⟩
theorem sc_c_Whole_told : FnScope ["self"] ["self"] (defScope s_c_Whole_told) := ⟨rfl, rfl, rfl, by symm, rfl, by symm, by symm⟩
theorem sc_c_Money_answer_of : FnScope ["self", "text"] ["self", "text"] (defScope s_c_Money_answer_of) := ⟨rfl, rfl, rfl, by symm, rfl, by symm, by symm⟩
theorem sc_c_Money_shown : FnScope ["self", "answer"] ["self", "answer"] (defScope s_c_Money_shown) := ⟨rfl, rfl, rfl, by symm, rfl, by symm, by symm⟩
theorem sc_c_Money_told : FnScope ["self"] ["self"] (defScope s_c_Money_told) := ⟨rfl, rfl, rfl, by symm, rfl, by symm, by symm⟩
theorem sc_c_Pick___init : FnScope ["self", "words"] ["self", "words"] (defScope s_c_Pick___init) := ⟨rfl, rfl, rfl, by symm, rfl, by symm, by symm⟩
theorem sc_c_Pick_fits : FnScope ["self", "thing"] ["self", "thing"] (defScope s_c_Pick_fits) := ⟨rfl, rfl, rfl, by symm, rfl, by symm, by symm⟩
theorem sc_c_Pick_answer_of : FnScope ["self", "text"] ["self", "text"] (defScope s_c_Pick_answer_of) := ⟨rfl, rfl, rfl, by symm, rfl, by symm, by symm⟩
theorem sc_c_Pick_shown : FnScope ["self", "answer"] ["self", "answer"] (defScope s_c_Pick_shown) := ⟨rfl, rfl, rfl, by symm, rfl, by symm, by symm⟩
theorem sc_c_Pick_rank : FnScope ["self", "answer"] ["self", "answer"] (defScope s_c_Pick_rank) := ⟨rfl, rfl, rfl, by symm, rfl, by symm, by symm⟩
theorem sc_c_Pick_sample : FnScope ["self", "rank"] ["self", "rank"] (defScope s_c_Pick_sample) := ⟨rfl, rfl, rfl, by symm, rfl, by symm, by symm⟩
theorem sc_c_Pick_told : FnScope ["self"] ["self"] (defScope s_c_Pick_told) := ⟨rfl, rfl, rfl, by symm, rfl, by symm, by symm⟩
theorem sc_c_Names___init : FnScope ["self", "most"] ["self", "most"] (defScope s_c_Names___init) := ⟨rfl, rfl, rfl, by symm, rfl, by symm, by symm⟩
theorem sc_c_Names_fits : FnScope ["self", "thing"] ["self", "thing"] (defScope s_c_Names_fits) := ⟨rfl, rfl, rfl, by symm, rfl, by symm, by symm⟩
theorem sc_c_Names_answer_of : FnScope ["self", "text"] ["self", "text"] (defScope s_c_Names_answer_of) := ⟨rfl, rfl, rfl, by symm, rfl, by symm, by symm⟩
theorem sc_c_Names_shown : FnScope ["self", "answer"] ["self", "answer"] (defScope s_c_Names_shown) := ⟨rfl, rfl, rfl, by symm, rfl, by symm, by symm⟩
theorem sc_c_Names_rank : FnScope ["self", "answer"] ["self", "answer"] (defScope s_c_Names_rank) := ⟨rfl, rfl, rfl, by symm, rfl, by symm, by symm⟩
theorem sc_c_Names_sample : FnScope ["self", "rank"] ["self", "rank"] (defScope s_c_Names_sample) := ⟨rfl, rfl, rfl, by symm, rfl, by symm, by symm⟩
theorem sc_c_Names_told : FnScope ["self"] ["self"] (defScope s_c_Names_told) := ⟨rfl, rfl, rfl, by symm, rfl, by symm, by symm⟩
theorem sc_are_bounds : FnScope ["numbers"] ["numbers"] (defScope s_are_bounds) := ⟨rfl, rfl, rfl, by symm, rfl, by symm, by symm⟩
theorem sc_whole_or_none : FnScope ["words", "numbers"] ["words"] (defScope s_whole_or_none) := ⟨rfl, rfl, rfl, by symm, rfl, by symm, by symm⟩
theorem sc_money_kind_or_none : FnScope ["words", "numbers"] ["words"] (defScope s_money_kind_or_none) := ⟨rfl, rfl, rfl, by symm, rfl, by symm, by symm⟩
theorem sc_pick_or_none : FnScope ["words"] ["words"] (defScope s_pick_or_none) := ⟨rfl, rfl, rfl, by symm, rfl, by symm, by symm⟩
theorem sc_names_or_none : FnScope ["words", "most"] ["words"] (defScope s_names_or_none) := ⟨rfl, rfl, rfl, by symm, rfl, by symm, by symm⟩
theorem sc_kind_or_none : FnScope ["first", "words"] ["first", "words"] (defScope s_kind_or_none) := ⟨rfl, rfl, rfl, by symm, rfl, by symm, by symm⟩
theorem sc_kind_of : FnScope ["text", "words", "kind"] ["text"] (defScope s_kind_of) := ⟨rfl, rfl, rfl, by symm, rfl, by symm, by symm⟩
theorem sc_law_whole : FnScope ["_law_found"] ["_law_found"] (defScope s_law_whole) := ⟨rfl, rfl, rfl, by symm, rfl, by symm, by symm⟩
theorem sc_law_letter : FnScope ["_law_number"] ["_law_number"] (defScope s_law_letter) := ⟨rfl, rfl, rfl, by symm, rfl, by symm, by symm⟩
theorem sc_law_wide : FnScope ["_law_cell"] ["_law_cell"] (defScope s_law_wide) := ⟨rfl, rfl, rfl, by symm, rfl, by symm, by symm⟩
theorem sc_law_low : FnScope ["_law_cell"] ["_law_cell"] (defScope s_law_low) := ⟨rfl, rfl, rfl, by symm, rfl, by symm, by symm⟩
theorem sc_law_size : FnScope ["_law_cell"] ["_law_cell"] (defScope s_law_size) := ⟨rfl, rfl, rfl, by symm, rfl, by symm, by symm⟩
theorem sc_law_money : FnScope ["_law_number", "_law_size_here", "_law_word"] ["_law_number"] (defScope s_law_money) := ⟨rfl, rfl, rfl, by symm, rfl, by symm, by symm⟩
theorem sc_law_words : FnScope ["_law_cell", "_law_many", "_law_base", "_law_at", "_law_words_here", "_law_k", "_law_word"] ["_law_cell", "_law_many"] (defScope s_law_words) := ⟨rfl, rfl, rfl, by symm, rfl, by symm, by symm⟩
theorem sc_law_numbers : FnScope ["_law_head", "_law_low_here", "_law_high"] ["_law_head", "_law_low_here", "_law_high"] (defScope s_law_numbers) := ⟨rfl, rfl, rfl, by symm, rfl, by symm, by symm⟩
theorem sc_law_good : FnScope ["_law_cell", "_law_way", "_law_rest", "_law_many", "_law_low_here", "_law_high"] ["_law_cell"] (defScope s_law_good) := ⟨rfl, rfl, rfl, by symm, rfl, by symm, by symm⟩
theorem sc_law_odd : FnScope ["_law_cell", "_law_some"] ["_law_cell"] (defScope s_law_odd) := ⟨rfl, rfl, rfl, by symm, rfl, by symm, by symm⟩
theorem sc_law_bad : FnScope ["_law_cell", "_law_way", "_law_rest", "_law_low_here", "_law_words_here", "_law_text"] ["_law_cell"] (defScope s_law_bad) := ⟨rfl, rfl, rfl, by symm, rfl, by symm, by symm⟩
theorem sc_law_only : FnScope ["_law_kept"] ["_law_kept"] (defScope s_law_only) := ⟨rfl, rfl, rfl, by symm, rfl, by symm, by symm⟩
theorem sc_law_refused : FnScope ["_law_thing", "_law_kept", "e"] ["_law_thing"] (defScope s_law_refused) := ⟨rfl, rfl, rfl, by symm, rfl, by symm, by symm⟩
theorem sc_law_sample : FnScope ["_law_kind", "_law_rank", "_law_one", "_law_again"] ["_law_kind", "_law_rank"] (defScope s_law_sample) := ⟨rfl, rfl, rfl, by symm, rfl, by symm, by symm⟩
theorem sc_law_told : FnScope ["_law_text", "_law_low_here", "_law_high", "_law_kind", "_law_told_here", "_law_due", "_law_found", "_law_truth"] ["_law_text", "_law_low_here", "_law_high"] (defScope s_law_told) := ⟨rfl, rfl, rfl, by symm, rfl, by symm, by symm⟩
theorem sc_law : FnScope ["_law_script", "_law_cell", "_law_text", "_law_low_here", "_law_high"] ["_law_script"] (defScope s_law) := ⟨rfl, rfl, rfl, by symm, rfl, by symm, by symm⟩
end K07
set_option maxHeartbeats 4000000
namespace K07
open PySem L2
seal PE PT PW PA PS PSs PG PGs PI PO PSet OpR UnR CallR TruR IxR SlR PC PPs
local macro_rules | `(tactic| walk_at "rd1") => `(tactic| first
 | (refine And.intro rfl ?_)
 | (refine And.intro (by assumption) ?_)
 | (refine And.intro (fun _ e => e) ?_)
 | (refine And.intro (TyOf.str _) ?_) | (refine And.intro (TyOf.int _) ?_) | (refine And.intro (TyOf.bl _) ?_) | (refine And.intro TyOf.non ?_)
 | (refine iteT ?_) | (refine iteF ?_)
 | (apply Exists.intro))
local macro_rules | `(tactic| walk_at "rd") => `(tactic| repeat (walk_at "rd1"))
def spFig : Sp := fun vs H Q _ => ∃ z, vs = [.str z] ∧ z.length ≤ sizeLine ∧ ∀ H', Same H H' → Q (.bl (figB (cd z))) H'
def spWorth : Sp := fun vs H Q _ => ∃ z, vs = [.str z] ∧ z.length ≤ 1000 ∧ (cd z).all inF = true ∧ Q (.int (val (cd z))) H
def spNum (K : W.Frag) (A : Adr) : Sp := fun vs H Q E => ∃ x most, vs = [x, .int most] ∧ 1 ≤ most ∧ ((∃ z, x = .str z ∧ Fine 1000 z ∧ (∀ n H', Same H H' → numB (cd z) most = some n → Q (.int n) H') ∧ (∀ H', Same H H' → numB (cd z) most = none → E (.ref A.c_NoNumber) none H')) ∨ (∃ t, TyE K H x t ∧ W.kitOne K t (.type "str") = some false ∧ ∀ H', Same H H' → E (.ref A.c_NoNumber) none H'))
section
variable {P : Program} {w : World} {K : W.Frag} {mg : Str → Option Value} {base : Heap} {A : Adr}
theorem ok_are_figures (T : Txt K mg A) : FnOk P w K mg base CX0 1 A.f_are_figures A.d_are_figures ["text"] spFig := by
 refine T.F_are_figures.ok sc_are_figures (fun vs H Q E h => ?_) (fun cdv A0 outer s H vs Q E hr h => ?_)
 · obtain ⟨x, rfl, _⟩ := h
   rfl
 obtain ⟨z, rfl, hz, q⟩ := h
 refine ⟨_, (zC (zH (pe_and (pe_cmpR op_gt (zI call_len_str (by rfl) T.n_len PySem.boot_len (zA (pv 0) zB)) zD (nomark _)) (pe_one (zI (call_all rfl) (by rfl) T.n_all Bt.all (zA (pe_compR (compOk_of (x := "sign") (M := ["text"]) rfl (by rfl)) rfl (pi_str (pv 0)) (fun _ _ _ _ => (pe_cmpR op_in_str (pv 0) (pe_gv rfl T.g_FIGURES) (by rfl)))) zB)))))), ?_⟩
 walk_at "rd"
 refine ite2 (fun c => ?_) (fun c => ?_)
 · walk_at "rd"
   refine comp_strR hz (fun i ys H' => H' = H ∧ ys = ((cd z).take i).map fun c => V.bl (inF c)) ⟨rfl, rfl⟩ (fun i c ys H' hc hl hw => ?_) (fun ys H' hl hw p hp => ?_)
   · obtain ⟨rfl, rfl⟩ := hw
     walk_at "rd"
     rw [List.take_succ, hc]
     simp [inF, FIG]
   · obtain ⟨rfl, rfl⟩ := hw
     have e : (cd z).take z.length = cd z := List.take_of_length_le (by rw [len_cd]; exact Nat.le_refl _)
     rw [e]
     refine ⟨p, (cd z).map inF, rfl, SqL.of (by rw [zE, List.map_map]; rfl), ?_⟩
     have e2 : figB (cd z) = ((cd z).map inF).all id := by
       unfold figB
       have c' : (0 : Int) < z.length := of_decide_eq_true c
       rw [decide_eq_true (by rw [← len_cd]; omega), List.all_map]
       rfl
     rw [e2] at q
     exact q _ (zJ hp _)
 · have e : figB (cd z) = false := by
     unfold figB
     have c' : ¬ (0 : Int) < z.length := of_decide_eq_false (Bool.eq_false_iff.mpr c)
     rw [decide_eq_false (by rw [← len_cd]; omega)]
     rfl
   rw [e] at q
   exact q _ (Same.refl _)
theorem ok_figures_worth (T : Txt K mg A) : FnOk P w K mg base CX0 1 A.f_figures_worth A.d_figures_worth ["figures"] spWorth := by
 refine T.F_figures_worth.ok sc_figures_worth (fun vs H Q E h => ?_) (fun cdv A0 outer s H vs Q E hr h => ?_)
 · obtain ⟨x, rfl, _⟩ := h
   rfl
 obtain ⟨z, rfl, hz, hF, q⟩ := h
 refine ⟨_, (zF (ps_set (i := 1) sc_figures_worth.nd rfl (by first | exact Or.inl rfl | exact Or.inr rfl) zD)
     (zF (ps_forR PassesOwn.never rfl (pi_str (pv 0)) (pg_name (i := 2) sc_figures_worth.nd rfl (by first | exact Or.inl rfl | exact Or.inr rfl)) (zC (ps_set (i := 1) sc_figures_worth.nd rfl (by first | exact Or.inl rfl | exact Or.inr rfl) (zK op_add (zK op_mulB (pv 1) zD) (pe_bm PySem.F.plainAttrs_str PySem.F.slot_str_find PySem.F.type_str_find mt_find (pe_gv rfl T.g_FIGURES) (zA (pv 2) zB))))))
     (zC (zH (pv 1))))), ?_⟩
 walk_at "rd"
 refine for_strR (fun i σ H' => H' = H ∧ ∃ v, σ = [some (.str z), some (.int (val ((cd z).take i))), v]) ⟨rfl, ⟨_, rfl⟩⟩ (fun i c σ H' hc hp => ?_) (fun σ H' hp => ?_)
 · obtain ⟨rfl, v, rfl⟩ := hp
   have hi : i < (cd z).length := (List.getElem?_eq_some_iff.mp hc).1
   have hcF : inF c = true := List.all_eq_true.mp hF c (List.mem_of_getElem? hc)
   have hb := val_bound i ((cd z).take i) (by rw [List.length_take]; omega) (by
     rw [List.all_eq_true]; intro x hx; exact List.all_eq_true.mp hF x (List.mem_of_mem_take hx))
   have hb2 := pow10_ib hb.1 hb.2
   rw [← len_cd] at hi
   refine ⟨_, rfl, _, _, rfl, rfl, ⟨by show ib _ ≤ 60000000; omega, by decide⟩, ?_⟩
   walk_at "rd"
   have e : Txt.find FIG (S [c]) = ((c - 48 : Nat) : Int) := findF hcF
   show some _ :: some (V.int (val ((cd z).take i) * 10 + Txt.find FIG (S [c]))) :: _ = _
   rw [e, val_take hc]
   rfl
 · obtain ⟨rfl, v, rfl⟩ := hp
   have e : (cd z).take z.length = cd z := List.take_of_length_le (by rw [len_cd]; exact Nat.le_refl _)
   rw [e]
   exact ⟨_, rfl, q⟩
theorem ok_number_of (T : Txt K mg A) : FnOk P w K mg base (CXW P w) 2 A.f_number_of A.d_number_of ["text", "most"] (spNum K A) := by
 have G_are_figures := ok_are_figures (P := P) (w := w) (base := base) T
 have G_figures_worth := ok_figures_worth (P := P) (w := w) (base := base) T
 refine T.F_number_of.okX sc_number_of (fun vs H Q E h => ?_) (fun cdv A0 outer s H vs Q E hr h => ?_)
 · obtain ⟨x, most, rfl, _⟩ := h
   rfl
 obtain ⟨x, most, rfl, hm, h⟩ := h
 refine ⟨_, (zF (ps_if (pt_not (pt_val (zI call_isi (by rfl) T.n_isinstance Bt.isinstance (zA (pv 0) (zA (pe_bltn (v := .ty "str") rfl T.n_str Bt.str rfl) zB))))) (zC (ps_raise T.m_NoNumber T.x_NoNumber (zA zG zB) rfl)) pss_nil)
     (zF (ps_if (pt_cmpR op_eq (pv 0) zG (nomark _)) (zC (zH zD)) pss_nil)
     (zF (ps_set (i := 2) sc_number_of.nd rfl (by first | exact Or.inl rfl | exact Or.inr rfl) (pe_bm PySem.F.plainAttrs_str PySem.F.slot_str_startswith PySem.F.type_str_startswith mt_startswith (pv 0) (zA zG zB)))
     (zF (ps_set (i := 3) sc_number_of.nd rfl (by first | exact Or.inl rfl | exact Or.inr rfl) (pe_ifExp (pt_val (pv 2)) (pe_slice sl_str (pv 0) (po_some zD) po_none) (pv 0)))
     (zF (ps_if (PW.pt (pw_or (pt_not (pt_val (zL G_are_figures (hr.mono (by first | decide | omega)) rfl T.m_are_figures T.k_are_figures T.b_are_figures .nil zN (zA (pv 3) zB)))) (pw_or (pt_cmpR op_eq (pe_ix ix_str (pv 3) zD (fun _ _ => rfl)) zG (nomark _)) (pw_or1 (pt_cmpR op_gt (zI call_len_str (by rfl) T.n_len PySem.boot_len (zA (pv 3) zB)) (pv 1) (nomark _)))))) (zC (ps_raise T.m_NoNumber T.x_NoNumber (zA (pe_fstrR (pv 0)) zB) rfl)) pss_nil)
     (zF (ps_set (i := 4) sc_number_of.nd rfl (by first | exact Or.inl rfl | exact Or.inr rfl) (zL G_figures_worth (hr.mono (by first | decide | omega)) rfl T.m_figures_worth T.k_figures_worth T.b_figures_worth .nil zN (zA (pv 3) zB)))
     (zC (zH (pe_ifExp (pt_val (pv 2)) (pe_un un_neg (pv 4)) (pv 4)))))))))), ?_⟩
 rcases h with ⟨z, rfl, hz, qs, qn⟩ | ⟨t, ty, kt, q⟩
 · refine ⟨_, rfl, _, _, _, _, rfl, rfl, .old (.str z), T.i_str_str, _, rfl, iteF ?_⟩
   refine ⟨_, rfl, rfl, _, rfl, ?_⟩
   refine ite2 (fun c => ?_) (fun c => ?_) <;> rw [dec_cd, show cd (Str.ofString "0") = [48] by symm] at c
   · have c' : cd z = [48] := of_decide_eq_true c
     refine qs _ _ (Same.refl _) ?_
     rw [c']; exact numB_zero hm
   have c0 : cd z ≠ [48] := of_decide_eq_false (Bool.eq_false_iff.mpr c)
   have es := starts1 z 45
   rw [show S [45] = (Str.ofString "-") by symm] at es
   have hz2 : z.length ≤ sizeLine := hz.size
   cases hb : PySem.Txt.startswith z (Str.ofString "-") <;> rw [hb] at es
   · have c1 : ¬ (cd z).take 1 = [45] := of_decide_eq_false es.symm
     obtain ⟨f, rfl⟩ : ∃ f, z = f := ⟨z, rfl⟩
     have ef : cd z = fig (cd z) := (if_neg c1).symm
     have hf1 : z.length ≤ 1000 := hz.len
     have hf2 := hz2
     walk_at "rd"
     rw [hb]
     walk_at "rd"
     intro H1 s1
     cases hf : figB (cd z)
     · refine ⟨_, rfl, iteT ⟨_, rfl, z, rfl, Nat.le_trans hz.len (by decide), hz.cod, fun y => ⟨(by show 1 ≤ sizeLine; decide), qn _ s1 (numB_no1 (by rw [← ef]; exact hf))⟩⟩⟩
     refine ⟨_, rfl, iteF ?_⟩
     obtain ⟨f1, f2⟩ := (figB_iff _).mp hf
     obtain ⟨k, hk, hk1⟩ := take1_at (l := cd z) f1
     refine ⟨_, rfl, z, 0, k, rfl, rfl, hf2, hk, rfl, _, rfl, ?_⟩
     refine ite2 (fun c2 => ?_) (fun c2 => ?_) <;> rw [dec_cd, show cd (Str.ofString "0") = [48] by symm] at c2
     · have c3 : (fig (cd z)).take 1 = [48] := by rw [← ef, hk1]; exact of_decide_eq_true c2
       exact ⟨_, rfl, z, rfl, Nat.le_trans hz.len (by decide), hz.cod, fun y => ⟨(by show 1 ≤ sizeLine; decide), qn _ s1 (numB_no2 c3 c0)⟩⟩
     have c3 : ¬ (fig (cd z)).take 1 = [48] := by rw [← ef, hk1]; exact of_decide_eq_false (Bool.eq_false_iff.mpr c2)
     refine ⟨_, rfl, _, rfl, hf2, _, rfl, _, _, rfl, rfl, _, rfl, ?_⟩
     rw [len_cd z, ef]
     refine ite2 (fun c4 => ?_) (fun c4 => ?_)
     · have c5 : most < ((fig (cd z)).length : Nat) := of_decide_eq_true c4
       exact ⟨_, rfl, z, rfl, Nat.le_trans hz.len (by decide), hz.cod, fun y => ⟨(by show 1 ≤ sizeLine; decide), qn _ s1 (numB_no3 c5)⟩⟩
     have c5 : ¬ most < ((fig (cd z)).length : Nat) := of_decide_eq_false (Bool.eq_false_iff.mpr c4)
     have yes := numB_yes (by rw [← ef]; exact hf) c3 c5
     rw [if_neg c1, ← ef] at yes
     refine ⟨_, rfl, z, rfl, hf1, f2, ?_⟩
     walk_at "rd"
     exact qs _ _ s1 yes
   · have c1 : (cd z).take 1 = [45] := of_decide_eq_true es.symm
     walk_at "rd"
     rw [hb]
     walk_at "rd"
     obtain ⟨f, hfe⟩ : ∃ f, S (cutN (cd z) (some 1) none) = f := ⟨_, rfl⟩
     rw [hfe]
     have ef : cd f = fig (cd z) := by rw [← hfe, cd_S]; exact (cutFrom (cd z) 1).trans (if_pos c1).symm
     have hf1 : f.length ≤ 1000 := by rw [← hfe]; exact (hz.cut _ _).len
     have hf2 : f.length ≤ sizeLine := by rw [← hfe]; exact (hz.cut _ _).size
     refine ⟨hf2, ?_⟩
     intro H1 s1
     cases hf : figB (cd f)
     · refine ⟨_, rfl, iteT ⟨_, rfl, z, rfl, Nat.le_trans hz.len (by decide), hz.cod, fun y => ⟨(by show 1 ≤ sizeLine; decide), qn _ s1 (numB_no1 (by rw [← ef]; exact hf))⟩⟩⟩
     refine ⟨_, rfl, iteF ?_⟩
     obtain ⟨f1, f2⟩ := (figB_iff _).mp hf
     obtain ⟨k, hk, hk1⟩ := take1_at (l := cd f) f1
     refine ⟨_, rfl, f, 0, k, rfl, rfl, hf2, hk, rfl, _, rfl, ?_⟩
     refine ite2 (fun c2 => ?_) (fun c2 => ?_) <;> rw [dec_cd, show cd (Str.ofString "0") = [48] by symm] at c2
     · have c3 : (fig (cd z)).take 1 = [48] := by rw [← ef, hk1]; exact of_decide_eq_true c2
       exact ⟨_, rfl, z, rfl, Nat.le_trans hz.len (by decide), hz.cod, fun y => ⟨(by show 1 ≤ sizeLine; decide), qn _ s1 (numB_no2 c3 c0)⟩⟩
     have c3 : ¬ (fig (cd z)).take 1 = [48] := by rw [← ef, hk1]; exact of_decide_eq_false (Bool.eq_false_iff.mpr c2)
     refine ⟨_, rfl, _, rfl, hf2, _, rfl, _, _, rfl, rfl, _, rfl, ?_⟩
     rw [len_cd f, ef]
     refine ite2 (fun c4 => ?_) (fun c4 => ?_)
     · have c5 : most < ((fig (cd z)).length : Nat) := of_decide_eq_true c4
       exact ⟨_, rfl, z, rfl, Nat.le_trans hz.len (by decide), hz.cod, fun y => ⟨(by show 1 ≤ sizeLine; decide), qn _ s1 (numB_no3 c5)⟩⟩
     have c5 : ¬ most < ((fig (cd z)).length : Nat) := of_decide_eq_false (Bool.eq_false_iff.mpr c4)
     have yes := numB_yes (by rw [← ef]; exact hf) c3 c5
     rw [if_pos c1, ← ef] at yes
     refine ⟨_, rfl, f, rfl, hf1, f2, ?_⟩
     walk_at "rd"
     exact qs _ _ s1 yes
 · refine ⟨_, rfl, _, _, _, _, rfl, rfl, ty, kt, _, rfl, iteT ?_⟩
   refine ⟨(by show 1 ≤ sizeLine; decide), q _ (Same.refl _)⟩
end
end K07
set_option maxHeartbeats 4000000
namespace K07
open PySem L2
seal PE PT PW PA PS PSs PG PGs PI PO PSet OpR UnR CallR TruR IxR SlR PC PPs
local macro_rules | `(tactic| walk_at "rd1") => `(tactic| first
 | (refine And.intro rfl ?_)
 | (refine And.intro (by assumption) ?_)
 | (refine And.intro (fun _ e => e) ?_)
 | (refine And.intro (TyOf.str _) ?_) | (refine And.intro (TyOf.int _) ?_) | (refine And.intro (TyOf.bl _) ?_) | (refine And.intro TyOf.non ?_)
 | (refine iteT ?_) | (refine iteF ?_)
 | (apply Exists.intro))
local macro_rules | `(tactic| walk_at "rd") => `(tactic| repeat (walk_at "rd1"))
abbrev flds (lo hi : Int) : List (Str × V) := [("low", .int lo), ("high", .int hi)]
def fitW (lo hi : Int) : V → Bool
 | .int n => decide (lo ≤ n) && decide (n ≤ hi)
 | _ => false
def spIsWhole (K : W.Frag) : Sp := fun vs H Q _ => ∃ x t bi bb, vs = [x] ∧ TyE K H x t ∧ W.kitOne K t (.type "int") = some bi ∧ W.kitOne K t (.type "bool") = some bb ∧ Q (.bl (bi && !bb)) H
def spNon : Sp := fun vs H Q _ => ∃ z, vs = [.str z] ∧ Fine 1000 z ∧ ∀ H', Same H H' → Q (numV (numB (cd z) 60)) H'
def spInit (K : W.Frag) : Sp := fun vs H Q _ => ∃ p C dx lo hi, vs = [.ref p, .int lo, .int hi] ∧ H p = some (.ins C dx []) ∧ Cls K C ∧ NoAttr K C "low" ∧ NoAttr K C "high" ∧ Q .non (upd H p (.ins C dx (flds lo hi)))
def spFits (K : W.Frag) (C : Addr) : Sp := fun vs H Q _ => ∃ p dx lo hi x, ∃ _ : Thing K H x, vs = [.ref p, x] ∧ H p = some (.ins C dx (flds lo hi)) ∧ Q (.bl (fitW lo hi x)) H
theorem nlo : (("high" : Str) == ("low" : Str)) = false := by symm
theorem put_low (v : V) : putF "low" v [] = [(("low" : Str), v)] := rfl
theorem put_high (v w : V) : putF "high" w [(("low" : Str), v)] = [(("low" : Str), v), (("high" : Str), w)] := by
 unfold putF
 rw [if_neg (by symm)]; rfl
section
variable {P : Program} {w : World} {K : W.Frag} {mg : Str → Option Value} {base : Heap} {A : Adr}
theorem ok_is_whole (T : Txt K mg A) : FnOk P w K mg base CX0 1 A.f_is_whole A.d_is_whole ["thing"] (spIsWhole K) := by
 refine T.F_is_whole.ok sc_is_whole (fun vs H Q E h => ?_) (fun cdv A0 outer s H vs Q E hr h => ?_)
 · obtain ⟨x, _, _, _, rfl, _⟩ := h
   rfl
 obtain ⟨x, t, bi, bb, rfl, ty, k1, k2, q⟩ := h
 refine ⟨_, (zC (zH (pe_and (zI call_isi (by rfl) T.n_isinstance Bt.isinstance (zA (pv 0) (zA (pe_bltn (v := .ty "int") rfl T.n_int Bt.int rfl) zB))) (pe_one (pe_not (zI call_isi (by rfl) T.n_isinstance Bt.isinstance (zA (pv 0) (zA (pe_bltn (v := .ty "bool") rfl T.n_bool Bt.bool rfl) zB)))))))), ?_⟩
 refine ⟨_, rfl, _, _, _, _, rfl, rfl, ty, k1, _, rfl, ?_⟩
 cases bi with
 | false => exact iteF q
 | true =>
   refine iteT ?_
   refine ⟨_, rfl, _, _, _, _, rfl, rfl, ty, k2, _, rfl, ?_⟩
   exact q
theorem ok_number_or_none (T : Txt K mg A) : FnOk P w K mg base CX0 3 A.f_number_or_none A.d_number_or_none ["text"] spNon := by
 have G_number_of := ok_number_of (P := P) (w := w) (base := base) T
 refine T.F_number_or_none.ok sc_number_or_none (fun vs H Q E h => ?_) (fun cdv A0 outer s H vs Q E hr h => ?_)
 · obtain ⟨x, rfl, _⟩ := h
   rfl
 obtain ⟨z, rfl, hz, q⟩ := h
 refine ⟨_, (zC (ps_try rfl rfl (psx_one (psx_ret (pex_call G_number_of (hr.mono (by first | decide | omega)) rfl T.m_number_of T.k_number_of T.bd_number_of T.dv_number_of (zA (pv 0) zB)))) rfl T.m_NoNumber (fun _ => (zC (zH pe_non))))), ?_⟩
 refine ⟨_, rfl, _, _, rfl, by decide, .inl ⟨z, rfl, hz, fun n H' s1 e => ?_, fun H' s1 e => ?_⟩⟩
 · rw [e] at q; exact q _ s1
 · refine ⟨T.em_NoNumber_NoNumber, ?_⟩
   rw [e] at q; exact q _ s1
theorem ok_init (T : Txt K mg A) : FnOk P w K mg base CX0 1 A.f_c_Kind___init A.d_c_Kind___init ["self", "low", "high"] (spInit K) := by
 refine T.F_c_Kind___init.ok sc_c_Kind___init (fun vs H Q E h => ?_) (fun cdv A0 outer s H vs Q E hr h => ?_)
 · obtain ⟨p, C, dx, lo, hi, rfl, _⟩ := h
   rfl
 obtain ⟨p, C, dx, lo, hi, rfl, hp, cl, n1, n2, q⟩ := h
 refine ⟨_, (zF (ps_fld (pv 0) (pv 1) rfl)
     (zC (ps_fld (pv 0) (pv 2) rfl))), ?_⟩
 refine ⟨_, rfl, _, rfl, p, C, dx, _, rfl, hp, cl, n1, by decide, ?_⟩
 refine ⟨_, rfl, _, rfl, p, C, dx, _, rfl, zE, cl, n2, (by show 1 < 1000; decide), ?_⟩
 rw [upd_upd, put_low, put_high]
 exact q
theorem ok_fits (T : Txt K mg A) {C : Addr} (cl : Cls K C) (n1 : NoAttr K C "low") (n2 : NoAttr K C "high") : FnOk P w K mg base CX0 2 A.f_c_Whole_fits A.d_c_Whole_fits ["self", "thing"] (spFits K C) := by
 have G_is_whole := ok_is_whole (P := P) (w := w) (base := base) T
 refine T.F_c_Whole_fits.ok sc_c_Whole_fits (fun vs H Q E h => ?_) (fun cdv A0 outer s H vs Q E hr h => ?_)
 · obtain ⟨p, dx, lo, hi, x, _, rfl, _⟩ := h
   rfl
 obtain ⟨p, dx, lo, hi, x, th, rfl, hp, q⟩ := h
 refine ⟨_, (zC (zH (pe_and (zL G_is_whole (hr.mono (by first | decide | omega)) rfl T.m_is_whole T.k_is_whole T.b_is_whole .nil zN (zA (pv 1) zB)) (pe_one (pe_chain op_le op_le (pe_fld (pv 0) rfl) (pv 1) (pe_fld (pv 0) rfl)))))), ?_⟩
 refine ⟨_, rfl, x, _, _, _, rfl, th.ty, th.ki, th.kb, _, rfl, ?_⟩
 cases e : (th.bi && !th.bb) with
 | false =>
   refine iteF ?_
   have : fitW lo hi x = false := by
     cases x <;> first | rfl | skip
     rw [th.ni _ rfl] at e; cases e
   rw [this] at q
   exact q
 | true =>
   obtain ⟨n, rfl⟩ := th.hi e
   refine iteT ?_
   refine ⟨_, rfl, p, C, dx, _, _, rfl, hp, cl, n1, lk1, _, rfl, _, _, rfl, rfl, _, rfl, ite2 (fun c => ?_) (fun c => ?_)⟩
   · refine ⟨_, rfl, p, C, dx, _, _, rfl, hp, cl, n2, lk2 nlo, _, _, rfl, rfl, ?_⟩
     have : fitW lo hi (.int n) = decide (n ≤ hi) := by
       show (decide (lo ≤ n) && decide (n ≤ hi)) = _
       rw [show decide (lo ≤ n) = true from c]; rfl
     rw [this] at q
     exact q
   · have : fitW lo hi (.int n) = false := by
       show (decide (lo ≤ n) && decide (n ≤ hi)) = _
       rw [show decide (lo ≤ n) = false from Bool.eq_false_iff.mpr c]; rfl
     rw [this] at q
     exact q
end
end K07
set_option maxHeartbeats 4000000
namespace K07
open PySem L2
seal PE PT PW PA PS PSs PG PGs PI PO PSet OpR UnR CallR TruR IxR SlR PC PPs
local macro_rules | `(tactic| walk_at "rd1") => `(tactic| first
 | (refine And.intro rfl ?_)
 | (refine And.intro (by assumption) ?_)
 | (refine And.intro (fun _ e => e) ?_)
 | (refine And.intro (TyOf.str _) ?_) | (refine And.intro (TyOf.int _) ?_) | (refine And.intro (TyOf.bl _) ?_) | (refine And.intro TyOf.non ?_)
 | (refine iteT ?_) | (refine iteF ?_)
 | (apply Exists.intro))
local macro_rules | `(tactic| walk_at "rd") => `(tactic| repeat (walk_at "rd1"))
def thInt {K : W.Frag} {mg : Str → Option Value} {A : Adr} (T : Txt K mg A) (H : Hp) (n : Int) : Thing K H (.int n) := ⟨_, _, _, _, .old (.int n), T.i_int_int, T.i_int_bool, T.i_int_str, fun _ => ⟨n, rfl⟩, fun h => (by cases h), fun _ _ => rfl, fun _ h => (by cases h), fun h => (by cases h), fun _ h => (by cases h)⟩
def thBl {K : W.Frag} {mg : Str → Option Value} {A : Adr} (T : Txt K mg A) (H : Hp) (b : Bool) : Thing K H (.bl b) := ⟨_, _, _, _, .old (.bl b), T.i_bool_int, T.i_bool_bool, T.i_bool_str, fun h => (by cases h), fun h => (by cases h), fun _ h => (by cases h), fun _ h => (by cases h), fun _ => ⟨b, rfl⟩, fun _ _ => rfl⟩
def thNon {K : W.Frag} {mg : Str → Option Value} {A : Adr} (T : Txt K mg A) (H : Hp) : Thing K H .non := ⟨_, _, _, _, .old .non, T.i_NoneType_int, T.i_NoneType_bool, T.i_NoneType_str, fun h => (by cases h), fun h => (by cases h), fun _ h => (by cases h), fun _ h => (by cases h), fun h => (by cases h), fun _ h => (by cases h)⟩
def thStr {K : W.Frag} {mg : Str → Option Value} {A : Adr} (T : Txt K mg A) (H : Hp) (z : Str) : Thing K H (.str z) := ⟨_, _, _, _, .old (.str z), T.i_str_int, T.i_str_bool, T.i_str_str, fun h => (by cases h), fun _ => ⟨z, rfl⟩, fun _ h => (by cases h), fun _ _ => rfl, fun h => (by cases h), fun _ h => (by cases h)⟩
def spAns (ans : List Nat → Option Int) : Sp := fun vs H Q _ => ∃ p z, vs = [.ref p, .str z] ∧ Fine 1000 z ∧ ∀ H', Same H H' → Q (numV (ans (cd z))) H'
def spShown (shw : Int → List Nat) : Sp := fun vs H Q _ => ∃ p n, vs = [.ref p, .int n] ∧ n.natAbs < 10 ^ 60 ∧ ∀ H', Same H H' → Q (.str (S (shw n))) H'
def spId : Sp := fun vs H Q _ => ∃ p x, vs = [p, x] ∧ Q x H
def ansW (l : List Nat) : Option Int := numB l 60
section
variable {P : Program} {w : World} {K : W.Frag} {mg : Str → Option Value} {base : Heap} {A : Adr}
theorem ok_wans (T : Txt K mg A) : FnOk P w K mg base CX0 4 A.f_c_Whole_answer_of A.d_c_Whole_answer_of ["self", "text"] (spAns ansW) := by
 have G_number_or_none := ok_number_or_none (P := P) (w := w) (base := base) T
 refine T.F_c_Whole_answer_of.ok sc_c_Whole_answer_of (fun vs H Q E h => ?_) (fun cdv A0 outer s H vs Q E hr h => ?_)
 · obtain ⟨p, z, rfl, _⟩ := h
   rfl
 obtain ⟨p, z, rfl, hz, q⟩ := h
 refine ⟨_, (zC (zH (zL G_number_or_none (hr.mono (by first | decide | omega)) rfl T.m_number_or_none T.k_number_or_none T.b_number_or_none .nil zN (zA (pv 1) zB)))), ?_⟩
 exact ⟨_, rfl, z, rfl, hz, q⟩
theorem ok_wshown (T : Txt K mg A) : FnOk P w K mg base CX0 1 A.f_c_Whole_shown A.d_c_Whole_shown ["self", "answer"] (spShown numL) := by
 refine T.F_c_Whole_shown.ok sc_c_Whole_shown (fun vs H Q E h => ?_) (fun cdv A0 outer s H vs Q E hr h => ?_)
 · obtain ⟨p, z, rfl, _⟩ := h
   rfl
 obtain ⟨p, n, rfl, hn, q⟩ := h
 refine ⟨_, (zC (zH (pe_callTy call_str_int (by rfl) T.n_str Bt.str (zA (pv 1) zB)))), ?_⟩
 refine ⟨_, rfl, n, rfl, logOk (Nat.lt_trans hn (by symm)), ?_⟩
 rw [str_is]
 exact q _ (Same.refl _)
theorem ok_wrank (T : Txt K mg A) : FnOk P w K mg base CX0 1 A.f_c_Whole_rank A.d_c_Whole_rank ["self", "answer"] spId := by
 refine T.F_c_Whole_rank.ok sc_c_Whole_rank (fun vs H Q E h => ?_) (fun cdv A0 outer s H vs Q E hr h => ?_)
 · obtain ⟨p, z, rfl, _⟩ := h
   rfl
 obtain ⟨p, n, rfl, q⟩ := h
 exact ⟨_, (zC (zH (pv 1))), _, rfl, q⟩
theorem ok_wsample (T : Txt K mg A) : FnOk P w K mg base CX0 1 A.f_c_Whole_sample A.d_c_Whole_sample ["self", "rank"] spId := by
 refine T.F_c_Whole_sample.ok sc_c_Whole_sample (fun vs H Q E h => ?_) (fun cdv A0 outer s H vs Q E hr h => ?_)
 · obtain ⟨p, z, rfl, _⟩ := h
   rfl
 obtain ⟨p, n, rfl, q⟩ := h
 exact ⟨_, (zC (zH (pv 1))), _, rfl, q⟩
end
end K07
namespace K07
open PySem L2
seal PE PT PW PA PS PSs PG PGs PI PO PSet OpR UnR CallR TruR IxR SlR PC PPs
local macro_rules | `(tactic| walk_at "rd1") => `(tactic| first
 | (refine And.intro rfl ?_)
 | (refine And.intro (by assumption) ?_)
 | (refine And.intro (fun _ e => e) ?_)
 | (refine And.intro (TyOf.str _) ?_) | (refine And.intro (TyOf.int _) ?_) | (refine And.intro (TyOf.bl _) ?_) | (refine And.intro TyOf.non ?_)
 | (refine iteT ?_) | (refine iteF ?_)
 | (apply Exists.intro))
local macro_rules | `(tactic| walk_at "rd") => `(tactic| repeat (walk_at "rd1"))
theorem zfill_dig (m : Nat) : Txt.zfill (S (dig m)) 3 = S (pad3 (dig m)) := by
 unfold Txt.zfill pad3
 rw [len_S]
 split
 · rename_i h
   rw [show 3 - (dig m).length = 0 by omega]; rfl
 · rename_i h
   have hz : zfilled (S (dig m)) ((3 : Int).toNat - (dig m).length) = Builtin.Str.padded (S (dig m)) ((3 : Int).toNat - (dig m).length) 0 48 := by
     unfold zfilled
     split
     · rename_i e
       have : 43 ∈ dig m := by
         have e' : (dig m)[0]? = some 43 := by simpa [S] using e
         exact List.mem_of_getElem? e'
       have := dig_fig this; omega
     · rename_i e
       have : 45 ∈ dig m := by
         have e' : (dig m)[0]? = some 45 := by simpa [S] using e
         exact List.mem_of_getElem? e'
       have := dig_fig this; omega
     · rfl
   rw [hz]
   unfold Builtin.Str.padded
   refine cd_inj ?_
   rw [cd_S]
   show (Array.replicate _ 48 ++ (S (dig m)).cps ++ Array.replicate 0 48).toList = _
   rw [Array.toList_append, Array.toList_append]
   simp [S]
theorem cut_lo {f : List Nat} (h : 2 ≤ f.length) : cutN f none (some (-2)) = f.take (f.length - 2) := by
 unfold cutN
 have e1 : HT.sIx f.length 0 none = 0 := rfl
 have e2 : HT.sIx f.length f.length (some (-2)) = f.length - 2 := by
   show (if (-2 : Int) < 0 then ((-2 : Int) + f.length).toNat else min (-2 : Int).toNat f.length) = _
   rw [if_pos (by decide)]; omega
 rw [e1, e2, List.drop_zero, Nat.sub_zero]
theorem cut_hi {f : List Nat} (h : 2 ≤ f.length) : cutN f (some (-2)) none = f.drop (f.length - 2) := by
 unfold cutN
 have e1 : HT.sIx f.length f.length none = f.length := rfl
 have e2 : HT.sIx f.length 0 (some (-2)) = f.length - 2 := by
   show (if (-2 : Int) < 0 then ((-2 : Int) + f.length).toNat else min (-2 : Int).toNat f.length) = _
   rw [if_pos (by decide)]; omega
 rw [e1, e2, List.take_of_length_le (by rw [List.length_drop]; omega)]
theorem abs_is (n : Int) : (if n < 0 then -n else n) = ((n.natAbs : Nat) : Int) := by split <;> omega
theorem num_dig (m : Nat) : ((toString ((m : Nat) : Int) : String) : Str) = S (dig m) := by
 rw [str_is]; unfold numL; rw [if_neg (by omega)]; rfl
def spMon : Sp := fun vs H Q _ => ∃ n : Int, vs = [.int n] ∧ n.natAbs < 10 ^ 60 ∧ ∀ H', Same H H' → Q (.str (S (monL n))) H'
def spMonN : Sp := fun vs H Q _ => ∃ z, vs = [.str z] ∧ Fine 1000 z ∧ ∀ H', Same H H' → Q (numV (ansM (cd z))) H'
section
variable {P : Program} {w : World} {K : W.Frag} {mg : Str → Option Value} {base : Heap} {A : Adr}
theorem ok_money_shown (T : Txt K mg A) : FnOk P w K mg base CX0 1 A.f_money_shown A.d_money_shown ["hundredths"] spMon := by
 refine T.F_money_shown.ok sc_money_shown (fun vs H Q E h => ?_) (fun cdv A0 outer s H vs Q E hr h => ?_)
 · obtain ⟨n, rfl, _⟩ := h
   rfl
 obtain ⟨n, rfl, hn, q⟩ := h
 refine ⟨_, (zF (ps_set (i := 1) sc_money_shown.nd rfl (by first | exact Or.inl rfl | exact Or.inr rfl) (pe_bm PySem.F.plainAttrs_str PySem.F.slot_str_zfill PySem.F.type_str_zfill mt_zfill (pe_callTy call_str_int (by rfl) T.n_str Bt.str (zA (zI call_abs (by rfl) T.n_abs Bt.abs (zA (pv 0) zB)) zB)) (zA zD zB)))
     (zF (ps_set (i := 2) sc_money_shown.nd rfl (by first | exact Or.inl rfl | exact Or.inr rfl) (pe_ifExp (pt_cmpR op_lt (pv 0) zD (nomark _)) zG zG))
     (zC (zH (zK zM (zK zM (zK zM (pv 2) (pe_slice sl_str (pv 1) po_none (po_some (pe_un un_neg zD)))) zG) (pe_slice sl_str (pv 1) (po_some (pe_un un_neg zD)) po_none)))))), ?_⟩
 have hl := pad3_len (dig n.natAbs)
 have hd := dig_len (k := 60) (by decide) hn
 have q := q _ (Same.refl _)
 have ef : (figM n).length = (pad3 (dig n.natAbs)).length := rfl
 refine ⟨_, rfl, n, rfl, ?_⟩
 rw [abs_is]
 refine ⟨_, rfl, logOk (Nat.lt_trans (show (((n.natAbs : Nat) : Int)).natAbs < 10 ^ 60 by omega) (by symm)), ?_⟩
 rw [num_dig]
 refine ⟨rfl, _, _, rfl, rfl, (by symm), ?_⟩
 rw [zfill_dig]
 have sz : (S (figM n)).length ≤ sizeLine := small_of (m := 1000) (by rw [len_S]; omega)
 have fin : ∀ sg : List Nat, sg.length ≤ 1 → Q (.str (S (sg ++ ((figM n).take ((figM n).length - 2) ++ 46 :: (figM n).drop ((figM n).length - 2))))) H → tRet (tOp (fun x y H Q => ∃ i j, x = V.str i ∧ y = V.str j ∧ i.length + j.length ≤ sizeLine ∧ Q (V.str (i ++ j)) H) (tOp (fun x y H Q => ∃ i j, x = V.str i ∧ y = V.str j ∧ i.length + j.length ≤ sizeLine ∧ Q (V.str (i ++ j)) H) (tOp (fun x y H Q => ∃ i j, x = V.str i ∧ y = V.str j ∧ i.length + j.length ≤ sizeLine ∧ Q (V.str (i ++ j)) H) (tVar 2) (tSl (fun x lo hi H Q => ∃ z, x = V.str z ∧ z.length ≤ sizeLine ∧ Q (V.str (S (cutN (cd z) lo hi))) H) (tVar 1) tNoPart (tPart (tUn (rU fun i => .int (-i)) (tC (V.int 2)))))) (tC (V.str (Str.ofString ".")))) (tSl (fun x lo hi H Q => ∃ z, x = V.str z ∧ z.length ≤ sizeLine ∧ Q (V.str (S (cutN (cd z) lo hi))) H) (tVar 1) (tPart (tUn (rU fun i => .int (-i)) (tC (V.int 2)))) tNoPart)) { nx := fun _ H' => Q .non H', rt := Q } [some (.int n), some (.str (S (figM n))), some (.str (S sg))] H := fun sg hs qq => by
   refine ⟨_, rfl, _, rfl, _, rfl, _, rfl, _, rfl, sz, ?_⟩
   rw [cd_S, cut_lo (by omega)]
   refine ⟨_, _, rfl, rfl, small_of (m := 1000) (by rw [len_S, len_S, List.length_take]; omega), _, _, rfl, rfl, small_of (m := 1000) (by rw [len_cd, cd_app, List.length_append, cd_S, cd_S, List.length_take]; show _ + 1 ≤ 1000; omega), ?_⟩
   refine ⟨_, rfl, _, rfl, _, rfl, _, rfl, sz, ?_⟩
   rw [cd_S, cut_hi (by omega), show Str.ofString "." = S [46] by symm, S_app, S_app]
   refine ⟨_, _, rfl, rfl, small_of (m := 1000) (by rw [len_S, len_S, List.length_append, List.length_append, List.length_take, List.length_drop]; show _ + _ + 1 + _ ≤ 1000; omega), ?_⟩
   rw [S_app, List.append_assoc, List.append_assoc]
   exact qq
 unfold monL sgn at q
 refine ⟨_, rfl, _, _, rfl, rfl, _, rfl, ite2 (fun c => ?_) (fun c => ?_)⟩
 · rw [if_pos (of_decide_eq_true c)] at q
   have := fin [45] (by decide) q
   rw [show S [45] = Str.ofString "-" by symm] at this
   exact this
 · rw [if_neg (fun z => c (decide_eq_true z))] at q
   have := fin [] (by decide) q
   rw [show S [] = Str.ofString "" by symm] at this
   exact this
end
end K07
namespace K07
open PySem L2
seal PE PT PW PA PS PSs PG PGs PI PO PSet OpR UnR CallR TruR IxR SlR PC PPs
local macro_rules | `(tactic| walk_at "rd1") => `(tactic| first
 | (refine And.intro rfl ?_)
 | (refine And.intro (by assumption) ?_)
 | (refine And.intro (fun _ e => e) ?_)
 | (refine And.intro (TyOf.str _) ?_) | (refine And.intro (TyOf.int _) ?_) | (refine And.intro (TyOf.bl _) ?_) | (refine And.intro TyOf.non ?_)
 | (refine iteT ?_) | (refine iteF ?_)
 | (apply Exists.intro))
local macro_rules | `(tactic| walk_at "rd") => `(tactic| repeat (walk_at "rd1"))
theorem filt_is (z : Str) : cd (Txt.replace (Txt.replace z (Str.ofString "-") (Str.ofString "")) (Str.ofString ".") (Str.ofString "")) = filt (cd z) := by
 rw [show Str.ofString "-" = S [45] by symm, show Str.ofString "." = S [46] by symm, show Str.ofString "" = S [] by symm, replace_is, replace_is]
 rfl
theorem filt_len (l : List Nat) : (filt l).length ≤ l.length := Nat.le_trans (List.length_filter_le _ _) (List.length_filter_le _ _)
theorem val_small {l : List Nat} (h : l.all inF = true) (hl : l.length ≤ 60) : 0 ≤ val l ∧ (val l).natAbs < 10 ^ 60 := by
 obtain ⟨a, b⟩ := val_bound l.length l rfl h
 have hp : (10 : Int) ^ l.length ≤ 10 ^ 60 := by
   have : (10 : Nat) ^ l.length ≤ 10 ^ 60 := Nat.pow_le_pow_right (by decide) hl
   have e1 : ((10 ^ l.length : Nat) : Int) = (10 : Int) ^ l.length := by simp
   have e2 : ((10 ^ 60 : Nat) : Int) = (10 : Int) ^ 60 := by simp
   omega
 refine ⟨a, ?_⟩
 have e2 : ((10 ^ 60 : Nat) : Int) = (10 : Int) ^ 60 := by simp
 omega
section
variable {P : Program} {w : World} {K : W.Frag} {mg : Str → Option Value} {base : Heap} {A : Adr}
theorem ok_money_or_none (T : Txt K mg A) : FnOkP P w K mg base CX0 2 A.f_money_or_none A.d_money_or_none ["text"] spMonN := by
 have G_are_figures := ok_are_figures (P := P) (w := w) (base := base) T
 have G_figures_worth := ok_figures_worth (P := P) (w := w) (base := base) T
 have G_money_shown := ok_money_shown (P := P) (w := w) (base := base) T
 refine T.F_money_or_none.okP sc_money_or_none (fun vs H Q E h => ?_) (fun cdv A0 outer s H vs Q E hr h => ?_)
 · obtain ⟨n, rfl, _⟩ := h
   rfl
 obtain ⟨z, rfl, hz, q⟩ := h
 refine ⟨_, (pssp_cons (psp_set (i := 1) sc_money_or_none.nd rfl (by first | exact Or.inl rfl | exact Or.inr rfl) (pep_replace (pep_replace (PE.made (pv 0)))))
     (zF (ps_if (PW.pt (pw_or (pt_not (pt_val (zL G_are_figures (hr.mono (by first | decide | omega)) rfl T.m_are_figures T.k_are_figures T.b_are_figures .nil zN (zA (pv 1) zB)))) (pw_or1 (pt_cmpR op_gt (zI call_len_str (by rfl) T.n_len PySem.boot_len (zA (pv 1) zB)) (pe_gv rfl T.g_MOST_FIGURES) (nomark _))))) (zC (zH pe_non)) pss_nil)
     (zF (ps_set (i := 2) sc_money_or_none.nd rfl (by first | exact Or.inl rfl | exact Or.inr rfl) (zL G_figures_worth (hr.mono (by first | decide | omega)) rfl T.m_figures_worth T.k_figures_worth T.b_figures_worth .nil zN (zA (pv 1) zB)))
     (zF (ps_set (i := 3) sc_money_or_none.nd rfl (by first | exact Or.inl rfl | exact Or.inr rfl) (pe_ifExp (pt_val (pe_bm PySem.F.plainAttrs_str PySem.F.slot_str_startswith PySem.F.type_str_startswith mt_startswith (pv 0) (zA zG zB))) (pe_un un_neg (pv 2)) (pv 2)))
     (zC (zH (pe_ifExp (pt_cmpR op_eq (zL G_money_shown (hr.mono (by first | decide | omega)) rfl T.m_money_shown T.k_money_shown T.b_money_shown .nil zN (zA (pv 3) zB)) (pv 0) (nomark _)) (pv 3) pe_non))))))), ?_⟩
 have hzl := hz.len
 have e0 : (Str.ofString "").length = 0 := by symm
 have l1 : (Txt.replace z (Str.ofString "-") (Str.ofString "")).length ≤ z.length := by
   rw [len_cd, show Str.ofString "-" = S [45] by symm, show Str.ofString "" = S [] by symm, replace_is, len_cd]
   exact List.length_filter_le _ _
 refine ⟨_, rfl, z, rfl, (by rw [e0]; omega), _, rfl, (by rw [e0]; omega), ?_⟩
 have ef := filt_is z
 generalize hF : Txt.replace (Txt.replace z (Str.ofString "-") (Str.ofString "")) (Str.ofString ".") (Str.ofString "") = F at ef
 have hFl : F.length ≤ 1000 := by rw [len_cd, ef]; have := filt_len (cd z); rw [← len_cd] at this; omega
 refine ⟨_, rfl, F, rfl, small_of (m := 1000) hFl, fun H1 s1 => ⟨_, rfl, ?_⟩⟩
 rw [ef]
 have q := fun H' (s' : Same H1 H') => q H' (s1.trans s')
 cases hb : figB (filt (cd z)) with
 | false =>
   have e : ansM (cd z) = none := by
     unfold ansM
     rw [if_pos]
     by_cases h0 : (filt (cd z)).length = 0
     · exact .inl h0
     · refine .inr (.inl ?_)
       cases ha : (filt (cd z)).all inF with
       | false => rfl
       | true => rw [(figB_iff _).mpr ⟨by omega, ha⟩] at hb; cases hb
   rw [e] at q
   exact iteT (iteT (q _ (Same.refl _)))
 | true =>
   obtain ⟨hp, ha⟩ := (figB_iff _).mp hb
   refine iteF ⟨_, rfl, F, rfl, small_of (m := 1000) hFl, _, _, rfl, rfl, _, rfl, ?_⟩
   rw [len_cd, ef]
   refine ite2 (fun c => ?_) (fun c => ?_)
   · have c' : (60 : Int) < (filt (cd z)).length := of_decide_eq_true c
     have e : ansM (cd z) = none := by unfold ansM; rw [if_pos (.inr (.inr (by omega)))]
     rw [e] at q
     exact q _ (Same.refl _)
   · have c' : ¬ (60 : Int) < (filt (cd z)).length := fun h => c (decide_eq_true h)
     have e : ansM (cd z) = (if monL (if (cd z).take 1 = [45] then -val (filt (cd z)) else val (filt (cd z))) = cd z then some (if (cd z).take 1 = [45] then -val (filt (cd z)) else val (filt (cd z))) else none) := by
       unfold ansM
       rw [if_neg]
       rintro (h | h | h)
       · omega
       · rw [ha] at h; cases h
       · omega
     rw [e] at q
     obtain ⟨v0, v1⟩ := val_small ha (by omega)
     refine ⟨_, rfl, F, rfl, hFl, (by rw [ef]; exact ha), ?_⟩
     rw [ef]
     have fin : ∀ g : Int, g.natAbs < 10 ^ 60 → (∀ H', Same H1 H' → Q (numV (if monL g = cd z then some g else none)) H') → ∃ n : Int, [V.int g] = [V.int n] ∧ n.natAbs < 10 ^ 60 ∧ ∀ H', Same H1 H' → ((tOp rEq (tC (.str (S (monL n)))) (tC (.str z))) [] H' fun v H'' => ∃ b, v = .bl b ∧ if b = true then Q (.int g) H'' else Q .non H'') := fun g hg qq => by
       refine ⟨g, rfl, hg, fun H2 s2 => ⟨rfl, _, rfl, ?_⟩⟩
       have := qq H2 s2
       refine ite2 (fun d => ?_) (fun d => ?_)
       · have d' : monL g = cd z := by have := V.str.inj (of_decide_eq_true d); rw [← this]; rfl
         rw [if_pos d'] at this
         exact this
       · have d' : ¬ monL g = cd z := fun h => d (decide_eq_true (by rw [h, S_cd]))
         rw [if_neg d'] at this
         exact this
     refine ⟨_, rfl, rfl, z, _, rfl, rfl, _, rfl, ?_⟩
     rw [show Str.ofString "-" = S [45] by symm, starts1]
     refine ite2 (fun d => ?_) (fun d => ?_)
     · have d' : (cd z).take 1 = [45] := of_decide_eq_true d
       rw [if_pos d'] at q
       obtain ⟨n, e1, e2, e3⟩ := fin _ (by omega) q
       cases e1
       refine ⟨_, rfl, _, rfl, _, rfl, _, rfl, e2, fun H2 s2 => ?_⟩
       obtain ⟨k1, b, k2, k3⟩ := e3 H2 s2
       refine ⟨_, rfl, k1, _, k2, ?_⟩
       cases b with
       | true => exact iteT ⟨_, rfl, k3⟩
       | false => exact iteF k3
     · have d' : ¬ (cd z).take 1 = [45] := fun h => d (decide_eq_true h)
       rw [if_neg d'] at q
       obtain ⟨n, e1, e2, e3⟩ := fin _ (by omega) q
       cases e1
       refine ⟨_, rfl, _, rfl, _, rfl, e2, fun H2 s2 => ?_⟩
       obtain ⟨k1, b, k2, k3⟩ := e3 H2 s2
       refine ⟨_, rfl, k1, _, k2, ?_⟩
       cases b with
       | true => exact iteT ⟨_, rfl, k3⟩
       | false => exact iteF k3
theorem ok_mans (T : Txt K mg A) : FnOkP P w K mg base CX0 4 A.f_c_Money_answer_of A.d_c_Money_answer_of ["self", "text"] (spAns ansM) := by
 have G_money_or_none := ok_money_or_none (P := P) (w := w) (base := base) T
 refine T.F_c_Money_answer_of.okP sc_c_Money_answer_of (fun vs H Q E h => ?_) (fun cdv A0 outer s H vs Q E hr h => ?_)
 · obtain ⟨p, z, rfl, _⟩ := h
   rfl
 obtain ⟨p, z, rfl, hz, q⟩ := h
 refine ⟨_, (pssp_one (psp_ret (pep_call G_money_or_none (hr.mono (by first | decide | omega)) rfl T.m_money_or_none T.k_money_or_none T.b_money_or_none .nil zN (zA (pv 1) zB)))), ?_⟩
 exact ⟨_, rfl, z, rfl, hz, q⟩
end
end K07
namespace K07
open PySem L2
seal PE PT PW PA PS PSs PG PGs PI PO PSet OpR UnR CallR TruR IxR SlR PC PPs
local macro_rules | `(tactic| walk_at "rd1") => `(tactic| first
 | (refine And.intro rfl ?_)
 | (refine And.intro (by assumption) ?_)
 | (refine And.intro (fun _ e => e) ?_)
 | (refine And.intro (TyOf.str _) ?_) | (refine And.intro (TyOf.int _) ?_) | (refine And.intro (TyOf.bl _) ?_) | (refine And.intro TyOf.non ?_)
 | (refine iteT ?_) | (refine iteF ?_)
 | (apply Exists.intro))
local macro_rules | `(tactic| walk_at "rd") => `(tactic| repeat (walk_at "rd1"))
section
variable {P : Program} {w : World} {K : W.Frag} {mg : Str → Option Value} {base : Heap} {A : Adr}
theorem ok_mshown (T : Txt K mg A) : FnOk P w K mg base CX0 2 A.f_c_Money_shown A.d_c_Money_shown ["self", "answer"] (spShown monL) := by
 have G_money_shown := ok_money_shown (P := P) (w := w) (base := base) T
 refine T.F_c_Money_shown.ok sc_c_Money_shown (fun vs H Q E h => ?_) (fun cdv A0 outer s H vs Q E hr h => ?_)
 · obtain ⟨p, z, rfl, _⟩ := h
   rfl
 obtain ⟨p, n, rfl, hn, q⟩ := h
 refine ⟨_, (zC (zH (zL G_money_shown (hr.mono (by first | decide | omega)) rfl T.m_money_shown T.k_money_shown T.b_money_shown .nil zN (zA (pv 1) zB)))), ?_⟩
 exact ⟨_, rfl, n, rfl, hn, q⟩
end
end K07
set_option maxHeartbeats 4000000
namespace K07.N
open PySem L2
seal PE PT PW PA PS PSs PG PGs PI PO PSet OpR UnR CallR TruR IxR SlR PC PPs
local macro_rules | `(tactic| walk_at "rd1") => `(tactic| first
 | (refine And.intro rfl ?_)
 | (refine And.intro (by assumption) ?_)
 | (refine And.intro (fun _ e => e) ?_)
 | (refine And.intro (TyOf.str _) ?_) | (refine And.intro (TyOf.int _) ?_) | (refine And.intro (TyOf.bl _) ?_) | (refine And.intro TyOf.non ?_)
 | (refine iteT ?_) | (refine iteF ?_)
 | (apply Exists.intro))
local macro_rules | `(tactic| walk_at "rd") => `(tactic| repeat (walk_at "rd1"))
def kws : List V := [.str "and", .str "each", .str "end", .str "is", .str "not", .str "or", .str "unless", .str "when"]
def inL (c : Nat) : Bool := !(Builtin.Str.occurrences "abcdefghijklmnopqrstuvwxyz" (S [c]) 0 ("abcdefghijklmnopqrstuvwxyz" : Str).length 1).isEmpty
def nameB (z : Str) : Bool := !(inV (.str z) kws) && decide ((1 : Int) ≤ z.length) && decide ((z.length : Int) ≤ 12) && (cd z).all inL
def nameV : V → Bool
 | .str z => nameB z
 | _ => false
def Ok (K : W.Frag) (H : Hp) (x : V) : Prop := (∃ _ : Thing K H x, True) ∧ ∀ z, x = .str z → Fine 900 z
theorem Ok.same {K : W.Frag} {H H' : Hp} {x : V} (h : Ok K H x) (e : Same H H') : Ok K H' x := ⟨let ⟨⟨t, _⟩, _⟩ := h; ⟨t.same e, trivial⟩, h.2⟩
def strsOf (xs : List V) : List Str := xs.filterMap fun x => match x with | .str z => some z | _ => none
def unlikeB (xs : List V) : Bool := xs.all nameV && decide ((metT (strsOf xs)).length = xs.length)
theorem strs_of : ∀ {xs : List V}, xs.all nameV = true → xs = (strsOf xs).map V.str
 | [], _ => rfl
 | x :: r, h => by
   rw [List.all_cons, Bool.and_eq_true] at h
   cases x with
   | str z => show V.str z :: r = V.str z :: (strsOf r).map V.str; rw [← strs_of h.2]
   | _ => cases h.1
theorem strsOf_map (ws : List Str) : strsOf (ws.map V.str) = ws := by
 induction ws with
 | nil => rfl
 | cons a r ih => show a :: strsOf (r.map V.str) = _; rw [ih]
theorem unlike_strs (ws : List Str) : unlikeB (ws.map V.str) = (ws.all nameB && decide ws.Nodup) := by
 unfold unlikeB
 rw [strsOf_map, List.length_map, List.all_map]
 congr 1
 rw [Bool.eq_iff_iff, decide_eq_true_iff, decide_eq_true_iff]
 exact metT_nodup ws
def spIsName (K : W.Frag) : Sp := fun vs H Q _ => ∃ x, vs = [x] ∧ Ok K H x ∧ ∀ H', Same H H' → Q (.bl (nameV x)) H'
def spUnlike (K : W.Frag) : Sp := fun vs H Q _ => ∃ (p : Addr) (xs : List V), vs = [.ref p] ∧ SqT K H p xs ∧ xs.length ≤ 1000 ∧ (∀ x ∈ xs, Ok K H x) ∧ ∀ H', Same H H' → Q (.bl (unlikeB xs)) H'
section
variable {P : Program} {w : World} {K : W.Frag} {mg : Str → Option Value} {base : Heap} {A : Adr}
theorem ok_is_name (T : Txt K mg A) : FnOk P w K mg base CX0 1 A.f_is_name A.d_is_name ["thing"] (spIsName K) := by
 refine T.F_is_name.ok sc_is_name (fun vs H Q E h => ?_) (fun cdv A0 outer s H vs Q E hr h => ?_)
 · obtain ⟨x, rfl, _⟩ := h
   rfl
 obtain ⟨x, rfl, ⟨⟨th, _⟩, hx⟩, q⟩ := h
 refine ⟨_, (zF (ps_if (PW.pt (pw_or (pt_not (pt_val (zI call_isi (by rfl) T.n_isinstance Bt.isinstance (zA (pv 0) (zA (pe_bltn (v := .ty "str") rfl T.n_str Bt.str rfl) zB))))) (pw_or1 (pt_cmpR op_in_seq (pv 0) (pe_gv rfl T.g_NO_NAMES) (by rfl))))) (zC (zH pe_bl)) pss_nil)
     (zC (zH (pe_and (pe_chain op_le op_le zD (zI call_len_str (by rfl) T.n_len PySem.boot_len (zA (pv 0) zB)) (pe_gv rfl T.g_LONGEST_NAME)) (pe_one (zI (call_all rfl) (by rfl) T.n_all Bt.all (zA (pe_compR (compOk_of (x := "sign") (M := ["thing"]) rfl (by rfl)) rfl (pi_str (pv 0)) (fun _ _ _ _ => (pe_cmpR op_in_str (pv 0) (pe_gv rfl T.g_LETTERS) (by rfl)))) zB))))))), ?_⟩
 refine ⟨_, rfl, _, _, _, _, rfl, rfl, th.ty, th.ks, _, rfl, ?_⟩
 cases hb : th.bs with
 | false =>
   refine iteT ?_
   have e : nameV x = false := by cases x <;> first | rfl | (rw [th.ns _ rfl] at hb; cases hb)
   rw [e] at q
   exact q _ (Same.refl _)
 | true =>
   obtain ⟨z, rfl⟩ := th.hs hb
   have hz := (hx z rfl).size
   have q : ∀ H', Same H H' → Q (.bl (nameB z)) H' := q
   have qN := T.q_NO_NAMES H
   refine iteF ⟨_, rfl, _, _, rfl, .inr qN, rfl, rfl, _, rfl, ?_⟩
   refine ite2 (fun c => ?_) (fun c => ?_)
   · have e : nameB z = false := by
       unfold nameB
       rw [show inV (.str z) kws = true from c]
       rfl
     rw [e] at q
     exact q _ (Same.refl _)
   have c0 : inV (.str z) kws = false := by
     cases e : inV (.str z) kws with
     | false => rfl
     | true => exact absurd e c
   walk_at "rd"
   refine ite2 (fun c1 => ?_) (fun c1 => ?_)
   · walk_at "rd"
     refine ite2 (fun c2 => ?_) (fun c2 => ?_)
     · walk_at "rd"
       refine comp_strR hz (fun i ys H' => H = H' ∧ ys = ((cd z).take i).map fun c => V.bl (inL c)) ⟨rfl, rfl⟩ (fun i c ys H' hc hl hw => ?_) (fun ys H' hl hw p hp => ?_)
       · obtain ⟨rfl, rfl⟩ := hw
         walk_at "rd"
         rw [List.take_succ, hc]
         simp [inL]
       · obtain ⟨rfl, rfl⟩ := hw
         have e : (cd z).take z.length = cd z := List.take_of_length_le (by rw [len_cd]; exact Nat.le_refl _)
         rw [e]
         refine ⟨p, (cd z).map inL, rfl, SqL.of (by rw [zE, List.map_map]; rfl), ?_⟩
         have e2 : nameB z = ((cd z).map inL).all id := by
           unfold nameB
           rw [c0, c1, c2, List.all_map]
           rfl
         rw [e2] at q
         exact q _ (zJ hp _)
     · have e : nameB z = false := by
         unfold nameB
         rw [show decide ((z.length : Int) ≤ 12) = false from Bool.eq_false_iff.mpr c2]
         simp
       rw [e] at q
       exact q _ (Same.refl _)
   · have e : nameB z = false := by
       unfold nameB
       rw [show decide ((1 : Int) ≤ z.length) = false from Bool.eq_false_iff.mpr c1]
       simp
     rw [e] at q
     refine ⟨_, rfl, iteF ?_⟩
     exact q _ (Same.refl _)
theorem ok_unlike (T : Txt K mg A) : FnOk P w K mg base CX0 2 A.f_are_unlike_names A.d_are_unlike_names ["words"] (spUnlike K) := by
 have G_is_name := ok_is_name (P := P) (w := w) (base := base) T
 refine T.F_are_unlike_names.ok sc_are_unlike_names (fun vs H Q E h => ?_) (fun cdv A0 outer s H vs Q E hr h => ?_)
 · obtain ⟨x, xs, rfl, _⟩ := h
   rfl
 obtain ⟨p, xs, rfl, hq, hl, hx, q⟩ := h
 refine ⟨_, (zC (zH (pe_and (zI (call_all rfl) (by rfl) T.n_all Bt.all (zA (pe_compR (compOk_of (x := "word") (M := ["words"]) rfl (by rfl)) rfl (pi_tup (pv 0)) (fun _ _ _ _ => (zL G_is_name (hr.mono (by first | decide | omega)) rfl T.m_is_name T.k_is_name T.b_is_name .nil zN (zA (pv 0) zB)))) zB)) (pe_one (pe_cmpR op_eq (zI call_len_setT (by rfl) T.n_len PySem.boot_len (zA (pe_callTy (call_set_tup rfl) (by rfl) T.n_set Bt.set (zA (pv 0) zB)) zB)) (zI call_len_seq (by rfl) T.n_len PySem.boot_len (zA (pv 0) zB)) (nomark _)))))), ?_⟩
 refine ⟨_, rfl, p, rfl, ⟨_, hq⟩, ?_⟩
 refine comp_tup (xs := xs) (small_of (m := 1000) hl) (fun i ys H' => Same H H' ∧ ys = (xs.take i).map fun x => V.bl (nameV x)) ⟨Same.refl _, rfl⟩ (fun i ys H' hw => hw.1.seqT hq) (fun i x ys H' hi hl' hw => ?_) (fun ys H' hl' hw p2 hp2 => ?_)
 · obtain ⟨sH, rfl⟩ := hw
   refine ⟨_, rfl, _, rfl, (hx x (List.mem_of_getElem? hi)).same sH, fun H2 s2 => ⟨sH.trans s2, ?_⟩⟩
   rw [List.take_succ, hi, List.map_append]; rfl
 obtain ⟨sH, rfl⟩ := hw
 rw [List.take_length]
 have sB := sH.trans (zJ hp2 (.lst (xs.map fun x => V.bl (nameV x))))
 refine ⟨p2, xs.map nameV, rfl, SqL.of (by rw [zE, List.map_map]; rfl), _, rfl, ?_⟩
 rw [List.all_map]
 cases ha : xs.all nameV with
 | false =>
   refine iteN (show xs.all (id ∘ nameV) = false from ha) ?_
   have e : unlikeB xs = false := by unfold unlikeB; rw [ha]; rfl
   rw [e] at q
   exact q _ sB
 | true =>
   refine iteY (show xs.all (id ∘ nameV) = true from ha) ?_
   have exs := strs_of ha
   have hlw : (strsOf xs).length = xs.length := by have := congrArg List.length exs; rw [List.length_map] at this; exact this.symm
   refine ⟨_, rfl, p, strsOf xs, rfl, (by rw [← exs]; exact sB.seqT hq), by omega, fun p3 hp3 => ?_⟩
   refine ⟨p3, _, _, rfl, zE, ?_⟩
   have sC := sB.trans (zJ hp3 (SetT P w p3 (fun k => decide (k ∈ metT (strsOf xs))) (metT (strsOf xs)).length))
   refine ⟨_, rfl, p, xs, rfl, .inr (sC.seqT hq), rfl, ?_⟩
   have e : unlikeB xs = decide (V.int ((metT (strsOf xs)).length : Nat) = V.int (xs.length : Nat)) := by
     unfold unlikeB
     rw [ha, Bool.true_and, Bool.eq_iff_iff, decide_eq_true_iff, decide_eq_true_iff]
     constructor
     · intro z; rw [z]
     · intro z; have : ((metT (strsOf xs)).length : Int) = xs.length := V.int.inj z; omega
   have q := q _ sC
   rw [e] at q
   exact q
end
end K07.N
namespace K07.N
open PySem L2
seal PE PT PW PA PS PSs PG PGs PI PO PSet OpR UnR CallR TruR IxR SlR PC PPs
local macro_rules | `(tactic| walk_at "rd1") => `(tactic| first
 | (refine And.intro rfl ?_)
 | (refine And.intro (by assumption) ?_)
 | (refine And.intro (fun _ e => e) ?_)
 | (refine And.intro (TyOf.str _) ?_) | (refine And.intro (TyOf.int _) ?_) | (refine And.intro (TyOf.bl _) ?_) | (refine And.intro TyOf.non ?_)
 | (refine iteT ?_) | (refine iteF ?_)
 | (apply Exists.intro))
local macro_rules | `(tactic| walk_at "rd") => `(tactic| repeat (walk_at "rd1"))
abbrev flds (m : Int) : List (Str × V) := [("low", .int 0), ("high", .int m)]
def partsN (l : List Nat) : List (List Nat) := if l = [45] then [] else splitL l
abbrev vs (ps : List (List Nat)) : List V := ps.map fun l => V.str (S l)
theorem vs_map (ps : List (List Nat)) : vs ps = (ps.map S).map V.str := by unfold vs; rw [List.map_map]; rfl
theorem mem_joinL {sep : List Nat} {c : Nat} : ∀ {ps : List (List Nat)} {p : List Nat}, p ∈ ps → c ∈ p → c ∈ joinL sep ps
 | [x], p, h, k => by rw [List.mem_singleton.mp h] at k; exact k
 | x :: y :: r, p, h, k => by
   show c ∈ x ++ sep ++ joinL sep (y :: r)
   rcases List.mem_cons.mp h with e | e
   · subst e; simp [k]
   · have := mem_joinL (sep := sep) e k; simp [this]
theorem len_joinL {sep : List Nat} : ∀ {ps : List (List Nat)} {p : List Nat}, p ∈ ps → p.length ≤ (joinL sep ps).length
 | [x], p, h => by rw [List.mem_singleton.mp h]; exact Nat.le_refl _
 | x :: y :: r, p, h => by
   show p.length ≤ (x ++ sep ++ joinL sep (y :: r)).length
   rw [List.length_append, List.length_append]
   rcases List.mem_cons.mp h with e | e
   · subst e; omega
   · have := len_joinL (sep := sep) e; omega
theorem parts_fine {n : Nat} {l p : List Nat} (h : Fine n (S l)) (hp : p ∈ partsN l) : Fine n (S p) := by
 unfold partsN at hp
 split at hp
 · cases hp
 · have e := splitL_join l
   refine ⟨?_, fun c hc => ?_⟩
   · have h1 := len_joinL (sep := [32]) hp
     rw [e] at h1
     have := h.len
     rw [len_S] at this ⊢; omega
   · rw [cd_S] at hc
     have h1 := mem_joinL (sep := [32]) hp hc
     rw [e] at h1
     exact h.cod c (by rw [cd_S]; exact h1)
theorem parts_len (l : List Nat) : (partsN l).length ≤ l.length + 2 := by
 unfold partsN
 split
 · exact Nat.zero_le _
 · unfold splitL
   rw [List.length_map]
   have := PyProof.Rows.split_le (S l) (S [32])
   rwa [len_S] at this
def spInit (K : W.Frag) : Sp := fun vs H Q _ => ∃ p C dx lo hi, vs = [.ref p, .int lo, .int hi] ∧ H p = some (.ins C dx []) ∧ Cls K C ∧ NoAttr K C "low" ∧ NoAttr K C "high" ∧ Q .non (upd H p (.ins C dx [("low", .int lo), ("high", .int hi)]))
def spNInit (A : Adr) : Sp := fun vs H Q _ => ∃ p dx m, vs = [.ref p, .int m] ∧ H p = some (.ins A.c_Names dx []) ∧ Q .non (upd H p (.ins A.c_Names dx (flds m)))
def Fit (K : W.Frag) (H : Hp) (m : Int) (x : V) (b : Bool) : Prop := (∃ p xs, x = .ref p ∧ SqT K H p xs ∧ xs.length ≤ 1000 ∧ (∀ y ∈ xs, Ok K H y) ∧ b = (decide ((xs.length : Int) ≤ m) && unlikeB xs)) ∨ (∃ t, TyE K H x t ∧ W.kitOne K t (.type "tuple") = some false ∧ b = false)
theorem Fit.same {K : W.Frag} {H H' : Hp} {m : Int} {x : V} {b : Bool} (h : Fit K H m x b) (e : Same H H') : Fit K H' m x b := by
 rcases h with ⟨p, xs, h1, h2, h3, h4, h5⟩ | ⟨t, h1, h2, h3⟩
 · exact .inl ⟨p, xs, h1, e.seqT h2, h3, fun y hy => (h4 y hy).same e, h5⟩
 · exact .inr ⟨t, e.tyE' h1, h2, h3⟩
def spFits (K : W.Frag) (A : Adr) : Sp := fun vs H Q _ => ∃ (p dx : Addr) (m : Int) (x : V) (b : Bool), vs = [.ref p, x] ∧ H p = some (.ins A.c_Names dx (flds m)) ∧ Fit K H m x b ∧ ∀ H', Same H H' → Q (.bl b) H'
def spAns : Sp := fun vs' H Q _ => ∃ (p : Addr) (z : Str), vs' = [.ref p, .str z] ∧ Fine 1000 z ∧ ∀ t H', Same H H' → H' t = some (.tup (vs (partsN (cd z)))) → Q (.ref t) H'
def spShown (K : W.Frag) : Sp := fun vs H Q _ => ∃ (p t : Addr) (ws : List Str), vs = [.ref p, .ref t] ∧ SqT K H t (ws.map V.str) ∧ (ws.map (·.length)).sum + ws.length * 1 ≤ 1000 ∧ Q (.str (if ws.length > 0 then joinS " " ws else "-")) H
def spRank (K : W.Frag) : Sp := fun vs H Q _ => ∃ (p t : Addr) (xs : List V), vs = [.ref p, .ref t] ∧ SqT K H t xs ∧ Q (.int xs.length) H
abbrev smp : List V := [.str "a", .str "b", .str "c", .str "d", .str "e", .str "f"]
def spSample (K : W.Frag) : Sp := fun vs H Q _ => ∃ (p : Addr) (r : Int), vs = [.ref p, .int r] ∧ ∀ t H', Same H H' → SqT K H' t (cutV smp none (some r)) → Q (.ref t) H'
theorem nlo : (("high" : Str) == ("low" : Str)) = false := by symm
theorem put_low (v : V) : putF "low" v [] = [(("low" : Str), v)] := rfl
theorem put_high (v w : V) : putF "high" w [(("low" : Str), v)] = [(("low" : Str), v), (("high" : Str), w)] := by
 unfold putF
 rw [if_neg (by symm)]; rfl
section
variable {P : Program} {w : World} {K : W.Frag} {mg : Str → Option Value} {base : Heap} {A : Adr}
theorem ok_init (T : Txt K mg A) : FnOk P w K mg base CX0 1 A.f_c_Kind___init A.d_c_Kind___init ["self", "low", "high"] (spInit K) := by
 refine T.F_c_Kind___init.ok sc_c_Kind___init (fun vs H Q E h => ?_) (fun cdv A0 outer s H vs Q E hr h => ?_)
 · obtain ⟨p, C, dx, lo, hi, rfl, _⟩ := h
   rfl
 obtain ⟨p, C, dx, lo, hi, rfl, hp, cl, n1, n2, q⟩ := h
 refine ⟨_, (zF (ps_fld (pv 0) (pv 1) rfl)
     (zC (ps_fld (pv 0) (pv 2) rfl))), ?_⟩
 refine ⟨_, rfl, _, rfl, p, C, dx, _, rfl, hp, cl, n1, by decide, ?_⟩
 refine ⟨_, rfl, _, rfl, p, C, dx, _, rfl, zE, cl, n2, (by show 1 < 1000; decide), ?_⟩
 rw [upd_upd, put_low, put_high]
 exact q
theorem ok_ninit (T : Txt K mg A) : FnOk P w K mg base CX0 3 A.f_c_Names___init A.d_c_Names___init ["self", "most"] (spNInit A) := by
 have G_c_Kind___init := ok_init (P := P) (w := w) (base := base) T
 refine T.F_c_Names___init.ok sc_c_Names___init (fun vs H Q E h => ?_) (fun cdv A0 outer s H vs Q E hr h => ?_)
 · obtain ⟨p, dx, m, rfl, _⟩ := h
   rfl
 obtain ⟨p, dx, m, rfl, hp, q⟩ := h
 refine ⟨_, (zC (ps_expr (pe_clsfn T.cf_Kind_init G_c_Kind___init (hr.mono (by first | decide | omega)) rfl T.m_Kind T.b_c_Kind___init zN (zA (pv 0) (zA zD (zA (pv 1) zB)))))), ?_⟩
 exact ⟨_, rfl, _, rfl, p, A.c_Names, dx, 0, m, rfl, hp, T.cl_Names, T.no_Names_low, T.no_Names_high, q⟩
theorem ok_fits (T : Txt K mg A) : FnOk P w K mg base CX0 3 A.f_c_Names_fits A.d_c_Names_fits ["self", "thing"] (spFits K A) := by
 have G_are_unlike_names := ok_unlike (P := P) (w := w) (base := base) T
 refine T.F_c_Names_fits.ok sc_c_Names_fits (fun vs H Q E h => ?_) (fun cdv A0 outer s H vs Q E hr h => ?_)
 · obtain ⟨p, dx, m, x, b, rfl, _⟩ := h
   rfl
 obtain ⟨p, dx, m, x, b, rfl, hp, hf, q⟩ := h
 refine ⟨_, (zC (zH (pe_and (zI call_isi (by rfl) T.n_isinstance Bt.isinstance (zA (pv 1) (zA (pe_bltn (v := .ty "tuple") rfl T.n_tuple Bt.tuple rfl) zB))) (pe_and (pe_cmpR op_le (zI call_len_seq (by rfl) T.n_len PySem.boot_len (zA (pv 1) zB)) (pe_fld (pv 0) rfl) (nomark _)) (pe_one (zL G_are_unlike_names (hr.mono (by first | decide | omega)) rfl T.m_are_unlike_names T.k_are_unlike_names T.b_are_unlike_names .nil zN (zA (pv 1) zB))))))), ?_⟩
 rcases hf with ⟨t, xs, rfl, hq, hl, hx, rfl⟩ | ⟨t, ty, kt, rfl⟩
 · refine ⟨_, rfl, _, _, _, _, rfl, rfl, .tpl hq, T.i_tuple_tuple, _, rfl, iteT ?_⟩
   refine ⟨_, rfl, t, xs, rfl, .inr hq, _, rfl, p, A.c_Names, dx, _, _, rfl, hp, T.cl_Names, T.no_Names_high, lk2 nlo, _, _, rfl, rfl, _, rfl, ?_⟩
   refine ite2 (fun c => ?_) (fun c => ?_)
   · refine ⟨_, rfl, t, xs, rfl, hq, hl, hx, fun H' s' => ?_⟩
     have := q H' s'
     rw [show decide ((xs.length : Int) ≤ m) = true from c] at this
     exact this
   · have := q H (Same.refl _)
     rw [show decide ((xs.length : Int) ≤ m) = false from Bool.eq_false_iff.mpr c] at this
     exact this
 · exact ⟨_, rfl, _, _, _, _, rfl, rfl, ty, kt, _, rfl, iteF (q _ (Same.refl _))⟩
theorem ok_answer (T : Txt K mg A) : FnOk P w K mg base CX0 1 A.f_c_Names_answer_of A.d_c_Names_answer_of ["self", "text"] spAns := by
 refine T.F_c_Names_answer_of.ok sc_c_Names_answer_of (fun vs H Q E h => ?_) (fun cdv A0 outer s H vs Q E hr h => ?_)
 · obtain ⟨p, z, rfl, _⟩ := h
   rfl
 obtain ⟨p, z, rfl, hz, q⟩ := h
 refine ⟨_, (zC (zH (pe_ifExp (pt_cmpR op_eq (pv 1) zG (nomark _)) (pe_tup zB) (pe_callTy call_tuple_of (by rfl) T.n_tuple Bt.tuple (zA (pe_bm PySem.F.plainAttrs_str PySem.F.slot_str_split PySem.F.type_str_split mt_split (pv 1) (zA zG zB)) zB))))), ?_⟩
 refine ⟨_, rfl, rfl, _, rfl, ite2 (fun c => ?_) (fun c => ?_)⟩
 · have e : V.str z = V.str (Str.ofString "-") := of_decide_eq_true c
   have e2 : cd z = [45] := by
     have e3 : z = Str.ofString "-" := V.str.inj e
     rw [e3]; decide +kernel
   refine ⟨(by show 0 ≤ sizeLine; decide), fun t ht => q t _ (zJ ht _) ?_⟩
   rw [zE, show partsN (cd z) = [] by unfold partsN; rw [if_pos e2]]
   rfl
 · have e2 : ¬ cd z = [45] := fun e2 => c (decide_eq_true (congrArg V.str (cd_inj (e2.trans (show [45] = cd (Str.ofString "-") by symm)))))
   refine ⟨_, rfl, rfl, z, _, rfl, rfl, (by symm), Nat.le_trans hz.len (by decide), fun l hl => ?_⟩
   refine ⟨l, _, rfl, .inl ⟨SqL.of zE, fun t ht => q t _ ((zJ hl _).trans (zJ ht _)) ?_⟩⟩
   rw [zE, show partsN (cd z) = splitL (cd z) by unfold partsN; rw [if_neg e2]]
   rw [show Str.ofString " " = S [32] by symm, split_is, List.map_map]
   rfl
theorem ok_shown (T : Txt K mg A) : FnOk P w K mg base CX0 1 A.f_c_Names_shown A.d_c_Names_shown ["self", "answer"] (spShown K) := by
 refine T.F_c_Names_shown.ok sc_c_Names_shown (fun vs H Q E h => ?_) (fun cdv A0 outer s H vs Q E hr h => ?_)
 · obtain ⟨p, t, ws, rfl, _⟩ := h
   rfl
 obtain ⟨p, t, ws, rfl, hq, hz, q⟩ := h
 refine ⟨_, (zC (zH (pe_ifExp (pt_cmpR op_gt (zI call_len_seq (by rfl) T.n_len PySem.boot_len (zA (pv 1) zB)) zD (nomark _)) (pe_bm PySem.F.plainAttrs_str PySem.F.slot_str_join PySem.F.type_str_join mt_join zG (zA (pv 1) zB)) zG))), ?_⟩
 refine ⟨_, rfl, t, _, rfl, .inr hq, _, _, rfl, rfl, _, rfl, ite2 (fun c => ?_) (fun c => ?_)⟩
 · have c' : ws.length > 0 := by have := of_decide_eq_true c; rw [List.length_map] at this; omega
   rw [if_pos c'] at q
   exact ⟨rfl, _, rfl, _, t, ws, rfl, rfl, .inr hq, Nat.le_trans hz (by decide), q⟩
 · have c' : ¬ ws.length > 0 := fun h => c (decide_eq_true (by rw [List.length_map]; omega))
   rw [if_neg c'] at q
   exact q
theorem ok_rank (T : Txt K mg A) : FnOk P w K mg base CX0 1 A.f_c_Names_rank A.d_c_Names_rank ["self", "answer"] (spRank K) := by
 refine T.F_c_Names_rank.ok sc_c_Names_rank (fun vs H Q E h => ?_) (fun cdv A0 outer s H vs Q E hr h => ?_)
 · obtain ⟨p, t, ws, rfl, _⟩ := h
   rfl
 obtain ⟨p, t, xs, rfl, hq, q⟩ := h
 exact ⟨_, (zC (zH (zI call_len_seq (by rfl) T.n_len PySem.boot_len (zA (pv 1) zB)))), _, rfl, t, _, rfl, .inr hq, q⟩
theorem ok_sample (T : Txt K mg A) : FnOk P w K mg base CX0 1 A.f_c_Names_sample A.d_c_Names_sample ["self", "rank"] (spSample K) := by
 refine T.F_c_Names_sample.ok sc_c_Names_sample (fun vs H Q E h => ?_) (fun cdv A0 outer s H vs Q E hr h => ?_)
 · obtain ⟨p, r, rfl, _⟩ := h
   rfl
 obtain ⟨p, r, rfl, q⟩ := h
 refine ⟨_, (zC (zH (pe_slice sl_tup2 (pe_gv rfl T.g_SAMPLE_NAMES) po_none (po_some (pv 1))))), ?_⟩
 exact ⟨_, rfl, _, rfl, _, _, rfl, T.q_SAMPLE_NAMES H, q⟩
end
end K07.N
set_option maxHeartbeats 4000000
namespace K07
open PySem L2
seal PE PT PW PA PS PSs PG PGs PI PO PSet OpR UnR CallR TruR IxR SlR PC PPs
local macro_rules | `(tactic| walk_at "rd1") => `(tactic| first
 | (refine And.intro rfl ?_)
 | (refine And.intro (by assumption) ?_)
 | (refine And.intro (fun _ e => e) ?_)
 | (refine And.intro (TyOf.str _) ?_) | (refine And.intro (TyOf.int _) ?_) | (refine And.intro (TyOf.bl _) ?_) | (refine And.intro TyOf.non ?_)
 | (refine iteT ?_) | (refine iteF ?_)
 | (apply Exists.intro))
local macro_rules | `(tactic| walk_at "rd") => `(tactic| repeat (walk_at "rd1"))
inductive KU where
 | yn
 | wh (lo hi : Int)
 | mo (lo hi : Int)
 | pk (ws : List Str)
 | nm (m : Nat)
inductive AV where
 | b (x : Bool)
 | i (n : Int)
 | s (z : Str)
 | t (ws : List Str)
 deriving DecidableEq
abbrev YN : List (Str × Bool) := [("yes", true), ("no", false)]
structure GoodW (ws : List Str) : Prop where
 nd : ws.Nodup
 wd : ∀ z ∈ ws, z.length ≤ 12 ∧ 1 ≤ z.length ∧ ∀ c ∈ cd z, 97 ≤ c ∧ c ≤ 122
def KU.Good : KU → Prop
 | .yn => True
 | .wh lo hi => lo ≤ hi ∧ lo.natAbs < 10 ^ 60 ∧ hi.natAbs < 10 ^ 60
 | .mo lo hi => lo ≤ hi ∧ lo.natAbs < 10 ^ 60 ∧ hi.natAbs < 10 ^ 60
 | .pk ws => GoodW ws ∧ 1 ≤ ws.length ∧ ws.length ≤ 6
 | .nm m => m ≤ 6
def KU.low : KU → Int
 | .yn => 0
 | .wh lo _ => lo
 | .mo lo _ => lo
 | .pk _ => 0
 | .nm _ => 0
def KU.high : KU → Int
 | .yn => 1
 | .wh _ hi => hi
 | .mo _ hi => hi
 | .pk ws => (ws.length : Int) - 1
 | .nm m => m
abbrev lets : List Str := ["a", "b", "c", "d", "e", "f"]
def fit : KU → AV → Bool
 | .yn, .b _ => true
 | .wh lo hi, .i n => decide (lo ≤ n) && decide (n ≤ hi)
 | .mo lo hi, .i n => decide (lo ≤ n) && decide (n ≤ hi)
 | .pk ws, .s z => decide (z ∈ ws)
 | .nm m, .t ws => decide ((ws.length : Int) ≤ m) && N.unlikeB (ws.map V.str)
 | _, _ => false
def ans : KU → List Nat → Option AV
 | .yn, l => (YN.lookup (S l)).map AV.b
 | .wh _ _, l => (numB l 60).map AV.i
 | .mo _ _, l => (ansM l).map AV.i
 | .pk _, l => some (.s (S l))
 | .nm _, l => some (.t ((N.partsN l).map S))
def shw : KU → AV → List Nat
 | .yn, .b x => if x = true then cd "yes" else cd "no"
 | .wh _ _, .i n => numL n
 | .mo _ _, .i n => monL n
 | .pk _, .s z => cd z
 | .nm _, .t ws => if ws = [] then [45] else joinL [32] (ws.map cd)
 | _, _ => []
def rnk : KU → AV → Int
 | .yn, .b x => if x = true then 1 else 0
 | .wh _ _, .i n => n
 | .mo _ _, .i n => n
 | .pk ws, .s z => (ws.idxOf z : Nat)
 | .nm _, .t ws => (ws.length : Nat)
 | _, _ => 0
def smp : KU → Int → AV
 | .yn, r => .b (decide (r = 1))
 | .wh _ _, r => .i r
 | .mo _ _, r => .i r
 | .pk ws, r => .s ((ws[r.toNat]?).getD "")
 | .nm _, r => .t (lets.take r.toNat)
theorem inL_iff {c : Nat} (h : N.inL c = true) : 97 ≤ c ∧ c ≤ 122 := by
 have e0 : N.inL c = decide (c ∈ ("abcdefghijklmnopqrstuvwxyz" : Str).cps.toList) := StrLaws.found_one "abcdefghijklmnopqrstuvwxyz" c
 have e : ("abcdefghijklmnopqrstuvwxyz" : Str).cps.toList = (List.range 26).map (97 + ·) := by symm
 rw [e0, e, decide_eq_true_iff] at h
 obtain ⟨k, hk, rfl⟩ := List.mem_map.mp h
 have := List.mem_range.mp hk
 omega
theorem name_let {z : Str} (h : N.nameB z = true) : z.length ≤ 12 ∧ 1 ≤ z.length ∧ ∀ c ∈ cd z, 97 ≤ c ∧ c ≤ 122 := by
 unfold N.nameB at h
 simp only [Bool.and_eq_true, decide_eq_true_iff] at h
 obtain ⟨⟨⟨_, h1⟩, h2⟩, h3⟩ := h
 exact ⟨by omega, by omega, fun c hc => inL_iff (List.all_eq_true.mp h3 c hc)⟩
theorem fit_t {m : Nat} {ws : List Str} (h : fit (.nm m) (.t ws) = true) : (ws.length : Int) ≤ m ∧ ws.Nodup ∧ ∀ z ∈ ws, N.nameB z = true := by
 have h : (decide ((ws.length : Int) ≤ m) && N.unlikeB (ws.map V.str)) = true := h
 rw [N.unlike_strs] at h
 simp only [Bool.and_eq_true, decide_eq_true_iff] at h
 exact ⟨h.1, h.2.2, List.all_eq_true.mp h.2.1⟩
theorem wd_ne {z : Str} (h : z.length ≤ 12 ∧ 1 ≤ z.length ∧ ∀ c ∈ cd z, 97 ≤ c ∧ c ≤ 122) : 32 ∉ cd z ∧ cd z ≠ [] ∧ cd z ≠ [45] := by
 refine ⟨fun e => by have := h.2.2 32 e; omega, fun e => ?_, fun e => ?_⟩
 · have := h.2.1; rw [len_cd, e] at this; exact absurd this (by decide)
 · have := h.2.2 45 (by rw [e]; simp); omega
theorem join_head : ∀ {ps : List (List Nat)}, (∀ p ∈ ps, 32 ∉ p ∧ p ≠ []) → ∀ c, (joinL [32] ps).head? = some c → c ≠ 32
 | [x], h, c, k => fun e => (h x (by simp)).1 (by rw [← e]; exact List.mem_of_mem_head? k)
 | x :: y :: r, h, c, k => fun e => by
   have hx := h x (by simp)
   have k' : (x ++ [32] ++ joinL [32] (y :: r)).head? = some c := k
   cases x with
   | nil => exact absurd rfl hx.2
   | cons a x =>
     have e2 : a = c := by simpa using k'
     exact hx.1 (by rw [← e, e2]; simp)
theorem join_ne : ∀ {ps : List (List Nat)}, ps ≠ [] → (∀ p ∈ ps, 32 ∉ p ∧ p ≠ []) → joinL [32] ps ≠ []
 | [], h, _ => absurd rfl h
 | [x], _, h => (h x (by simp)).2
 | x :: y :: r, _, h => fun e => by
   have e' : x ++ [32] ++ joinL [32] (y :: r) = [] := e
   simp at e'
theorem join_last : ∀ {ps : List (List Nat)}, (∀ p ∈ ps, 32 ∉ p ∧ p ≠ []) → ∀ c, (joinL [32] ps).getLast? = some c → c ≠ 32
 | [x], h, c, k => fun e => (h x (by simp)).1 (by rw [← e]; exact List.mem_of_getLast? k)
 | x :: y :: r, h, c, k => by
   have k' : (x ++ [32] ++ joinL [32] (y :: r)).getLast? = some c := k
   have hr : ∀ p ∈ y :: r, 32 ∉ p ∧ p ≠ [] := fun p hp => h p (List.mem_cons_of_mem _ hp)
   rw [List.getLast?_append] at k'
   refine join_last hr c ?_
   cases e : (joinL [32] (y :: r)).getLast? with
   | none => exact absurd (List.getLast?_eq_none_iff.mp e) (join_ne (by simp) hr)
   | some d => rw [e] at k'; simpa using k'
theorem joinL_len (sep : List Nat) : ∀ ys : List (List Nat), (joinL sep ys).length ≤ (ys.map List.length).sum + ys.length * sep.length
 | [] => Nat.zero_le _
 | [x] => by show x.length ≤ x.length + 0 + 1 * sep.length; omega
 | x :: y :: r => by
   have := joinL_len sep (y :: r)
   show (x ++ sep ++ joinL sep (y :: r)).length ≤ x.length + ((y :: r).map List.length).sum + ((y :: r).length + 1) * sep.length
   rw [List.length_append, List.length_append, Nat.add_mul]
   omega
theorem sum_le {n : Nat} : ∀ {l : List Str}, (∀ z ∈ l, z.length ≤ n) → (l.map (·.length)).sum ≤ l.length * n
 | [], _ => Nat.zero_le _
 | a :: r, h => by
   have h1 := h a (by simp)
   have h2 := sum_le (l := r) fun z hz => h z (by simp [hz])
   show a.length + (r.map (·.length)).sum ≤ (r.length + 1) * n
   rw [Nat.add_mul]; omega
theorem mem_join {c : Nat} : ∀ {ps : List (List Nat)}, c ∈ joinL [32] ps → c = 32 ∨ ∃ p ∈ ps, c ∈ p
 | [x], h => .inr ⟨x, by simp, h⟩
 | x :: y :: r, h => by
   have h' : c ∈ x ++ [32] ++ joinL [32] (y :: r) := h
   rcases List.mem_append.mp h' with k | k
   · rcases List.mem_append.mp k with k | k
     · exact .inr ⟨x, by simp, k⟩
     · exact .inl (by simpa using k)
   · rcases mem_join k with e | ⟨p, hp, e⟩
     · exact .inl e
     · exact .inr ⟨p, List.mem_cons_of_mem _ hp, e⟩
theorem nm_facts {m : Nat} {ws : List Str} (g : m ≤ 6) (h : fit (.nm m) (.t ws) = true) : stripL (shw (.nm m) (.t ws)) = shw (.nm m) (.t ws) ∧ shw (.nm m) (.t ws) ≠ [] ∧ Fine 200 (S (shw (.nm m) (.t ws))) ∧ N.partsN (shw (.nm m) (.t ws)) = ws.map cd ∧ (ws.map (·.length)).sum + ws.length * 1 ≤ 1000 := by
 obtain ⟨hl, hnd, hw⟩ := fit_t h
 have hw' := fun z hz => name_let (hw z hz)
 have hsum := sum_le (n := 12) fun z hz => (hw' z hz).1
 have hp : ∀ p ∈ ws.map cd, 32 ∉ p ∧ p ≠ [] := fun p hp => by
   obtain ⟨z, hz, rfl⟩ := List.mem_map.mp hp
   have := wd_ne (hw' z hz)
   exact ⟨this.1, this.2.1⟩
 have es : shw (.nm m) (.t ws) = if ws = [] then [45] else joinL [32] (ws.map cd) := rfl
 rw [es]
 by_cases e : ws = []
 · subst e
   rw [if_pos rfl]
   exact ⟨by decide, by decide, ⟨by decide, by rw [cd_S]; decide⟩, rfl, by decide⟩
 · rw [if_neg e]
   have hs : splitL (joinL [32] (ws.map cd)) = ws.map cd := splitL_of (fun e' => e (List.map_eq_nil_iff.mp e')) fun p hp' => (hp p hp').1
   refine ⟨stripL_self (join_head hp) (join_last hp), join_ne (fun e' => e (List.map_eq_nil_iff.mp e')) hp, ⟨?_, fun c hc => ?_⟩, ?_, by omega⟩
   · rw [len_S]
     have h1 := joinL_len [32] (ws.map cd)
     have h2 : ((ws.map cd).map List.length).sum = (ws.map (·.length)).sum := by rw [List.map_map]; rfl
     rw [h2, List.length_map, show ([32] : List Nat).length = 1 from rfl] at h1
     omega
   · rw [cd_S] at hc
     rcases mem_join hc with e' | ⟨p, hp', e'⟩
     · omega
     · obtain ⟨z, hz, rfl⟩ := List.mem_map.mp hp'
       have := (hw' z hz).2.2 c e'; omega
   · unfold N.partsN
     rw [if_neg, hs]
     intro e'
     rw [e', splitL_one (by decide)] at hs
     have : [45] ∈ ws.map cd := by rw [← hs]; simp
     obtain ⟨z, hz, e2⟩ := List.mem_map.mp this
     exact (wd_ne (hw' z hz)).2.2 e2
theorem SS_cd (ws : List Str) : (ws.map cd).map S = ws := by
 rw [List.map_map]
 conv => rhs; rw [← List.map_id ws]
 exact List.map_congr_left fun z _ => S_cd z
theorem bnd {lo hi n : Int} (g : lo ≤ hi ∧ lo.natAbs < 10 ^ 60 ∧ hi.natAbs < 10 ^ 60) (h : (decide (lo ≤ n) && decide (n ≤ hi)) = true) : n.natAbs < 10 ^ 60 := by
 simp only [Bool.and_eq_true, decide_eq_true_iff] at h
 omega
theorem ans_shw {ku : KU} {a : AV} (g : ku.Good) (h : fit ku a = true) : ans ku (shw ku a) = some a := by
 cases ku <;> cases a <;> first | (cases h; done) | skip
 case yn.b x =>
   cases x
   · show (YN.lookup (S (cd "no"))).map AV.b = some (.b false)
     rw [S_cd]; decide +kernel
   · show (YN.lookup (S (cd "yes"))).map AV.b = some (.b true)
     rw [S_cd]; decide +kernel
 case wh.i lo hi n => show (numB (numL n) 60).map AV.i = _; rw [numB_str (bnd g h)]; rfl
 case mo.i lo hi n => show (ansM (monL n)).map AV.i = _; rw [ansM_mon (bnd g h)]; rfl
 case pk.s ws z => show some (AV.s (S (cd z))) = _; rw [S_cd]
 case nm.t m ws =>
   have := (nm_facts g h).2.2.2.1
   show some (AV.t ((N.partsN (shw (.nm m) (.t ws))).map S)) = _
   rw [this, SS_cd]
theorem shw_facts {ku : KU} {a : AV} (g : ku.Good) (h : fit ku a = true) : stripL (shw ku a) = shw ku a ∧ shw ku a ≠ [] ∧ Fine 200 (S (shw ku a)) := by
 cases ku <;> cases a <;> first | (cases h; done) | skip
 case yn.b x =>
   cases x
   · show stripL (cd "no") = cd "no" ∧ cd "no" ≠ [] ∧ Fine 200 (S (cd "no"))
     rw [S_cd]
     exact ⟨by symm, by symm, ⟨by symm, by symm⟩⟩
   · show stripL (cd "yes") = cd "yes" ∧ cd "yes" ≠ [] ∧ Fine 200 (S (cd "yes"))
     rw [S_cd]
     exact ⟨by symm, by symm, ⟨by symm, by symm⟩⟩
 case wh.i lo hi n => exact ⟨numL_strip n, numL_ne n, (fineNum (bnd g h)).mono (by decide)⟩
 case mo.i lo hi n =>
   refine ⟨stripL_self mon_blank.1 mon_blank.2, fun e => ?_, (mon_fine (bnd g h)).mono (by decide)⟩
   have := mon_len n
   have e' : monL n = [] := e
   rw [e'] at this; exact absurd this (by decide)
 case pk.s ws z =>
   have hz : z ∈ ws := of_decide_eq_true h
   have hw := g.1.wd z hz
   have := wd_ne hw
   refine ⟨stripL_no fun c hc e => this.1 (by rw [← e]; exact hc), this.2.1, ?_⟩
   show Fine 200 (S (cd z))
   rw [S_cd]
   exact ⟨by have := hw.1; omega, fun c hc => by have := hw.2.2 c hc; omega⟩
 case nm.t m ws =>
   have := nm_facts g h
   exact ⟨this.1, this.2.1, this.2.2.1⟩
theorem lets_ok : ∀ i : Nat, i < 7 → N.unlikeB ((lets.take i).map V.str) = true ∧ (lets.take i).length = i := by symm
theorem smp_fit {ku : KU} {r : Int} (g : ku.Good) (h1 : ku.low ≤ r) (h2 : r ≤ ku.high) : fit ku (smp ku r) = true ∧ rnk ku (smp ku r) = r := by
 cases ku with
 | yn =>
   have h1' : 0 ≤ r := h1
   have h2' : r ≤ 1 := h2
   refine ⟨rfl, ?_⟩
   show (if decide (r = 1) = true then (1 : Int) else 0) = r
   by_cases e : r = 1
   · rw [if_pos (decide_eq_true e)]; exact e.symm
   · rw [if_neg (fun z => e (of_decide_eq_true z))]; omega
 | wh lo hi =>
   have h1' : lo ≤ r := h1
   have h2' : r ≤ hi := h2
   refine ⟨?_, rfl⟩
   show (decide (lo ≤ r) && decide (r ≤ hi)) = true
   rw [decide_eq_true h1', decide_eq_true h2']; rfl
 | mo lo hi =>
   have h1' : lo ≤ r := h1
   have h2' : r ≤ hi := h2
   refine ⟨?_, rfl⟩
   show (decide (lo ≤ r) && decide (r ≤ hi)) = true
   rw [decide_eq_true h1', decide_eq_true h2']; rfl
 | pk ws =>
   have h1' : 0 ≤ r := h1
   have h2' : r ≤ (ws.length : Int) - 1 := h2
   have hr : r.toNat < ws.length := by omega
   have e : (ws[r.toNat]?).getD "" = ws[r.toNat] := by rw [List.getElem?_eq_getElem hr]; rfl
   refine ⟨?_, ?_⟩
   · show decide ((ws[r.toNat]?).getD "" ∈ ws) = true
     rw [e]; exact decide_eq_true (List.getElem_mem hr)
   · show ((ws.idxOf ((ws[r.toNat]?).getD "") : Nat) : Int) = r
     rw [e, g.1.nd.idxOf_getElem]; omega
 | nm m =>
   have g' : m ≤ 6 := g
   have h1' : 0 ≤ r := h1
   have h2' : r ≤ (m : Nat) := h2
   have := lets_ok r.toNat (by omega)
   refine ⟨?_, ?_⟩
   · show (decide (((lets.take r.toNat).length : Int) ≤ (m : Nat)) && N.unlikeB ((lets.take r.toNat).map V.str)) = true
     rw [this.1, this.2, decide_eq_true (by omega)]; rfl
   · show (((lets.take r.toNat).length : Nat) : Int) = r
     rw [this.2]; omega
end K07
set_option maxHeartbeats 4000000
namespace K07
open PySem L2
seal PE PT PW PA PS PSs PG PGs PI PO PSet OpR UnR CallR TruR IxR SlR PC PPs
local macro_rules | `(tactic| walk_at "rd1") => `(tactic| first
 | (refine And.intro rfl ?_)
 | (refine And.intro (by assumption) ?_)
 | (refine And.intro (fun _ e => e) ?_)
 | (refine And.intro (TyOf.str _) ?_) | (refine And.intro (TyOf.int _) ?_) | (refine And.intro (TyOf.bl _) ?_) | (refine And.intro TyOf.non ?_)
 | (refine iteT ?_) | (refine iteF ?_)
 | (apply Exists.intro))
local macro_rules | `(tactic| walk_at "rd") => `(tactic| repeat (walk_at "rd1"))
abbrev fP (n : Nat) (pw : Addr) : List (Str × V) := [("low", .int 0), ("high", .int ((n : Int) - 1)), ("words", .ref pw)]
def cls (A : Adr) : KU → Addr
 | .yn => A.c_YesNo
 | .wh _ _ => A.c_Whole
 | .mo _ _ => A.c_Money
 | .pk _ => A.c_Pick
 | .nm _ => A.c_Names
def fl (H : Hp) (fs : List (Str × V)) : KU → Prop
 | .pk ws => ∃ pw, fs = fP ws.length pw ∧ H pw = some (.lst (ws.map V.str))
 | .yn => fs = flds 0 1
 | .wh lo hi => fs = flds lo hi
 | .mo lo hi => fs = flds lo hi
 | .nm m => fs = flds 0 (m : Nat)
def st (A : Adr) (ku : KU) (H : Hp) (p : Addr) : Prop := ∃ dx fs, H p = some (.ins (cls A ku) dx fs) ∧ fl H fs ku
theorem fl.same {H H' : Hp} {fs : List (Str × V)} {ku : KU} (e : Same H H') (h : fl H fs ku) : fl H' fs ku := by
 cases ku with
 | pk ws => obtain ⟨pw, h1, h2⟩ := h; exact ⟨pw, h1, e _ _ h2⟩
 | yn => exact h
 | wh lo hi => exact h
 | mo lo hi => exact h
 | nm m => exact h
theorem st.same {A : Adr} {ku : KU} {H H' : Hp} {p : Addr} (e : Same H H') (h : st A ku H p) : st A ku H' p := by
 obtain ⟨dx, fs, h1, h2⟩ := h
 exact ⟨dx, fs, e _ _ h1, h2.same e⟩
def ms : List Str := ["fits", "answer_of", "read", "shown", "rank", "sample"]
theorem lk03 {f a b c : Str} {v w u : V} (h1 : (f == a) = false) (h2 : (f == b) = false) (h3 : (f == c) = false) : ([(a, v), (b, w), (c, u)] : List (Str × V)).lookup f = none := by
 rw [List.lookup_cons, h1, List.lookup_cons, h2, List.lookup_cons, h3]; rfl
theorem lkn {f : Str} {lo hi : Int} (h1 : (f == ("low" : Str)) = false) (h2 : (f == ("high" : Str)) = false) : (flds lo hi).lookup f = none := lk0 h1 h2
theorem lkp {f : Str} {n : Nat} {pw : Addr} (h1 : (f == ("low" : Str)) = false) (h2 : (f == ("high" : Str)) = false) (h3 : (f == ("words" : Str)) = false) : (fP n pw).lookup f = none := lk03 h1 h2 h3
theorem flds_no {lo hi : Int} {m : Str} (hm : m ∈ ms) : (flds lo hi).lookup m = none := by
 simp only [ms, List.mem_cons, List.not_mem_nil, or_false] at hm
 rcases hm with e | e | e | e | e | e
 · subst e; exact lkn (by symm) (by symm)
 · subst e; exact lkn (by symm) (by symm)
 · subst e; exact lkn (by symm) (by symm)
 · subst e; exact lkn (by symm) (by symm)
 · subst e; exact lkn (by symm) (by symm)
 · subst e; exact lkn (by symm) (by symm)
theorem fl.no {H : Hp} {fs : List (Str × V)} {ku : KU} {m : Str} (h : fl H fs ku) (hm : m ∈ ms) : fs.lookup m = none := by
 cases ku with
 | pk ws =>
   obtain ⟨pw, rfl, _⟩ := h
   simp only [ms, List.mem_cons, List.not_mem_nil, or_false] at hm
   rcases hm with e | e | e | e | e | e
   · subst e; exact lkp (by symm) (by symm) (by symm)
   · subst e; exact lkp (by symm) (by symm) (by symm)
   · subst e; exact lkp (by symm) (by symm) (by symm)
   · subst e; exact lkp (by symm) (by symm) (by symm)
   · subst e; exact lkp (by symm) (by symm) (by symm)
   · subst e; exact lkp (by symm) (by symm) (by symm)
 | yn => have h : fs = flds 0 1 := h; rw [h]; exact flds_no hm
 | wh lo hi => have h : fs = flds lo hi := h; rw [h]; exact flds_no hm
 | mo lo hi => have h : fs = flds lo hi := h; rw [h]; exact flds_no hm
 | nm m => have h : fs = flds 0 (m : Nat) := h; rw [h]; exact flds_no hm
theorem fl.low {H : Hp} {fs : List (Str × V)} {ku : KU} (h : fl H fs ku) : fs.lookup ("low" : Str) = some (.int ku.low) := by
 cases ku with
 | pk ws => obtain ⟨pw, rfl, _⟩ := h; exact lk1
 | yn => have h : fs = flds 0 1 := h; rw [h]; exact lk1
 | wh lo hi => have h : fs = flds lo hi := h; rw [h]; exact lk1
 | mo lo hi => have h : fs = flds lo hi := h; rw [h]; exact lk1
 | nm m => have h : fs = flds 0 (m : Nat) := h; rw [h]; exact lk1
theorem fl.high {H : Hp} {fs : List (Str × V)} {ku : KU} (h : fl H fs ku) : fs.lookup ("high" : Str) = some (.int ku.high) := by
 cases ku with
 | pk ws => obtain ⟨pw, rfl, _⟩ := h; exact lk2 nlo
 | yn => have h : fs = flds 0 1 := h; rw [h]; exact lk2 nlo
 | wh lo hi => have h : fs = flds lo hi := h; rw [h]; exact lk2 nlo
 | mo lo hi => have h : fs = flds lo hi := h; rw [h]; exact lk2 nlo
 | nm m => have h : fs = flds 0 (m : Nat) := h; rw [h]; exact lk2 nlo
def AR (K : W.Frag) (H : Hp) : AV → V → Prop
 | .b x, v => v = .bl x
 | .i n, v => v = .int n
 | .s z, v => v = .str z
 | .t ws, v => ∃ p, v = .ref p ∧ SqT K H p (ws.map V.str)
theorem AR.same {K : W.Frag} {H H' : Hp} {a : AV} {v : V} (e : Same H H') (h : AR K H a v) : AR K H' a v := by
 cases a with
 | b x => exact h
 | i x => exact h
 | s x => exact h
 | t ws => obtain ⟨p, h1, h2⟩ := h; exact ⟨p, h1, e.seqT h2⟩
def OR (K : W.Frag) (H : Hp) : Option AV → V → Prop
 | none, v => v = .non
 | some a, v => AR K H a v
def Sm : AV → Prop
 | .t ws => ws.length ≤ 1000 ∧ ∀ z ∈ ws, Fine 900 z
 | _ => True
def tyok : KU → AV → Prop
 | .yn, .b _ => True
 | .wh _ _, .i _ => True
 | .mo _ _, .i _ => True
 | .pk _, .s _ => True
 | .nm _, .t _ => True
 | _, _ => False
theorem fit_ty {ku : KU} {a : AV} (h : fit ku a = true) : tyok ku a := by
 cases ku <;> cases a <;> first | trivial | (cases h; done)
theorem ans_ty {ku : KU} {a : AV} {l : List Nat} (h : ans ku l = some a) : tyok ku a := by
 cases ku with
 | yn =>
   have h' : (YN.lookup (S l)).map AV.b = some a := h
   cases e : YN.lookup (S l) with
   | none => rw [e] at h'; cases h'
   | some n => rw [e] at h'; cases h'; trivial
 | wh lo hi =>
   have h' : (numB l 60).map AV.i = some a := h
   cases e : numB l 60 with
   | none => rw [e] at h'; cases h'
   | some n => rw [e] at h'; cases h'; trivial
 | mo lo hi =>
   have h' : (ansM l).map AV.i = some a := h
   cases e : ansM l with
   | none => rw [e] at h'; cases h'
   | some n => rw [e] at h'; cases h'; trivial
 | pk ws => cases h; trivial
 | nm m => cases h; trivial
theorem ans_sm {ku : KU} {a : AV} {l : List Nat} (hl : Fine 800 (S l)) (h : ans ku l = some a) : Sm a := by
 have ty := ans_ty h
 cases ku <;> cases a <;> first | trivial | (cases ty; done) | skip
 cases h
 refine ⟨?_, fun z hz => ?_⟩
 · rw [List.length_map]
   have := N.parts_len l
   have := hl.len
   rw [len_S] at this
   omega
 · obtain ⟨q, hq, rfl⟩ := List.mem_map.mp hz
   exact (N.parts_fine hl hq).mono (by decide)
theorem fit_sm {ku : KU} {a : AV} (g : ku.Good) (h : fit ku a = true) : Sm a := by
 have ty := fit_ty h
 cases ku <;> cases a <;> first | trivial | (cases ty; done) | skip
 case nm.t m ws =>
   obtain ⟨h1, h2, h3⟩ := fit_t h
   have g' : m ≤ 6 := g
   refine ⟨by omega, fun z hz => ?_⟩
   have := name_let (h3 z hz)
   exact ⟨by omega, fun c hc => by have := this.2.2 c hc; omega⟩
def fitO (ku : KU) : Option AV → Bool
 | none => false
 | some a => fit ku a
theorem ord_b {a : AV} (h : fit .yn a = true) : ∃ x, a = .b x := by
 cases a with
 | b x => exact ⟨x, rfl⟩
 | i x => cases h
 | s x => cases h
 | t x => cases h
theorem ord_s {a : AV} {ws : List Str} (h : fit (.pk ws) a = true) : ∃ x, a = .s x := by
 cases a with
 | s x => exact ⟨x, rfl⟩
 | i x => cases h
 | b x => cases h
 | t x => cases h
def uFits (K : W.Frag) (A : Adr) (ku : KU) : Sp := fun vs H Q _ => ∃ p x o, vs = [.ref p, x] ∧ st A ku H p ∧ OR K H o x ∧ (∀ a, o = some a → tyok ku a ∧ Sm a) ∧ ∀ H', Same H H' → Q (.bl (fitO ku o)) H'
def uAns (K : W.Frag) (A : Adr) (ku : KU) : Sp := fun vs H Q _ => ∃ p z, vs = [.ref p, .str z] ∧ st A ku H p ∧ Fine 800 z ∧ ∀ x H', Same H H' → OR K H' (ans ku (cd z)) x → Q x H'
def uShown (K : W.Frag) (A : Adr) (ku : KU) : Sp := fun vs H Q _ => ∃ p x a, vs = [.ref p, x] ∧ st A ku H p ∧ AR K H a x ∧ fit ku a = true ∧ ∀ H', Same H H' → Q (.str (S (shw ku a))) H'
def uRank (K : W.Frag) (A : Adr) (ku : KU) : Sp := fun vs H Q _ => ∃ p x a, vs = [.ref p, x] ∧ st A ku H p ∧ AR K H a x ∧ fit ku a = true ∧ ∀ H', Same H H' → Q (.int (rnk ku a)) H'
def uSample (K : W.Frag) (A : Adr) (ku : KU) : Sp := fun vs H Q _ => ∃ p r, vs = [.ref p, .int r] ∧ st A ku H p ∧ ku.low ≤ r ∧ r ≤ ku.high ∧ ∀ x H', Same H H' → AR K H' (smp ku r) x → Q x H'
def uRead (K : W.Frag) (A : Adr) (ku : KU) : Sp := fun vs H Q E => ∃ p z, vs = [.ref p, .str z] ∧ st A ku H p ∧ Fine 800 z ∧
 (∀ a, ans ku (stripL (cd z)) = some a → fit ku a = true → ∀ x H', Same H H' → AR K H' a x → Q x H') ∧ (fitO ku (ans ku (stripL (cd z))) = false → ∀ H', Same H H' → E (.ref A.c_NoAnswer) none H')
theorem FnOk.imp {P : Program} {w : World} {K : W.Frag} {mg : Str → Option Value} {base : Heap} {CX : CXT} {k : Nat} {f : Addr} {fd : FuncData} {ps : List Str} {sp sp' : Sp} (F : FnOk P w K mg base CX k f fd ps sp) (h : ∀ vs H Q E, sp' vs H Q E → sp vs H Q E) : FnOk P w K mg base CX k f fd ps sp' :=
 ⟨fun vs H Q E q => F.len vs H Q E (h _ _ _ _ q), fun A outer s H args us vs Q E hr he hb hv hs => F.run A outer s H args us vs Q E hr he hb hv (h _ _ _ _ hs)⟩
theorem FnOkP.imp {P : Program} {w : World} {K : W.Frag} {mg : Str → Option Value} {base : Heap} {CX : CXT} {k : Nat} {f : Addr} {fd : FuncData} {ps : List Str} {sp sp' : Sp} (F : FnOkP P w K mg base CX k f fd ps sp) (h : ∀ vs H Q E, sp' vs H Q E → sp vs H Q E) : FnOkP P w K mg base CX k f fd ps sp' :=
 ⟨fun vs H Q E q => F.len vs H Q E (h _ _ _ _ q), fun A outer s H args us vs Q E hr he hn hb hv hs => F.run A outer s H args us vs Q E hr he hn hb hv (h _ _ _ _ hs)⟩
theorem FnOk.toP {P : Program} {w : World} {K : W.Frag} {mg : Str → Option Value} {base : Heap} {CX : CXT} {k : Nat} {f : Addr} {fd : FuncData} {ps : List Str} {sp : Sp} (F : FnOk P w K mg base CX k f fd ps sp) : FnOkP P w K mg base CX k f fd ps sp :=
 ⟨F.len, fun A outer s H args us vs Q E hr he _ hb hv hs => F.run A outer s H args us vs Q E hr he hb hv hs⟩
theorem flat_strs (ws : List Str) : (ws.map V.str).all flatV = true := by rw [List.all_map, List.all_eq_true]; intro _ _; rfl
theorem inV_strs (z : Str) (ws : List Str) : inV (.str z) (ws.map V.str) = decide (z ∈ ws) := by
 unfold inV
 rw [List.any_map, Bool.eq_iff_iff, List.any_eq_true, decide_eq_true_iff]
 constructor
 · rintro ⟨y, hy, e⟩
   have : y = z := eq_of_beq e
   rw [← this]; exact hy
 · intro h; exact ⟨z, h, by show (z == z) = true; exact beq_self_eq_true z⟩
theorem lkW {n : Nat} {pw : Addr} : (fP n pw).lookup ("words" : Str) = some (V.ref pw) := by
 rw [List.lookup_cons, show (("words" : Str) == "low") = false by symm, List.lookup_cons, show (("words" : Str) == "high") = false by symm]; exact lk1
theorem idx_nodup {ws : List Str} (hd : ws.Nodup) {j : Nat} {x : V} (h : (ws.map V.str)[j]? = some x) : IdxOf x (ws.map V.str) j := by
 refine ⟨x, h, ?_, fun m z hm hz => ?_⟩
 · obtain ⟨y, _, rfl⟩ := map_get h
   exact eqV_self rfl
 · obtain ⟨y, hy, rfl⟩ := map_get h
   obtain ⟨y', hy', rfl⟩ := map_get hz
   show (y' == y) = false
   rw [beq_eq_false_iff_ne]
   intro e
   subst e
   obtain ⟨l1, e1⟩ := List.getElem?_eq_some_iff.mp hy
   obtain ⟨l2, e2⟩ := List.getElem?_eq_some_iff.mp hy'
   exact (List.pairwise_iff_getElem.mp hd) m j l2 l1 hm (e2.trans e1.symm)
theorem put_words (v w u : V) : putF "words" u [(("low" : Str), v), (("high" : Str), w)] = [(("low" : Str), v), (("high" : Str), w), (("words" : Str), u)] := by
 unfold putF
 rw [if_neg (by symm)]
 unfold putF
 rw [if_neg (by symm)]
 rfl
section
variable {P : Program} {w : World} {K : W.Frag} {mg : Str → Option Value} {base : Heap} {A : Adr}
theorem ok_yfits (T : Txt K mg A) : FnOk P w K mg base CX0 1 A.f_c_YesNo_fits A.d_c_YesNo_fits ["self", "thing"] (uFits K A .yn) := by
 refine T.F_c_YesNo_fits.ok sc_c_YesNo_fits (fun vs H Q E h => ?_) (fun cdv A0 outer s H vs Q E hr h => ?_)
 · obtain ⟨p, x, _, rfl, _⟩ := h
   rfl
 obtain ⟨p, x, o, rfl, hp, ho, ht, q⟩ := h
 refine ⟨_, (zC (zH (zI call_isi (by rfl) T.n_isinstance Bt.isinstance (zA (pv 1) (zA (pe_bltn (v := .ty "bool") rfl T.n_bool Bt.bool rfl) zB))))), ?_⟩
 have q := q H (Same.refl _)
 match o, ho, ht, q with
 | none, ho, _, q => cases ho; exact ⟨_, rfl, _, _, _, _, rfl, rfl, .old .non, T.i_NoneType_bool, q⟩
 | some (.b y), ho, _, q => cases ho; exact ⟨_, rfl, _, _, _, _, rfl, rfl, .old (.bl y), T.i_bool_bool, q⟩
 | some (.i _), _, ht, _ => exact False.elim (ht _ rfl).1
 | some (.s _), _, ht, _ => exact False.elim (ht _ rfl).1
 | some (.t _), _, ht, _ => exact False.elim (ht _ rfl).1
theorem ok_yans (T : Txt K mg A) : FnOk P w K mg base CX0 1 A.f_c_YesNo_answer_of A.d_c_YesNo_answer_of ["self", "text"] (uAns K A .yn) := by
 refine T.F_c_YesNo_answer_of.ok sc_c_YesNo_answer_of (fun vs H Q E h => ?_) (fun cdv A0 outer s H vs Q E hr h => ?_)
 · obtain ⟨p, z, rfl, _⟩ := h
   rfl
 obtain ⟨p, z, rfl, hp, hz, q⟩ := h
 refine ⟨_, (zC (zH (pe_gget rfl T.m_WRITTEN_TRUTHS T.t_WRITTEN_TRUTHS (pv 1) ⟨rfl, rfl, rfl, rfl⟩))), ?_⟩
 refine ⟨_, rfl, z, rfl, ?_⟩
 refine q _ H (Same.refl _) ?_
 show OR K H ((YN.lookup (S (cd z))).map AV.b) (lookB YN z)
 rw [S_cd]
 unfold lookB
 cases YN.lookup z with
 | none => rfl
 | some b => rfl
theorem ok_yshown (T : Txt K mg A) : FnOk P w K mg base CX0 1 A.f_c_YesNo_shown A.d_c_YesNo_shown ["self", "answer"] (uShown K A .yn) := by
 refine T.F_c_YesNo_shown.ok sc_c_YesNo_shown (fun vs H Q E h => ?_) (fun cdv A0 outer s H vs Q E hr h => ?_)
 · obtain ⟨p, x, a, rfl, _⟩ := h
   rfl
 obtain ⟨p, x, a, rfl, hp, ha, hf, q⟩ := h
 refine ⟨_, (zC (zH (pe_ifExp (pt_val (pv 1)) zG zG))), ?_⟩
 have q := q H (Same.refl _)
 obtain ⟨b, rfl⟩ := ord_b hf
 cases ha
 cases b with
 | true =>
   have q : Q (.str (S (cd "yes"))) H := q
   rw [S_cd] at q
   exact ⟨_, rfl, _, rfl, iteT q⟩
 | false =>
   have q : Q (.str (S (cd "no"))) H := q
   rw [S_cd] at q
   exact ⟨_, rfl, _, rfl, iteF q⟩
theorem ok_yrank (T : Txt K mg A) : FnOk P w K mg base CX0 1 A.f_c_YesNo_rank A.d_c_YesNo_rank ["self", "answer"] (uRank K A .yn) := by
 refine T.F_c_YesNo_rank.ok sc_c_YesNo_rank (fun vs H Q E h => ?_) (fun cdv A0 outer s H vs Q E hr h => ?_)
 · obtain ⟨p, x, a, rfl, _⟩ := h
   rfl
 obtain ⟨p, x, a, rfl, hp, ha, hf, q⟩ := h
 refine ⟨_, (zC (zH (pe_ifExp (pt_val (pv 1)) zD zD))), ?_⟩
 have q := q H (Same.refl _)
 obtain ⟨b, rfl⟩ := ord_b hf
 cases ha
 cases b with
 | true => exact ⟨_, rfl, _, rfl, iteT q⟩
 | false => exact ⟨_, rfl, _, rfl, iteF q⟩
theorem ok_ysample (T : Txt K mg A) : FnOk P w K mg base CX0 1 A.f_c_YesNo_sample A.d_c_YesNo_sample ["self", "rank"] (uSample K A .yn) := by
 refine T.F_c_YesNo_sample.ok sc_c_YesNo_sample (fun vs H Q E h => ?_) (fun cdv A0 outer s H vs Q E hr h => ?_)
 · obtain ⟨p, r, rfl, _⟩ := h
   rfl
 obtain ⟨p, r, rfl, hp, h1, h2, q⟩ := h
 refine ⟨_, (zC (zH (pe_cmpR op_eq (pv 1) zD (nomark _)))), ?_⟩
 refine ⟨_, rfl, rfl, q _ H (Same.refl _) ?_⟩
 show V.bl (decide (V.int r = V.int 1)) = V.bl (decide (r = 1))
 congr 1
 rw [decide_eq_decide]
 exact ⟨fun e => V.int.inj e, fun e => congrArg V.int e⟩
theorem ok_pfits (T : Txt K mg A) (ws : List Str) : FnOk P w K mg base CX0 1 A.f_c_Pick_fits A.d_c_Pick_fits ["self", "thing"] (uFits K A (.pk ws)) := by
 refine T.F_c_Pick_fits.ok sc_c_Pick_fits (fun vs H Q E h => ?_) (fun cdv A0 outer s H vs Q E hr h => ?_)
 · obtain ⟨p, x, _, rfl, _⟩ := h
   rfl
 obtain ⟨p, x, o, rfl, ⟨dx, fs, hp, pw, rfl, hw⟩, ho, ht, q⟩ := h
 refine ⟨_, (zC (zH (pe_and (zI call_isi (by rfl) T.n_isinstance Bt.isinstance (zA (pv 1) (zA (pe_bltn (v := .ty "str") rfl T.n_str Bt.str rfl) zB))) (pe_one (pe_cmpR op_in_seq (pv 1) (pe_fld (pv 0) rfl) (by rfl)))))), ?_⟩
 have q := q H (Same.refl _)
 match o, ho, ht, q with
 | none, ho, _, q => cases ho; exact ⟨_, rfl, _, _, _, _, rfl, rfl, .old .non, T.i_NoneType_str, _, rfl, iteF q⟩
 | some (.s z), ho, _, q =>
   cases ho
   refine ⟨_, rfl, _, _, _, _, rfl, rfl, .old (.str z), T.i_str_str, _, rfl, iteT ⟨_, rfl, _, rfl, p, A.c_Pick, dx, _, _, rfl, hp, T.cl_Pick, T.no_Pick_words, lkW, pw, _, rfl, .inl (SqL.of hw), rfl, flat_strs ws, ?_⟩⟩
   show Q (.bl (inV (.str z) (ws.map V.str))) H
   rw [inV_strs]
   exact q
 | some (.b _), _, ht, _ => exact False.elim (ht _ rfl).1
 | some (.i _), _, ht, _ => exact False.elim (ht _ rfl).1
 | some (.t _), _, ht, _ => exact False.elim (ht _ rfl).1
theorem ok_pans (T : Txt K mg A) (ws : List Str) : FnOk P w K mg base CX0 1 A.f_c_Pick_answer_of A.d_c_Pick_answer_of ["self", "text"] (uAns K A (.pk ws)) := by
 refine T.F_c_Pick_answer_of.ok sc_c_Pick_answer_of (fun vs H Q E h => ?_) (fun cdv A0 outer s H vs Q E hr h => ?_)
 · obtain ⟨p, z, rfl, _⟩ := h
   rfl
 obtain ⟨p, z, rfl, hp, hz, q⟩ := h
 refine ⟨_, (zC (zH (pv 1))), ?_⟩
 exact ⟨_, rfl, q _ H (Same.refl _) (congrArg V.str (S_cd z).symm)⟩
theorem ok_pshown (T : Txt K mg A) (ws : List Str) : FnOk P w K mg base CX0 1 A.f_c_Pick_shown A.d_c_Pick_shown ["self", "answer"] (uShown K A (.pk ws)) := by
 refine T.F_c_Pick_shown.ok sc_c_Pick_shown (fun vs H Q E h => ?_) (fun cdv A0 outer s H vs Q E hr h => ?_)
 · obtain ⟨p, x, a, rfl, _⟩ := h
   rfl
 obtain ⟨p, x, a, rfl, hp, ha, hf, q⟩ := h
 refine ⟨_, (zC (zH (pv 1))), ?_⟩
 have q := q H (Same.refl _)
 obtain ⟨z, rfl⟩ := ord_s hf
 cases ha
 · have q : Q (.str (S (cd z))) H := q
   rw [S_cd] at q
   exact ⟨_, rfl, q⟩
theorem idx_get {ws : List Str} {z : Str} (hz : z ∈ ws) : (ws.map V.str)[ws.idxOf z]? = some (.str z) := by
 have hl := List.idxOf_lt_length_of_mem hz
 rw [List.getElem?_map, List.getElem?_eq_getElem hl, List.getElem_idxOf]
 rfl
theorem ok_prank (T : Txt K mg A) (ws : List Str) (hd : ws.Nodup) : FnOk P w K mg base CX0 1 A.f_c_Pick_rank A.d_c_Pick_rank ["self", "answer"] (uRank K A (.pk ws)) := by
 refine T.F_c_Pick_rank.ok sc_c_Pick_rank (fun vs H Q E h => ?_) (fun cdv A0 outer s H vs Q E hr h => ?_)
 · obtain ⟨p, x, a, rfl, _⟩ := h
   rfl
 obtain ⟨p, x, a, rfl, ⟨dx, fs, hp, pw, rfl, hw⟩, ha, hf, q⟩ := h
 refine ⟨_, (zC (zH (pe_bm PySem.F.plainAttrs_list PySem.F.slot_list_index PySem.F.type_list_index mt_lindex (pe_fld (pv 0) rfl) (zA (pv 1) zB)))), ?_⟩
 have q := q H (Same.refl _)
 obtain ⟨z, rfl⟩ := ord_s hf
 cases ha
 · have hx := idx_get (of_decide_eq_true (show decide (z ∈ ws) = true from hf))
   exact ⟨_, rfl, p, A.c_Pick, dx, _, _, rfl, hp, T.cl_Pick, T.no_Pick_words, lkW, Or.inl ⟨rfl, _, SqL.of hw⟩, _, rfl, pw, _, _, _, rfl, rfl, SqL.of hw, flat_strs ws, rfl, idx_nodup hd hx, q⟩
theorem ok_psample (T : Txt K mg A) (ws : List Str) : FnOk P w K mg base CX0 1 A.f_c_Pick_sample A.d_c_Pick_sample ["self", "rank"] (uSample K A (.pk ws)) := by
 refine T.F_c_Pick_sample.ok sc_c_Pick_sample (fun vs H Q E h => ?_) (fun cdv A0 outer s H vs Q E hr h => ?_)
 · obtain ⟨p, r, rfl, _⟩ := h
   rfl
 obtain ⟨p, r, rfl, ⟨dx, fs, hp, pw, rfl, hw⟩, h1, h2, q⟩ := h
 refine ⟨_, (zC (zH (pe_ix ix_list (pe_fld (pv 0) rfl) (pv 1) (fun _ _ => rfl)))), ?_⟩
 have h1' : 0 ≤ r := h1
 have h2' : r ≤ (ws.length : Int) - 1 := h2
 have hr : r.toNat < ws.length := by omega
 obtain ⟨v, hv, hv2⟩ := at_some (l := ws.map V.str) h1' (by rw [List.length_map]; omega)
 obtain ⟨z, hz, rfl⟩ := map_get hv2
 refine ⟨_, rfl, p, A.c_Pick, dx, _, _, rfl, hp, T.cl_Pick, T.no_Pick_words, lkW, _, rfl, pw, _, _, _, rfl, rfl, SqL.of hw, hv, q _ H (Same.refl _) ?_⟩
 show V.str z = V.str ((ws[r.toNat]?).getD "")
 rw [hz]; rfl
end
end K07
set_option maxHeartbeats 4000000
namespace K07
open PySem L2
seal PE PT PW PA PS PSs PG PGs PI PO PSet OpR UnR CallR TruR IxR SlR PC PPs
local macro_rules | `(tactic| walk_at "rd1") => `(tactic| first
 | (refine And.intro rfl ?_)
 | (refine And.intro (by assumption) ?_)
 | (refine And.intro (fun _ e => e) ?_)
 | (refine And.intro (TyOf.str _) ?_) | (refine And.intro (TyOf.int _) ?_) | (refine And.intro (TyOf.bl _) ?_) | (refine And.intro TyOf.non ?_)
 | (refine iteT ?_) | (refine iteF ?_)
 | (apply Exists.intro))
local macro_rules | `(tactic| walk_at "rd") => `(tactic| repeat (walk_at "rd1"))
theorem ord_m {lo hi : Int} {o : Option AV} (h : ∀ a, o = some a → tyok (.wh lo hi) a ∧ Sm a) : o = none ∨ ∃ n, o = some (.i n) := by
 match o, h with
 | none, _ => exact .inl rfl
 | some (.i n), _ => exact .inr ⟨n, rfl⟩
 | some (.b _), h => exact False.elim (h _ rfl).1
 | some (.s _), h => exact False.elim (h _ rfl).1
 | some (.t _), h => exact False.elim (h _ rfl).1
theorem ord_i {a : AV} {lo hi : Int} (h : fit (.wh lo hi) a = true) : ∃ n, a = .i n := by
 cases a <;> first | exact ⟨_, rfl⟩ | (cases h; done)
theorem ord_t {a : AV} {m : Nat} (h : fit (.nm m) a = true) : ∃ ws, a = .t ws := by
 cases a <;> first | exact ⟨_, rfl⟩ | (cases h; done)
theorem nm_shown (ws : List Str) (m : Nat) : (if ws.length > 0 then joinS " " ws else "-") = S (shw (.nm m) (.t ws)) := by
 show _ = S (if ws = [] then [45] else joinL [32] (ws.map cd))
 cases ws with
 | nil => rw [if_neg (by decide), if_pos rfl]; decide +kernel
 | cons a r => rw [if_pos (by simp), if_neg (by simp), joinS_is, show cd (" " : Str) = [32] by symm]
theorem cut_lets {r : Int} (h1 : 0 ≤ r) (h2 : r ≤ 6) : cutV N.smp none (some r) = (lets.take r.toNat).map V.str := by
 unfold cutV
 have e1 : HT.sIx N.smp.length 0 none = 0 := rfl
 have e2 : HT.sIx N.smp.length N.smp.length (some r) = r.toNat := by
   show (if r < 0 then (r + N.smp.length).toNat else min r.toNat N.smp.length) = _
   rw [if_neg (by omega)]
   show min r.toNat 6 = _
   omega
 rw [e1, e2, List.drop_zero, Nat.sub_zero, List.map_take]
 rfl
section
variable {P : Program} {w : World} {K : W.Frag} {mg : Str → Option Value} {base : Heap} {A : Adr}
structure KM (P : Program) (w : World) (K : W.Frag) (mg : Str → Option Value) (base : Heap) (A : Adr) (ku : KU) where
 cl : Cls K (cls A ku)
 n1 : NoAttr K (cls A ku) "low"
 n2 : NoAttr K (cls A ku) "high"
 Jf : MethJ P w K mg base CX0 4 (cls A ku) "fits"
 ef : Jf.sp = uFits K A ku
 df : Jf.dvs = []
 Ja : MethJP P w K mg base CX0 4 (cls A ku) "answer_of"
 ea : Ja.sp = uAns K A ku
 da : Ja.dvs = []
 Js : MethJ P w K mg base CX0 4 (cls A ku) "shown"
 es : Js.sp = uShown K A ku
 ds : Js.dvs = []
 Jk : MethJ P w K mg base CX0 4 (cls A ku) "rank"
 ek : Jk.sp = uRank K A ku
 dk : Jk.dvs = []
 Jp : MethJ P w K mg base CX0 4 (cls A ku) "sample"
 ep : Jp.sp = uSample K A ku
 dp : Jp.dvs = []
theorem wfits_ok (T : Txt K mg A) (lo hi : Int) : FnOk P w K mg base CX0 2 A.f_c_Whole_fits A.d_c_Whole_fits ["self", "thing"] (uFits K A (.wh lo hi)) := by
 refine (ok_fits T T.cl_Whole T.no_Whole_low T.no_Whole_high).imp fun vs H Q E h => ?_
 obtain ⟨p, x, o, rfl, ⟨dx, fs, hp, hf⟩, ho, ht, q⟩ := h
 have hf : fs = flds lo hi := hf
 subst hf
 have q := q H (Same.refl _)
 rcases ord_m ht with e | ⟨n, e⟩ <;> subst e <;> cases ho
 · exact ⟨p, dx, lo, hi, _, thNon T H, rfl, hp, q⟩
 · exact ⟨p, dx, lo, hi, _, thInt T H n, rfl, hp, q⟩
theorem mfits_ok (T : Txt K mg A) (lo hi : Int) : FnOk P w K mg base CX0 2 A.f_c_Whole_fits A.d_c_Whole_fits ["self", "thing"] (uFits K A (.mo lo hi)) := by
 refine (ok_fits T T.cl_Money T.no_Money_low T.no_Money_high).imp fun vs H Q E h => ?_
 obtain ⟨p, x, o, rfl, ⟨dx, fs, hp, hf⟩, ho, ht, q⟩ := h
 have hf : fs = flds lo hi := hf
 subst hf
 have q := q H (Same.refl _)
 rcases ord_m (lo := lo) (hi := hi) (fun a e => ⟨by have := (ht a e).1; cases a <;> exact this, (ht a e).2⟩) with e | ⟨n, e⟩ <;> subst e <;> cases ho
 · exact ⟨p, dx, lo, hi, _, thNon T H, rfl, hp, q⟩
 · exact ⟨p, dx, lo, hi, _, thInt T H n, rfl, hp, q⟩
theorem or_num {H : Hp} (o : Option Int) : OR K H (o.map AV.i) (numV o) := by cases o <;> rfl
theorem wans_ok (T : Txt K mg A) (lo hi : Int) : FnOk P w K mg base CX0 4 A.f_c_Whole_answer_of A.d_c_Whole_answer_of ["self", "text"] (uAns K A (.wh lo hi)) := by
 refine (ok_wans T).imp fun vs H Q E h => ?_
 obtain ⟨p, z, rfl, hp, hz, q⟩ := h
 exact ⟨p, z, rfl, hz.mono (by decide), fun H' s' => q _ _ s' (or_num _)⟩
theorem mans_ok (T : Txt K mg A) (lo hi : Int) : FnOkP P w K mg base CX0 4 A.f_c_Money_answer_of A.d_c_Money_answer_of ["self", "text"] (uAns K A (.mo lo hi)) := by
 refine FnOkP.imp (ok_mans T) fun vs H Q E h => ?_
 obtain ⟨p, z, rfl, hp, hz, q⟩ := h
 exact ⟨p, z, rfl, hz.mono (by decide), fun H' s' => q _ _ s' (or_num _)⟩
theorem wshown_ok (T : Txt K mg A) (lo hi : Int) (g : (KU.wh lo hi).Good) : FnOk P w K mg base CX0 1 A.f_c_Whole_shown A.d_c_Whole_shown ["self", "answer"] (uShown K A (.wh lo hi)) := by
 refine (ok_wshown T).imp fun vs H Q E h => ?_
 obtain ⟨p, x, a, rfl, hp, ha, hf, q⟩ := h
 obtain ⟨n, rfl⟩ := ord_i hf
 cases ha
 exact ⟨p, n, rfl, bnd g hf, q⟩
theorem mshown_ok (T : Txt K mg A) (lo hi : Int) (g : (KU.mo lo hi).Good) : FnOk P w K mg base CX0 2 A.f_c_Money_shown A.d_c_Money_shown ["self", "answer"] (uShown K A (.mo lo hi)) := by
 refine (ok_mshown T).imp fun vs H Q E h => ?_
 obtain ⟨p, x, a, rfl, hp, ha, hf, q⟩ := h
 obtain ⟨n, rfl⟩ := ord_i (lo := lo) (hi := hi) (show fit (.wh lo hi) a = true by cases a <;> exact hf)
 cases ha
 exact ⟨p, n, rfl, bnd g hf, q⟩
theorem wrank_ok (T : Txt K mg A) (lo hi : Int) : FnOk P w K mg base CX0 1 A.f_c_Whole_rank A.d_c_Whole_rank ["self", "answer"] (uRank K A (.wh lo hi)) := by
 refine (ok_wrank T).imp fun vs H Q E h => ?_
 obtain ⟨p, x, a, rfl, hp, ha, hf, q⟩ := h
 obtain ⟨n, rfl⟩ := ord_i hf
 cases ha
 exact ⟨_, _, rfl, q _ (Same.refl _)⟩
theorem mrank_ok (T : Txt K mg A) (lo hi : Int) : FnOk P w K mg base CX0 1 A.f_c_Whole_rank A.d_c_Whole_rank ["self", "answer"] (uRank K A (.mo lo hi)) := by
 refine (ok_wrank T).imp fun vs H Q E h => ?_
 obtain ⟨p, x, a, rfl, hp, ha, hf, q⟩ := h
 obtain ⟨n, rfl⟩ := ord_i (lo := lo) (hi := hi) (show fit (.wh lo hi) a = true by cases a <;> exact hf)
 cases ha
 exact ⟨_, _, rfl, q _ (Same.refl _)⟩
theorem wsample_ok (T : Txt K mg A) (lo hi : Int) : FnOk P w K mg base CX0 1 A.f_c_Whole_sample A.d_c_Whole_sample ["self", "rank"] (uSample K A (.wh lo hi)) := by
 refine (ok_wsample T).imp fun vs H Q E h => ?_
 obtain ⟨p, r, rfl, hp, h1, h2, q⟩ := h
 exact ⟨_, _, rfl, q _ _ (Same.refl _) rfl⟩
theorem msample_ok (T : Txt K mg A) (lo hi : Int) : FnOk P w K mg base CX0 1 A.f_c_Whole_sample A.d_c_Whole_sample ["self", "rank"] (uSample K A (.mo lo hi)) := by
 refine (ok_wsample T).imp fun vs H Q E h => ?_
 obtain ⟨p, r, rfl, hp, h1, h2, q⟩ := h
 exact ⟨_, _, rfl, q _ _ (Same.refl _) rfl⟩
theorem nfits_ok (T : Txt K mg A) (m : Nat) : FnOk P w K mg base CX0 3 A.f_c_Names_fits A.d_c_Names_fits ["self", "thing"] (uFits K A (.nm m)) := by
 refine (N.ok_fits T).imp fun vs H Q E h => ?_
 obtain ⟨p, x, o, rfl, ⟨dx, fs, hp, hf⟩, ho, ht, q⟩ := h
 have hf : fs = flds 0 (m : Nat) := hf
 subst hf
 match o, ho, ht, q with
 | none, ho, _, q => cases ho; exact ⟨p, dx, m, _, false, rfl, hp, .inr ⟨_, .old .non, T.i_NoneType_tuple, rfl⟩, q⟩
 | some (.t ws), ho, ht, q =>
   obtain ⟨t, rfl, hq⟩ := ho
   obtain ⟨hl, hw⟩ := (ht _ rfl).2
   refine ⟨p, dx, m, _, fit (.nm m) (.t ws), rfl, hp, .inl ⟨t, _, rfl, hq, by rw [List.length_map]; exact hl, fun y hy => ?_, by rw [List.length_map]; rfl⟩, q⟩
   obtain ⟨z, hz, rfl⟩ := List.mem_map.mp hy
   exact ⟨⟨thStr T _ _, trivial⟩, fun z' e => by cases e; exact hw z hz⟩
 | some (.b _), _, ht, _ => exact False.elim (ht _ rfl).1
 | some (.i _), _, ht, _ => exact False.elim (ht _ rfl).1
 | some (.s _), _, ht, _ => exact False.elim (ht _ rfl).1
theorem nans_ok (T : Txt K mg A) (m : Nat) : FnOk P w K mg base CX0 1 A.f_c_Names_answer_of A.d_c_Names_answer_of ["self", "text"] (uAns K A (.nm m)) := by
 refine (N.ok_answer T).imp fun vs H Q E h => ?_
 obtain ⟨p, z, rfl, hp, hz, q⟩ := h
 refine ⟨p, z, rfl, hz.mono (by decide), fun t H' s' e => q _ _ s' ⟨t, rfl, SqT.of ?_⟩⟩
 rw [e, N.vs_map]
theorem nshown_ok (T : Txt K mg A) (m : Nat) (g : m ≤ 6) : FnOk P w K mg base CX0 1 A.f_c_Names_shown A.d_c_Names_shown ["self", "answer"] (uShown K A (.nm m)) := by
 refine (N.ok_shown T).imp fun vs H Q E h => ?_
 obtain ⟨p, x, a, rfl, hp, ha, hf, q⟩ := h
 obtain ⟨ws, rfl⟩ := ord_t hf
 obtain ⟨t, rfl, hq⟩ := ha
 have := q H (Same.refl _)
 rw [← nm_shown] at this
 exact ⟨p, t, ws, rfl, hq, (nm_facts g hf).2.2.2.2, this⟩
theorem nrank_ok (T : Txt K mg A) (m : Nat) : FnOk P w K mg base CX0 1 A.f_c_Names_rank A.d_c_Names_rank ["self", "answer"] (uRank K A (.nm m)) := by
 refine (N.ok_rank T).imp fun vs H Q E h => ?_
 obtain ⟨p, x, a, rfl, hp, ha, hf, q⟩ := h
 obtain ⟨ws, rfl⟩ := ord_t hf
 obtain ⟨t, rfl, hq⟩ := ha
 refine ⟨p, t, _, rfl, hq, ?_⟩
 rw [List.length_map]
 exact q H (Same.refl _)
theorem nsample_ok (T : Txt K mg A) (m : Nat) (g : m ≤ 6) : FnOk P w K mg base CX0 1 A.f_c_Names_sample A.d_c_Names_sample ["self", "rank"] (uSample K A (.nm m)) := by
 refine (N.ok_sample T).imp fun vs H Q E h => ?_
 obtain ⟨p, r, rfl, hp, h1, h2, q⟩ := h
 have h1' : 0 ≤ r := h1
 have h2' : r ≤ (m : Nat) := h2
 refine ⟨p, r, rfl, fun t H' s' e => q _ _ s' ⟨t, rfl, ?_⟩⟩
 rw [← cut_lets h1' (by omega)]
 exact e
def km (T : Txt K mg A) : (ku : KU) → ku.Good → KM P w K mg base A ku
 | .yn, _ => ⟨T.cl_YesNo, T.no_YesNo_low, T.no_YesNo_high,
     ⟨_, _, _, _, [], [], T.cl_YesNo, T.me_YesNo_fits, (ok_yfits T).mono (by decide), T.b_c_YesNo_fits, .nil⟩, rfl, rfl,
     ⟨_, _, _, _, [], [], T.cl_YesNo, T.me_YesNo_answer_of, (FnOk.toP (k := 4) ((ok_yans T).mono (by decide))), T.b_c_YesNo_answer_of, .nil⟩, rfl, rfl,
     ⟨_, _, _, _, [], [], T.cl_YesNo, T.me_YesNo_shown, (ok_yshown T).mono (by decide), T.b_c_YesNo_shown, .nil⟩, rfl, rfl,
     ⟨_, _, _, _, [], [], T.cl_YesNo, T.me_YesNo_rank, (ok_yrank T).mono (by decide), T.b_c_YesNo_rank, .nil⟩, rfl, rfl,
     ⟨_, _, _, _, [], [], T.cl_YesNo, T.me_YesNo_sample, (ok_ysample T).mono (by decide), T.b_c_YesNo_sample, .nil⟩, rfl, rfl⟩
 | .wh lo hi, g => ⟨T.cl_Whole, T.no_Whole_low, T.no_Whole_high,
     ⟨_, _, _, _, [], [], T.cl_Whole, T.me_Whole_fits, (wfits_ok T lo hi).mono (by decide), T.b_c_Whole_fits, .nil⟩, rfl, rfl,
     ⟨_, _, _, _, [], [], T.cl_Whole, T.me_Whole_answer_of, (FnOk.toP (k := 4) ((wans_ok T lo hi).mono (by decide))), T.b_c_Whole_answer_of, .nil⟩, rfl, rfl,
     ⟨_, _, _, _, [], [], T.cl_Whole, T.me_Whole_shown, (wshown_ok T lo hi g).mono (by decide), T.b_c_Whole_shown, .nil⟩, rfl, rfl,
     ⟨_, _, _, _, [], [], T.cl_Whole, T.me_Whole_rank, (wrank_ok T lo hi).mono (by decide), T.b_c_Whole_rank, .nil⟩, rfl, rfl,
     ⟨_, _, _, _, [], [], T.cl_Whole, T.me_Whole_sample, (wsample_ok T lo hi).mono (by decide), T.b_c_Whole_sample, .nil⟩, rfl, rfl⟩
 | .mo lo hi, g => ⟨T.cl_Money, T.no_Money_low, T.no_Money_high,
     ⟨_, _, _, _, [], [], T.cl_Money, T.me_Money_fits, (mfits_ok T lo hi).mono (by decide), T.b_c_Whole_fits, .nil⟩, rfl, rfl,
     ⟨_, _, _, _, [], [], T.cl_Money, T.me_Money_answer_of, (mans_ok T lo hi).mono (by decide), T.b_c_Money_answer_of, .nil⟩, rfl, rfl,
     ⟨_, _, _, _, [], [], T.cl_Money, T.me_Money_shown, (mshown_ok T lo hi g).mono (by decide), T.b_c_Money_shown, .nil⟩, rfl, rfl,
     ⟨_, _, _, _, [], [], T.cl_Money, T.me_Money_rank, (mrank_ok T lo hi).mono (by decide), T.b_c_Whole_rank, .nil⟩, rfl, rfl,
     ⟨_, _, _, _, [], [], T.cl_Money, T.me_Money_sample, (msample_ok T lo hi).mono (by decide), T.b_c_Whole_sample, .nil⟩, rfl, rfl⟩
 | .pk ws, g => ⟨T.cl_Pick, T.no_Pick_low, T.no_Pick_high,
     ⟨_, _, _, _, [], [], T.cl_Pick, T.me_Pick_fits, (ok_pfits T ws).mono (by decide), T.b_c_Pick_fits, .nil⟩, rfl, rfl,
     ⟨_, _, _, _, [], [], T.cl_Pick, T.me_Pick_answer_of, (FnOk.toP (k := 4) ((ok_pans T ws).mono (by decide))), T.b_c_Pick_answer_of, .nil⟩, rfl, rfl,
     ⟨_, _, _, _, [], [], T.cl_Pick, T.me_Pick_shown, (ok_pshown T ws).mono (by decide), T.b_c_Pick_shown, .nil⟩, rfl, rfl,
     ⟨_, _, _, _, [], [], T.cl_Pick, T.me_Pick_rank, (ok_prank T ws g.1.nd).mono (by decide), T.b_c_Pick_rank, .nil⟩, rfl, rfl,
     ⟨_, _, _, _, [], [], T.cl_Pick, T.me_Pick_sample, (ok_psample T ws).mono (by decide), T.b_c_Pick_sample, .nil⟩, rfl, rfl⟩
 | .nm m, g => ⟨T.cl_Names, T.no_Names_low, T.no_Names_high,
     ⟨_, _, _, _, [], [], T.cl_Names, T.me_Names_fits, (nfits_ok T m).mono (by decide), T.b_c_Names_fits, .nil⟩, rfl, rfl,
     ⟨_, _, _, _, [], [], T.cl_Names, T.me_Names_answer_of, (FnOk.toP (k := 4) ((nans_ok T m).mono (by decide))), T.b_c_Names_answer_of, .nil⟩, rfl, rfl,
     ⟨_, _, _, _, [], [], T.cl_Names, T.me_Names_shown, (nshown_ok T m g).mono (by decide), T.b_c_Names_shown, .nil⟩, rfl, rfl,
     ⟨_, _, _, _, [], [], T.cl_Names, T.me_Names_rank, (nrank_ok T m).mono (by decide), T.b_c_Names_rank, .nil⟩, rfl, rfl,
     ⟨_, _, _, _, [], [], T.cl_Names, T.me_Names_sample, (nsample_ok T m g).mono (by decide), T.b_c_Names_sample, .nil⟩, rfl, rfl⟩
theorem ok_uread (T : Txt K mg A) {ku : KU} (M : KM P w K mg base A ku) : FnOk P w K mg base (CXW P w) 5 A.f_c_Kind_read A.d_c_Kind_read ["self", "text"] (uRead K A ku) := by
 refine T.F_c_Kind_read.okX sc_c_Kind_read (fun vs H Q E h => ?_) (fun cdv A0 outer s H vs Q E hr h => ?_)
 · obtain ⟨p, z, rfl, _⟩ := h
   rfl
 obtain ⟨p, z, rfl, hp, hz, qs, qn⟩ := h
 refine ⟨_, (zF (ps_if (pt_not (pt_val (zI call_isi (by rfl) T.n_isinstance Bt.isinstance (zA (pv 1) (zA (pe_bltn (v := .ty "str") rfl T.n_str Bt.str rfl) zB))))) (zC (ps_raise T.m_NoAnswer T.x_NoAnswer (zA zG zB) rfl)) pss_nil)
     (zF (ps_set (i := 2) sc_c_Kind_read.nd rfl (by first | exact Or.inl rfl | exact Or.inr rfl) (pe_methP (CX := CX0) (k := 4) (hr.mono (by first | decide | omega)) zN (pv 0) (pem_strip (pv 1))))
     (zF (ps_if (pt_not (pt_val (pe_methG (CX := CX0) (k := 4) (hr.mono (by first | decide | omega)) zN (pv 0) (zA (pv 2) zB)))) (zC (ps_raise T.m_NoAnswer T.x_NoAnswer (zA (pe_fstrR (pv 1)) zB) rfl)) pss_nil)
     (zC (zH (pv 2)))))), ?_⟩
 obtain ⟨dx, fs, hi, hf⟩ := id hp
 refine ⟨_, rfl, _, _, _, _, rfl, rfl, .old (.str z), T.i_str_str, _, rfl, iteF ?_⟩
 refine ⟨_, rfl, p, cls A ku, dx, fs, M.Ja, rfl, hi, hf.no (by symm), ?_⟩
 refine ⟨_, rfl, z, rfl, hz.size, ?_⟩
 rw [M.ea, M.da]
 refine ⟨p, _, rfl, hp, hz.strip, fun x H1 s1 hx => ?_⟩
 rw [show Str.ofString " " = ("\u0020" : Str) from rfl, strip_is] at hx
 have fz : Fine 800 (S (stripL (cd z))) := by
   rw [← strip_is, S_cd]; exact hz.strip
 generalize hl : stripL (cd z) = l at hx fz qs qn
 refine ⟨_, rfl, p, cls A ku, dx, fs, M.Jf, rfl, s1 _ _ hi, hf.no (by symm), ?_⟩
 refine ⟨_, rfl, ?_⟩
 rw [M.ef, M.df]
 refine ⟨p, x, ans ku l, rfl, hp.same s1, hx, fun a ha => ⟨ans_ty ha, ans_sm fz ha⟩, fun H2 s2 => ⟨_, rfl, ?_⟩⟩
 cases hb : fitO ku (ans ku l) with
 | true =>
   cases ha : ans ku l with
   | none => rw [ha] at hb; cases hb
   | some a =>
     rw [ha] at hx hb
     exact iteF ⟨_, rfl, qs a ha hb x _ (s1.trans s2) (AR.same s2 hx)⟩
 | false => exact iteT ⟨_, rfl, z, rfl, Nat.le_trans hz.len (by decide), hz.cod, fun y => ⟨(by show 1 ≤ sizeLine; decide), qn hb _ (s1.trans s2)⟩⟩
end
end K07
set_option maxHeartbeats 4000000
namespace K07
open PySem L2
seal PE PT PW PA PS PSs PG PGs PI PO PSet OpR UnR CallR TruR IxR SlR PC PPs
local macro_rules | `(tactic| walk_at "rd1") => `(tactic| first
 | (refine And.intro rfl ?_)
 | (refine And.intro (by assumption) ?_)
 | (refine And.intro (fun _ e => e) ?_)
 | (refine And.intro (TyOf.str _) ?_) | (refine And.intro (TyOf.int _) ?_) | (refine And.intro (TyOf.bl _) ?_) | (refine And.intro TyOf.non ?_)
 | (refine iteT ?_) | (refine iteF ?_)
 | (apply Exists.intro))
local macro_rules | `(tactic| walk_at "rd") => `(tactic| repeat (walk_at "rd1"))
def tld : KU → List Nat
 | .yn => cd (Str.ofString "yesno")
 | .wh lo hi => cd (Str.ofString "whole ") ++ (numL lo ++ [32] ++ numL hi)
 | .mo lo hi => cd (Str.ofString "money ") ++ (monL lo ++ [32] ++ monL hi)
 | .pk ws => cd (Str.ofString "pick ") ++ joinL [32] (ws.map cd)
 | .nm m => cd (Str.ofString "names ") ++ numL m
theorem fl.noT {H : Hp} {fs : List (Str × V)} {ku : KU} (h : fl H fs ku) : fs.lookup (Str.ofString "told") = none ∧ fs.lookup (Str.ofString "bounds") = none := by
 cases ku with
 | pk ws => obtain ⟨pw, rfl, _⟩ := h; exact ⟨lkp (by symm) (by symm) (by symm), lkp (by symm) (by symm) (by symm)⟩
 | yn => have h : fs = flds 0 1 := h; rw [h]; exact ⟨lkn (by symm) (by symm), lkn (by symm) (by symm)⟩
 | wh lo hi => have h : fs = flds lo hi := h; rw [h]; exact ⟨lkn (by symm) (by symm), lkn (by symm) (by symm)⟩
 | mo lo hi => have h : fs = flds lo hi := h; rw [h]; exact ⟨lkn (by symm) (by symm), lkn (by symm) (by symm)⟩
 | nm m => have h : fs = flds 0 (m : Nat) := h; rw [h]; exact ⟨lkn (by symm) (by symm), lkn (by symm) (by symm)⟩
def uTold (A : Adr) (ku : KU) : Sp := fun vs H Q _ => ∃ p, vs = [.ref p] ∧ st A ku H p ∧ ∀ H', Same H H' → Q (.str (S (tld ku))) H'
def bnL (ku : KU) : List Nat := shw ku (.i ku.low) ++ [32] ++ shw ku (.i ku.high)
def uBnd (A : Adr) (ku : KU) : Sp := fun vs H Q _ => ∃ p, vs = [.ref p] ∧ st A ku H p ∧ ∀ H', Same H H' → Q (.str (S (bnL ku))) H'
theorem fsz {n m : Nat} {x y : Str} (h : Fine n x) (k : Fine m y) (l : n + m ≤ 1000 := by decide) : x.length + y.length ≤ sizeLine := small_of (m := 1000) (by have := h.len; have := k.len; omega)
section
variable {P : Program} {w : World} {K : W.Frag} {mg : Str → Option Value} {base : Heap} {A : Adr}
theorem ok_bnd (T : Txt K mg A) {ku : KU} (g : ku.Good) (hw : (∃ lo hi, ku = .wh lo hi) ∨ ∃ lo hi, ku = .mo lo hi) : FnOk P w K mg base CX0 5 A.f_c_Whole_bounds A.d_c_Whole_bounds ["self"] (uBnd A ku) := by
 have M := km (P := P) (w := w) (base := base) T ku g
 refine T.F_c_Whole_bounds.ok sc_c_Whole_bounds (fun vs H Q E h => ?_) (fun cdv A0 outer s H vs Q E hr h => ?_)
 · obtain ⟨p, rfl, _⟩ := h
   rfl
 obtain ⟨p, rfl, hp, q⟩ := h
 refine ⟨_, (zC (zH (zK zM (zK zM (pe_methG (CX := CX0) (k := 4) (hr.mono (by first | decide | omega)) zN (pv 0) (zA (pe_fld (pv 0) rfl) zB)) zG) (pe_methG (CX := CX0) (k := 4) (hr.mono (by first | decide | omega)) zN (pv 0) (zA (pe_fld (pv 0) rfl) zB))))), ?_⟩
 have fl' : fit ku (.i ku.low) = true ∧ fit ku (.i ku.high) = true := by
   rcases hw with ⟨lo, hi, rfl⟩ | ⟨lo, hi, rfl⟩
   · have g : lo ≤ hi ∧ _ := g
     exact ⟨by show (decide (lo ≤ lo) && decide (lo ≤ hi)) = true; simp [g.1], by show (decide (lo ≤ hi) && decide (hi ≤ hi)) = true; simp [g.1]⟩
   · have g : lo ≤ hi ∧ _ := g
     exact ⟨by show (decide (lo ≤ lo) && decide (lo ≤ hi)) = true; simp [g.1], by show (decide (lo ≤ hi) && decide (hi ≤ hi)) = true; simp [g.1]⟩
 obtain ⟨dx, fs, hi, hf⟩ := id hp
 have f1 := (shw_facts g fl'.1).2.2
 have f2 := (shw_facts g fl'.2).2.2
 have f32 : Fine 1 (Str.ofString " ") := ⟨by symm, by symm⟩
 refine ⟨_, rfl, p, cls A ku, dx, fs, M.Js, rfl, hi, hf.no (by symm), _, rfl, p, cls A ku, dx, fs, _, rfl, hi, M.cl, M.n1, hf.low, ?_⟩
 rw [M.es, M.ds]
 refine ⟨p, _, .i ku.low, rfl, hp, rfl, fl'.1, fun H1 s1 => ?_⟩
 refine ⟨_, _, rfl, rfl, fsz f1 f32, ?_⟩
 refine ⟨_, rfl, p, cls A ku, dx, fs, M.Js, rfl, s1 _ _ hi, hf.no (by symm), _, rfl, p, cls A ku, dx, fs, _, rfl, s1 _ _ hi, M.cl, M.n2, hf.high, ?_⟩
 rw [M.es, M.ds]
 refine ⟨p, _, .i ku.high, rfl, hp.same s1, rfl, fl'.2, fun H2 s2 => ?_⟩
 refine ⟨_, _, rfl, rfl, fsz (f1.app f32) f2, ?_⟩
 have e : S (shw ku (.i ku.low)) ++ Str.ofString " " ++ S (shw ku (.i ku.high)) = S (bnL ku) := by
   rw [show Str.ofString " " = S [32] by symm, S_app, S_app]; rfl
 rw [e]
 exact q _ (s1.trans s2)
theorem bn_fine {ku : KU} (g : ku.Good) (hw : (∃ lo hi, ku = .wh lo hi) ∨ ∃ lo hi, ku = .mo lo hi) : Fine 401 (S (bnL ku)) := by
 have fl' : fit ku (.i ku.low) = true ∧ fit ku (.i ku.high) = true := by
   rcases hw with ⟨lo, hi, rfl⟩ | ⟨lo, hi, rfl⟩
   · have g : lo ≤ hi ∧ _ := g
     exact ⟨by show (decide (lo ≤ lo) && decide (lo ≤ hi)) = true; simp [g.1], by show (decide (lo ≤ hi) && decide (hi ≤ hi)) = true; simp [g.1]⟩
   · have g : lo ≤ hi ∧ _ := g
     exact ⟨by show (decide (lo ≤ lo) && decide (lo ≤ hi)) = true; simp [g.1], by show (decide (lo ≤ hi) && decide (hi ≤ hi)) = true; simp [g.1]⟩
 have f1 := (shw_facts g fl'.1).2.2
 have f2 := (shw_facts g fl'.2).2.2
 have f32 : Fine 1 (Str.ofString " ") := ⟨by symm, by symm⟩
 have e : S (shw ku (.i ku.low)) ++ Str.ofString " " ++ S (shw ku (.i ku.high)) = S (bnL ku) := by
   rw [show Str.ofString " " = S [32] by symm, S_app, S_app]; rfl
 rw [← e]
 exact (f1.app f32).app f2
theorem ok_ytold (T : Txt K mg A) : FnOk P w K mg base CX0 1 A.f_c_YesNo_told A.d_c_YesNo_told ["self"] (uTold A .yn) := by
 refine T.F_c_YesNo_told.ok sc_c_YesNo_told (fun vs H Q E h => ?_) (fun cdv A0 outer s H vs Q E hr h => ?_)
 · obtain ⟨p, rfl, _⟩ := h
   rfl
 obtain ⟨p, rfl, hp, q⟩ := h
 refine ⟨_, (zC (zH zG)), ?_⟩
 have q := q _ (Same.refl _)
 rw [show tld .yn = cd (Str.ofString "yesno") from rfl, S_cd] at q
 exact q
theorem ok_wtold (T : Txt K mg A) {lo hi : Int} (g : (KU.wh lo hi).Good) : FnOk P w K mg base CX0 6 A.f_c_Whole_told A.d_c_Whole_told ["self"] (uTold A (.wh lo hi)) := by
 refine T.F_c_Whole_told.ok sc_c_Whole_told (fun vs H Q E h => ?_) (fun cdv A0 outer s H vs Q E hr h => ?_)
 · obtain ⟨p, rfl, _⟩ := h
   rfl
 obtain ⟨p, rfl, hp, q⟩ := h
 obtain ⟨kbd, hk⟩ : ∃ k : Nat, k = 5 := ⟨_, rfl⟩
 refine ⟨_, (zC (zH (zK zM zG (pe_methG0 (CX := CX0) (k := kbd) (hr.mono (by first | decide | omega)) zN (pv 0))))), ?_⟩
 subst hk
 obtain ⟨dx, fs, hi', hf⟩ := id hp
 refine ⟨_, rfl, p, A.c_Whole, dx, fs, ⟨A.f_c_Whole_bounds, A.d_c_Whole_bounds, ["self"], uBnd A (.wh lo hi), [], [], T.cl_Whole, T.me_Whole_bounds, ok_bnd T g (.inl ⟨lo, hi, rfl⟩), T.b_c_Whole_bounds, .nil⟩, rfl, hi', hf.noT.2, p, rfl, hp, fun H1 s1 => ?_⟩
 have f0 : Fine 6 (Str.ofString "whole ") := ⟨by symm, by symm⟩
 refine ⟨_, _, rfl, rfl, fsz f0 (bn_fine g (.inl ⟨lo, hi, rfl⟩)), ?_⟩
 have e : Str.ofString "whole " ++ S (bnL (.wh lo hi)) = S (tld (.wh lo hi)) := by
   rw [show Str.ofString "whole " = S (cd (Str.ofString "whole ")) from (S_cd _).symm, S_app]; rfl
 rw [e]
 exact q _ s1
theorem ok_mtold (T : Txt K mg A) {lo hi : Int} (g : (KU.mo lo hi).Good) : FnOk P w K mg base CX0 6 A.f_c_Money_told A.d_c_Money_told ["self"] (uTold A (.mo lo hi)) := by
 refine T.F_c_Money_told.ok sc_c_Money_told (fun vs H Q E h => ?_) (fun cdv A0 outer s H vs Q E hr h => ?_)
 · obtain ⟨p, rfl, _⟩ := h
   rfl
 obtain ⟨p, rfl, hp, q⟩ := h
 obtain ⟨kbd, hk⟩ : ∃ k : Nat, k = 5 := ⟨_, rfl⟩
 refine ⟨_, (zC (zH (zK zM zG (pe_methG0 (CX := CX0) (k := kbd) (hr.mono (by first | decide | omega)) zN (pv 0))))), ?_⟩
 subst hk
 obtain ⟨dx, fs, hi', hf⟩ := id hp
 refine ⟨_, rfl, p, A.c_Money, dx, fs, ⟨A.f_c_Whole_bounds, A.d_c_Whole_bounds, ["self"], uBnd A (.mo lo hi), [], [], T.cl_Money, T.me_Money_bounds, ok_bnd T g (.inr ⟨lo, hi, rfl⟩), T.b_c_Whole_bounds, .nil⟩, rfl, hi', hf.noT.2, p, rfl, hp, fun H1 s1 => ?_⟩
 have f0 : Fine 6 (Str.ofString "money ") := ⟨by symm, by symm⟩
 refine ⟨_, _, rfl, rfl, fsz f0 (bn_fine g (.inr ⟨lo, hi, rfl⟩)), ?_⟩
 have e : Str.ofString "money " ++ S (bnL (.mo lo hi)) = S (tld (.mo lo hi)) := by
   rw [show Str.ofString "money " = S (cd (Str.ofString "money ")) from (S_cd _).symm, S_app]; rfl
 rw [e]
 exact q _ s1
theorem ok_ptold (T : Txt K mg A) {ws : List Str} (g : (KU.pk ws).Good) : FnOk P w K mg base CX0 1 A.f_c_Pick_told A.d_c_Pick_told ["self"] (uTold A (.pk ws)) := by
 refine T.F_c_Pick_told.ok sc_c_Pick_told (fun vs H Q E h => ?_) (fun cdv A0 outer s H vs Q E hr h => ?_)
 · obtain ⟨p, rfl, _⟩ := h
   rfl
 obtain ⟨p, rfl, hp, q⟩ := h
 refine ⟨_, (zC (zH (zK zM zG (pe_bm PySem.F.plainAttrs_str PySem.F.slot_str_join PySem.F.type_str_join mt_join zG (zA (pe_fld (pv 0) rfl) zB))))), ?_⟩
 obtain ⟨dx, fs, hi', pw, rfl, hpw⟩ := hp
 have g6 : ws.length ≤ 6 := g.2.2
 have hs := sum_le (n := 12) (l := ws) fun z hz => (g.1.wd z hz).1
 have hsz : (ws.map (·.length)).sum + ws.length * (Str.ofString " ").length ≤ 16777216 := by
   rw [show (Str.ofString " ").length = 1 by symm]; omega
 refine ⟨rfl, _, rfl, p, _, dx, _, _, rfl, hi', T.cl_Pick, T.no_Pick_words, rfl, _, pw, ws, rfl, rfl, .inl (SqL.of hpw), hsz, ?_⟩
 rw [joinS_is, show cd (Str.ofString " ") = [32] by symm]
 have hj := joinL_len [32] (ws.map cd)
 have hj2 : (joinL [32] (ws.map cd)).length ≤ 100 := by
   have e1 : ((ws.map cd).map List.length).sum = (ws.map (·.length)).sum := by
     rw [List.map_map]; exact congrArg List.sum (List.map_congr_left fun z _ => (len_cd z).symm)
   rw [e1, List.length_map] at hj
   have : [32].length = 1 := rfl
   rw [this] at hj
   omega
 refine ⟨_, _, rfl, rfl, small_of (m := 1000) (by rw [len_S, show (Str.ofString "pick ").length = 5 by symm]; omega), ?_⟩
 have e : Str.ofString "pick " ++ S (joinL [32] (ws.map cd)) = S (tld (.pk ws)) := by
   rw [show Str.ofString "pick " = S (cd (Str.ofString "pick ")) from (S_cd _).symm, S_app]; rfl
 rw [e]
 exact q _ (Same.refl _)
theorem ok_ntold (T : Txt K mg A) {m : Nat} (g : (KU.nm m).Good) : FnOk P w K mg base CX0 1 A.f_c_Names_told A.d_c_Names_told ["self"] (uTold A (.nm m)) := by
 refine T.F_c_Names_told.ok sc_c_Names_told (fun vs H Q E h => ?_) (fun cdv A0 outer s H vs Q E hr h => ?_)
 · obtain ⟨p, rfl, _⟩ := h
   rfl
 obtain ⟨p, rfl, hp, q⟩ := h
 refine ⟨_, (zC (zH (zK zM zG (pe_callTy call_str_int (by rfl) T.n_str Bt.str (zA (pe_fld (pv 0) rfl) zB))))), ?_⟩
 obtain ⟨dx, fs, hi', hf⟩ := hp
 have g6 : m ≤ 6 := g
 have p60 : (7 : Nat) < 10 ^ 60 := by symm
 refine ⟨_, rfl, p, _, dx, fs, _, rfl, hi', T.cl_Names, T.no_Names_high, fl.high (ku := .nm m) hf, (m : Int), rfl, logOk (Nat.lt_trans (show ((m : Nat) : Int).natAbs < 10 ^ 60 by omega) (by symm)), ?_⟩
 rw [str_is]
 have hl := shw_facts (ku := .wh 0 6) (a := .i m) ⟨by decide, by symm, by symm⟩ (by show (decide ((0 : Int) ≤ m) && decide ((m : Int) ≤ 6)) = true; simp; omega)
 have f0 : Fine 6 (Str.ofString "names ") := ⟨by symm, by symm⟩
 have fn : Fine 200 (S (numL (m : Int))) := hl.2.2
 refine ⟨_, _, rfl, rfl, fsz f0 fn, ?_⟩
 have e : Str.ofString "names " ++ S (numL (m : Int)) = S (tld (.nm m)) := by
   rw [show Str.ofString "names " = S (cd (Str.ofString "names ")) from (S_cd _).symm, S_app]; rfl
 rw [e]
 exact q _ (Same.refl _)
def JT (T : Txt K mg A) : (ku : KU) → ku.Good → MethJ P w K mg base CX0 6 (cls A ku) "told"
 | .yn, _ => ⟨_, _, _, uTold A .yn, [], [], T.cl_YesNo, T.me_YesNo_told, (ok_ytold T).mono (by decide), T.b_c_YesNo_told, .nil⟩
 | .wh lo hi, g => ⟨_, _, _, uTold A (.wh lo hi), [], [], T.cl_Whole, T.me_Whole_told, ok_wtold T g, T.b_c_Whole_told, .nil⟩
 | .mo lo hi, g => ⟨_, _, _, uTold A (.mo lo hi), [], [], T.cl_Money, T.me_Money_told, ok_mtold T g, T.b_c_Money_told, .nil⟩
 | .pk ws, g => ⟨_, _, _, uTold A (.pk ws), [], [], T.cl_Pick, T.me_Pick_told, (ok_ptold T g).mono (by decide), T.b_c_Pick_told, .nil⟩
 | .nm m, g => ⟨_, _, _, uTold A (.nm m), [], [], T.cl_Names, T.me_Names_told, (ok_ntold T g).mono (by decide), T.b_c_Names_told, .nil⟩
theorem jt_sp (T : Txt K mg A) (ku : KU) (g : ku.Good) : (JT (P := P) (w := w) (base := base) T ku g).sp = uTold A ku ∧ (JT (P := P) (w := w) (base := base) T ku g).dvs = [] := by
 cases ku <;> exact ⟨rfl, rfl⟩
end
end K07
set_option maxHeartbeats 4000000
namespace K07.N
open PySem L2
seal PE PT PW PA PS PSs PG PGs PI PO PSet OpR UnR CallR TruR IxR SlR PC PPs
local macro_rules | `(tactic| walk_at "rd1") => `(tactic| first
 | (refine And.intro rfl ?_)
 | (refine And.intro (by assumption) ?_)
 | (refine And.intro (fun _ e => e) ?_)
 | (refine And.intro (TyOf.str _) ?_) | (refine And.intro (TyOf.int _) ?_) | (refine And.intro (TyOf.bl _) ?_) | (refine And.intro TyOf.non ?_)
 | (refine iteT ?_) | (refine iteF ?_)
 | (apply Exists.intro))
local macro_rules | `(tactic| walk_at "rd") => `(tactic| repeat (walk_at "rd1"))
def spUnlikeL (K : W.Frag) : Sp := fun vs H Q _ => ∃ (p : Addr) (xs : List V), vs = [.ref p] ∧ SqL K H p xs ∧ xs.length ≤ 1000 ∧ (∀ x ∈ xs, Ok K H x) ∧ ∀ H', Same H H' → Q (.bl (unlikeB xs)) H'
section
variable {P : Program} {w : World} {K : W.Frag} {mg : Str → Option Value} {base : Heap} {A : Adr}
theorem ok_unlikeL (T : Txt K mg A) : FnOk P w K mg base CX0 2 A.f_are_unlike_names A.d_are_unlike_names ["words"] (spUnlikeL K) := by
 have G_is_name := ok_is_name (P := P) (w := w) (base := base) T
 refine T.F_are_unlike_names.ok sc_are_unlike_names (fun vs H Q E h => ?_) (fun cdv A0 outer s H vs Q E hr h => ?_)
 · obtain ⟨x, xs, rfl, _⟩ := h
   rfl
 obtain ⟨p, xs, rfl, hq, hl, hx, q⟩ := h
 refine ⟨_, (zC (zH (pe_and (zI (call_all rfl) (by rfl) T.n_all Bt.all (zA (pe_compR (compOk_of (x := "word") (M := ["words"]) rfl (by rfl)) rfl (pi_list (pv 0)) (fun _ _ _ _ => (zL G_is_name (hr.mono (by first | decide | omega)) rfl T.m_is_name T.k_is_name T.b_is_name .nil zN (zA (pv 0) zB)))) zB)) (pe_one (pe_cmpR op_eq (zI call_len_setT (by rfl) T.n_len PySem.boot_len (zA (pe_callTy (call_set_lst rfl) (by rfl) T.n_set Bt.set (zA (pv 0) zB)) zB)) (zI call_len_seq (by rfl) T.n_len PySem.boot_len (zA (pv 0) zB)) (nomark _)))))), ?_⟩
 refine ⟨_, rfl, p, rfl, ⟨_, hq⟩, ?_⟩
 refine comp_listR (xs := xs) (small_of (m := 1000) hl) (fun i ys H' => Same H H' ∧ ys = (xs.take i).map fun x => V.bl (nameV x)) ⟨Same.refl _, rfl⟩ (fun i ys H' hw => hw.1.seq hq) (fun i x ys H' hi hl' hw => ?_) (fun ys H' hl' hw p2 hp2 => ?_)
 · obtain ⟨sH, rfl⟩ := hw
   refine ⟨_, rfl, _, rfl, (hx x (List.mem_of_getElem? hi)).same sH, fun H2 s2 => ⟨sH.trans s2, ?_⟩⟩
   rw [List.take_succ, hi, List.map_append]; rfl
 obtain ⟨sH, rfl⟩ := hw
 rw [List.take_length]
 have sB := sH.trans (zJ hp2 (.lst (xs.map fun x => V.bl (nameV x))))
 refine ⟨p2, xs.map nameV, rfl, SqL.of (by rw [zE, List.map_map]; rfl), _, rfl, ?_⟩
 rw [List.all_map]
 cases ha : xs.all nameV with
 | false =>
   refine iteN (show xs.all (id ∘ nameV) = false from ha) ?_
   have e : unlikeB xs = false := by unfold unlikeB; rw [ha]; rfl
   rw [e] at q
   exact q _ sB
 | true =>
   refine iteY (show xs.all (id ∘ nameV) = true from ha) ?_
   have exs := strs_of ha
   have hlw : (strsOf xs).length = xs.length := by have := congrArg List.length exs; rw [List.length_map] at this; exact this.symm
   refine ⟨_, rfl, p, strsOf xs, rfl, (by rw [← exs]; exact sB.seq hq), by omega, fun p3 hp3 => ?_⟩
   refine ⟨p3, _, _, rfl, zE, ?_⟩
   have sC := sB.trans (zJ hp3 (SetT P w p3 (fun k => decide (k ∈ metT (strsOf xs))) (metT (strsOf xs)).length))
   refine ⟨_, rfl, p, xs, rfl, .inl (sC.seq hq), rfl, ?_⟩
   have e : unlikeB xs = decide (V.int ((metT (strsOf xs)).length : Nat) = V.int (xs.length : Nat)) := by
     unfold unlikeB
     rw [ha, Bool.true_and, Bool.eq_iff_iff, decide_eq_true_iff, decide_eq_true_iff]
     constructor
     · intro z; rw [z]
     · intro z; have : ((metT (strsOf xs)).length : Int) = xs.length := V.int.inj z; omega
   have q := q _ sC
   rw [e] at q
   exact q
end
end K07.N
namespace K07
open PySem L2
seal PE PT PW PA PS PSs PG PGs PI PO PSet OpR UnR CallR TruR IxR SlR PC PPs
local macro_rules | `(tactic| walk_at "rd1") => `(tactic| first
 | (refine And.intro rfl ?_)
 | (refine And.intro (by assumption) ?_)
 | (refine And.intro (fun _ e => e) ?_)
 | (refine And.intro (TyOf.str _) ?_) | (refine And.intro (TyOf.int _) ?_) | (refine And.intro (TyOf.bl _) ?_) | (refine And.intro TyOf.non ?_)
 | (refine iteT ?_) | (refine iteF ?_)
 | (apply Exists.intro))
local macro_rules | `(tactic| walk_at "rd") => `(tactic| repeat (walk_at "rd1"))
def spYInit (A : Adr) : Sp := fun vs H Q _ => ∃ p dx, vs = [.ref p] ∧ H p = some (.ins A.c_YesNo dx []) ∧ Q .non (upd H p (.ins A.c_YesNo dx (flds 0 1)))
def spPInit (A : Adr) : Sp := fun vs H Q _ => ∃ (p dx pl : Addr) (ws : List Str), vs = [.ref p, .ref pl] ∧ H p = some (.ins A.c_Pick dx []) ∧ H pl = some (.lst (ws.map V.str)) ∧ ∀ pw H', (∀ b o, b ≠ p → H b = some o → H' b = some o) → H' p = some (.ins A.c_Pick dx (fP ws.length pw)) → H' pw = some (.lst (ws.map V.str)) → Q .non H'
section
variable {P : Program} {w : World} {K : W.Frag} {mg : Str → Option Value} {base : Heap} {A : Adr}
theorem ok_yinit (T : Txt K mg A) : FnOk P w K mg base CX0 3 A.f_c_YesNo___init A.d_c_YesNo___init ["self"] (spYInit A) := by
 have G_c_Kind___init := ok_init (P := P) (w := w) (base := base) T
 refine T.F_c_YesNo___init.ok sc_c_YesNo___init (fun vs H Q E h => ?_) (fun cdv A0 outer s H vs Q E hr h => ?_)
 · obtain ⟨p, dx, rfl, _⟩ := h
   rfl
 obtain ⟨p, dx, rfl, hp, q⟩ := h
 refine ⟨_, (zC (ps_expr (pe_clsfn T.cf_Kind_init G_c_Kind___init (hr.mono (by first | decide | omega)) rfl T.m_Kind T.b_c_Kind___init zN (zA (pv 0) (zA zD (zA zD zB)))))), ?_⟩
 exact ⟨_, rfl, p, A.c_YesNo, dx, 0, 1, rfl, hp, T.cl_YesNo, T.no_YesNo_low, T.no_YesNo_high, q⟩
theorem ok_pinit (T : Txt K mg A) : FnOk P w K mg base CX0 3 A.f_c_Pick___init A.d_c_Pick___init ["self", "words"] (spPInit A) := by
 have G_c_Kind___init := ok_init (P := P) (w := w) (base := base) T
 refine T.F_c_Pick___init.ok sc_c_Pick___init (fun vs H Q E h => ?_) (fun cdv A0 outer s H vs Q E hr h => ?_)
 · obtain ⟨p, dx, pl, ws, rfl, _⟩ := h
   rfl
 obtain ⟨p, dx, pl, ws, rfl, hp, hl, q⟩ := h
 refine ⟨_, (zF (ps_expr (pe_clsfn T.cf_Kind_init G_c_Kind___init (hr.mono (by first | decide | omega)) rfl T.m_Kind T.b_c_Kind___init zN (zA (pv 0) (zA zD (zA (zK op_sub (zI call_len_seq (by rfl) T.n_len PySem.boot_len (zA (pv 1) zB)) zD) zB)))))
     (zC (ps_fld (pv 0) (pe_callTy call_list_of (by rfl) T.n_list Bt.list (zA (pv 1) zB)) rfl))), ?_⟩
 have hne : pl ≠ p := ne_of hl hp (by intro z; cases z)
 refine ⟨_, rfl, _, rfl, pl, _, rfl, .inl (SqL.of hl), _, _, rfl, rfl, ?_⟩
 rw [List.length_map]
 refine ⟨p, A.c_Pick, dx, 0, (ws.length : Int) - 1, rfl, hp, T.cl_Pick, T.no_Pick_low, T.no_Pick_high, ?_⟩
 refine ⟨_, rfl, pl, _, rfl, .inl (SqL.of (by rw [zO hne]; exact hl)), fun pw hw => ?_⟩
 have hwp : pw ≠ p := fun z => by subst z; rw [zE] at hw; cases hw
 refine ⟨_, rfl, p, A.c_Pick, dx, _, rfl, (by rw [zO (Ne.symm hwp)]; exact zE), T.cl_Pick, T.no_Pick_words, (by show 2 < 1000; decide), ?_⟩
 rw [put_words]
 rw [zO hwp] at hw
 refine q pw _ (fun b o hb e => ?_) zE ?_
 · rw [zO hb]
   by_cases z : b = pw
   · subst z; rw [hw] at e; cases e
   · rw [zO z, zO hb]; exact e
 · rw [zO hwp]; exact zE
end
end K07
set_option maxHeartbeats 4000000
namespace K07
open PySem L2
seal PE PT PW PA PS PSs PG PGs PI PO PSet OpR UnR CallR TruR IxR SlR PC PPs
local macro_rules | `(tactic| walk_at "rd1") => `(tactic| first
 | (refine And.intro rfl ?_)
 | (refine And.intro (by assumption) ?_)
 | (refine And.intro (fun _ e => e) ?_)
 | (refine And.intro (TyOf.str _) ?_) | (refine And.intro (TyOf.int _) ?_) | (refine And.intro (TyOf.bl _) ?_) | (refine And.intro TyOf.non ?_)
 | (refine iteT ?_) | (refine iteF ?_)
 | (apply Exists.intro))
local macro_rules | `(tactic| walk_at "rd") => `(tactic| repeat (walk_at "rd1"))
abbrev wv (ws : List (List Nat)) : List V := ws.map fun l => V.str (S l)
def bd2 : Option Int → Option Int → Bool
 | some a, some b => decide (a ≤ b)
 | _, _ => false
def bdB : List (Option Int) → Bool
 | [a, b] => bd2 a b
 | _ => false
def bk2 (mk : Int → Int → KU) : Option Int → Option Int → Option KU
 | some a, some b => if a ≤ b then some (mk a b) else none
 | _, _ => none
def bdK (mk : Int → Int → KU) : List (Option Int) → Option KU
 | [a, b] => bk2 mk a b
 | _ => none
theorem bd_true {os : List (Option Int)} (h : bdB os = true) : ∃ a b, os = [some a, some b] ∧ a ≤ b := by
 match os, h with
 | [some a, some b], h => exact ⟨a, b, rfl, of_decide_eq_true h⟩
 | [none, _], h => cases h
 | [some _, none], h => cases h
theorem bd_false {mk : Int → Int → KU} {os : List (Option Int)} (h : bdB os = false) : bdK mk os = none := by
 match os, h with
 | [], _ => rfl
 | [_], _ => rfl
 | [none, _], _ => rfl
 | [some _, none], _ => rfl
 | [some a, some b], h => exact if_neg (of_decide_eq_false h)
 | _ :: _ :: _ :: _, _ => rfl
def wholeB (ws : List (List Nat)) : Option KU := bdK .wh (ws.map fun l => numB l 60)
def moneyB (ws : List (List Nat)) : Option KU := bdK .mo (ws.map ansM)
def pickB (ws : List (List Nat)) : Option KU := if 2 ≤ ws.length ∧ ws.length ≤ 6 ∧ N.unlikeB (wv ws) = true then some (.pk (ws.map S)) else none
def namesB : List (List Nat) → Option KU
 | [l] => match numB l 60 with
   | some m => if 1 ≤ m ∧ m ≤ 6 then some (.nm m.toNat) else none
   | none => none
 | _ => none
def kindW (l : List Nat) (ws : List (List Nat)) : Option KU :=
 if l = cd (Str.ofString "yesno") then (if ws.length = 0 then some .yn else none) else if l = cd (Str.ofString "whole") then wholeB ws else if l = cd (Str.ofString "money") then moneyB ws
 else if l = cd (Str.ofString "pick") then pickB ws else if l = cd (Str.ofString "names") then namesB ws else none
def kindL (ws : List (List Nat)) : Option KU := kindW (ws.headD []) ws.tail
def KR (A : Adr) (H : Hp) (x : V) : Option KU → Prop
 | none => x = .non
 | some ku => ∃ p, x = .ref p ∧ st A ku H p
def spBd (K : W.Frag) : Sp := fun vs H Q _ => ∃ (p : Addr) (os : List (Option Int)), vs = [.ref p] ∧ SqL K H p (os.map numV) ∧ Q (.bl (bdB os)) H
def spKw (A : Adr) (K : W.Frag) (f : List (List Nat) → Option KU) : Sp := fun vs H Q _ => ∃ (p : Addr) (ws : List (List Nat)), vs = [.ref p] ∧ H p = some (.lst (wv ws)) ∧ ws.length ≤ 900 ∧ (∀ l ∈ ws, Fine 900 (S l)) ∧ ∀ x H', Same H H' → KR A H' x (f ws) → Q x H'
def spKon (A : Adr) (K : W.Frag) : Sp := fun vs H Q _ => ∃ (l : List Nat) (p : Addr) (ws : List (List Nat)), vs = [.str (S l), .ref p] ∧ H p = some (.lst (wv ws)) ∧ ws.length ≤ 900 ∧ (∀ l ∈ ws, Fine 900 (S l)) ∧ ∀ x H', Same H H' → KR A H' x (kindW l ws) → Q x H'
def spKof (A : Adr) (K : W.Frag) : Sp := fun vs H Q E => ∃ x, vs = [x] ∧ ((∃ z, x = .str z ∧ Fine 890 z ∧ (∀ ku, kindL (splitL (cd z)) = some ku → ∀ p H', Same H H' → st A ku H' p → Q (.ref p) H') ∧ (kindL (splitL (cd z)) = none → ∀ H', Same H H' → E (.ref A.c_NoKind) none H')) ∨
 (∃ t, TyE K H x t ∧ W.kitOne K t (.type "str") = some false ∧ ∀ H', Same H H' → E (.ref A.c_NoKind) none H'))
theorem numV_flat (os : List (Option Int)) : (os.map numV).all flatV = true := by
 rw [List.all_map, List.all_eq_true]
 intro o _
 cases o <;> rfl
theorem same_make {H : Hp} {x dx : Addr} (nx : H x = none) (nd : H dx = none) (o : HO) : Same H (upd (upd H dx (.own x)) x o) := fun b u e => by
 rw [zO (ne_of_none e nx), zO (ne_of_none e nd)]; exact e
theorem eq_cd {l : List Nat} {z : Str} : decide (V.str (S l) = V.str z) = decide (l = cd z) := by
 rw [Bool.eq_iff_iff, decide_eq_true_iff, decide_eq_true_iff]
 constructor
 · intro e; rw [← V.str.inj e, cd_S]
 · intro e; rw [e, S_cd]
theorem cut_1 (x : V) (r : List V) : cutV (x :: r) (some 1) none = r := by
 unfold cutV
 have e1 : HT.sIx (x :: r).length 0 (some 1) = 1 := by
   show (if (1 : Int) < 0 then ((1 : Int) + ((x :: r).length : Nat)).toNat else min (1 : Int).toNat (x :: r).length) = _
   rw [if_neg (by decide), List.length_cons]; show min 1 _ = 1; omega
 have e2 : HT.sIx (x :: r).length (x :: r).length none = (x :: r).length := rfl
 rw [e1, e2]
 show r.take (r.length + 1 - 1) = r
 rw [Nat.add_sub_cancel, List.take_length]
theorem bd_len {os : List (Option Int)} (h : os.length ≠ 2) : bdB os = false := by
 match os with
 | [] => rfl
 | [_] => rfl
 | [_, _] => exact absurd rfl h
 | _ :: _ :: _ :: _ => rfl
section
variable {P : Program} {w : World} {K : W.Frag} {mg : Str → Option Value} {base : Heap} {A : Adr}
theorem ok_are_bounds (T : Txt K mg A) : FnOk P w K mg base CX0 1 A.f_are_bounds A.d_are_bounds ["numbers"] (spBd K) := by
 refine T.F_are_bounds.ok sc_are_bounds (fun vs H Q E h => ?_) (fun cdv A0 outer s H vs Q E hr h => ?_)
 · obtain ⟨p, os, rfl, _⟩ := h
   rfl
 obtain ⟨p, os, rfl, hq, q⟩ := h
 refine ⟨_, (zC (zH (pe_and (pe_cmpR op_eq (zI call_len_seq (by rfl) T.n_len PySem.boot_len (zA (pv 0) zB)) zD (nomark _)) (pe_and (pe_cmpR op_notIn_seq pe_non (pv 0) (by rfl)) (pe_one (pe_cmpR op_le (pe_ix ix_list (pv 0) zD (fun _ _ => rfl)) (pe_ix ix_list (pv 0) zD (fun _ _ => rfl)) (nomark _))))))), ?_⟩
 refine ⟨_, rfl, p, _, rfl, .inl hq, rfl, _, rfl, ite2 (fun c => ?_) (fun c => ?_)⟩
 · have c1 : (((os.map numV).length : Nat) : Int) = 2 := V.int.inj (of_decide_eq_true c)
   rw [List.length_map] at c1
   obtain ⟨a, b, rfl⟩ : ∃ a b, os = [a, b] := by
     match os, c1 with
     | [a, b], _ => exact ⟨a, b, rfl⟩
     | [], h => exact absurd h (by decide)
     | [_], h => exact absurd h (by show ¬ ((1 : Nat) : Int) = 2; decide)
     | _ :: _ :: _ :: r, h => exact absurd h (by rw [List.length_cons, List.length_cons, List.length_cons]; omega)
   refine ⟨_, rfl, p, _, rfl, .inl hq, rfl, numV_flat _, _, rfl, ?_⟩
   cases a with
   | none => exact iteN rfl q
   | some a =>
     cases b with
     | none => exact iteN rfl q
     | some b =>
       have h0 : atI [numV (some a), numV (some b)] ((0 : Nat) : Int) = some (.int a) := atI_nat rfl
       have h1 : atI [numV (some a), numV (some b)] ((1 : Nat) : Int) = some (.int b) := atI_nat rfl
       exact iteY rfl ⟨_, rfl, p, _, _, _, rfl, rfl, hq, h0, _, rfl, p, _, _, _, rfl, rfl, hq, h1, _, _, rfl, rfl, q⟩
 · have c1 : os.length ≠ 2 := fun e => c (decide_eq_true (by rw [List.length_map, e]; rfl))
   rw [bd_len c1] at q
   exact q
theorem ok_whole_or_none (T : Txt K mg A) : FnOk P w K mg base CX0 4 A.f_whole_or_none A.d_whole_or_none ["words"] (spKw A K wholeB) := by
 have G_number_or_none := ok_number_or_none (P := P) (w := w) (base := base) T
 have G_are_bounds := ok_are_bounds (P := P) (w := w) (base := base) T
 have G_c_Kind___init := ok_init (P := P) (w := w) (base := base) T
 refine T.F_whole_or_none.ok sc_whole_or_none (fun vs H Q E h => ?_) (fun cdv A0 outer s H vs Q E hr h => ?_)
 · obtain ⟨p, ws, rfl, _⟩ := h
   rfl
 obtain ⟨p, ws, rfl, hp, h9, hf, q⟩ := h
 refine ⟨_, (zF (ps_compR (i := 1) sc_whole_or_none.nd rfl (by first | exact Or.inl rfl | exact Or.inr rfl) (compOk_of (x := "word") (M := ["words", "numbers"]) rfl (by rfl)) rfl (pi_list (pv 0)) (fun _ _ _ _ => (zL G_number_or_none (hr.mono (by first | decide | omega)) rfl T.m_number_or_none T.k_number_or_none T.b_number_or_none .nil zN (zA (pv 0) zB))))
     (zC (zH (pe_ifExp (pt_val (zL G_are_bounds (hr.mono (by first | decide | omega)) rfl T.m_are_bounds T.k_are_bounds T.b_are_bounds .nil zN (zA (pv 1) zB))) (pe_make T.mk_Whole G_c_Kind___init (hr.mono (by first | decide | omega)) rfl T.m_Whole T.b_c_Kind___init .nil zN (zA (pe_ix ix_list (pv 1) zD (fun _ _ => rfl)) (zA (pe_ix ix_list (pv 1) zD (fun _ _ => rfl)) zB))) pe_non)))), ?_⟩
 refine ⟨_, rfl, p, rfl, ⟨_, SqL.of hp⟩, ?_⟩
 refine comp_listR (xs := wv ws) (small_of (m := 900) (by rw [List.length_map]; exact h9)) (fun i ys H' => Same H H' ∧ ys = (ws.take i).map fun l => numV (numB l 60)) ⟨Same.refl _, rfl⟩ (fun i ys H' hw => SqL.of (hw.1 _ _ hp)) (fun i x ys H' hx _ hw => ?_) (fun ys H' _ hw p2 hp2 => ?_)
 · obtain ⟨sH, rfl⟩ := hw
   obtain ⟨l, hli, rfl⟩ := map_get hx
   refine ⟨_, rfl, S l, rfl, (hf l (List.mem_of_getElem? hli)).mono (by decide), fun H2 s2 => ⟨sH.trans s2, ?_⟩⟩
   rw [List.take_succ, hli, List.map_append, cd_S]; rfl
 obtain ⟨sH, rfl⟩ := hw
 rw [List.length_map, List.take_length]
 have s2 := zJ hp2 (.lst (ws.map fun l => numV (numB l 60)))
 have s12 := sH.trans s2
 have hp2' : upd H' p2 (.lst (ws.map fun l => numV (numB l 60))) p2 = some (.lst ((ws.map fun l => numB l 60).map numV)) := by rw [zE, List.map_map]; rfl
 generalize upd H' p2 (.lst (ws.map fun l => numV (numB l 60))) = H2 at s12 hp2'
 generalize ho : (ws.map fun l => numB l 60) = os at hp2'
 refine ⟨_, rfl, p2, os, rfl, SqL.of hp2', _, rfl, ?_⟩
 have ek : wholeB ws = bdK .wh os := by unfold wholeB; rw [ho]
 cases hb : bdB os with
 | false =>
   refine iteF (q _ _ s12 ?_)
   rw [ek]
   have : bdK .wh os = none := bd_false hb
   rw [this]; rfl
 | true =>
   obtain ⟨a, b, rfl, hab⟩ : ∃ a b, os = [some a, some b] ∧ a ≤ b := bd_true hb
   have h0 : atI [numV (some a), numV (some b)] ((0 : Nat) : Int) = some (.int a) := atI_nat rfl
   have h1 : atI [numV (some a), numV (some b)] ((1 : Nat) : Int) = some (.int b) := atI_nat rfl
   refine iteT ⟨_, rfl, p2, _, _, _, rfl, rfl, SqL.of hp2', h0, _, rfl, p2, _, _, _, rfl, rfl, SqL.of hp2', h1, ?_⟩
   intro x dx nx nd ne
   refine ⟨x, A.c_Whole, dx, a, b, rfl, zE, T.cl_Whole, T.no_Whole_low, T.no_Whole_high, rfl, ?_⟩
   rw [upd_upd]
   refine q _ _ (s12.trans (same_make nx nd _)) ?_
   rw [ek, show bdK .wh [some a, some b] = some (.wh a b) from if_pos hab]
   exact ⟨x, rfl, dx, _, zE, rfl⟩
theorem ok_money_kind (T : Txt K mg A) : FnOkP P w K mg base CX0 4 A.f_money_kind_or_none A.d_money_kind_or_none ["words"] (spKw A K moneyB) := by
 have G_money_or_none := ok_money_or_none (P := P) (w := w) (base := base) T
 have G_are_bounds := ok_are_bounds (P := P) (w := w) (base := base) T
 have G_c_Kind___init := ok_init (P := P) (w := w) (base := base) T
 refine T.F_money_kind_or_none.okP sc_money_kind_or_none (fun vs H Q E h => ?_) (fun cdv A0 outer s H vs Q E hr h => ?_)
 · obtain ⟨p, ws, rfl, _⟩ := h
   rfl
 obtain ⟨p, ws, rfl, hp, h9, hf, q⟩ := h
 refine ⟨_, (pssp_cons (psp_compR (i := 1) sc_money_kind_or_none.nd rfl (by first | exact Or.inl rfl | exact Or.inr rfl) (compOk_of (x := "word") (M := ["words", "numbers"]) rfl (by rfl)) rfl (pi_list (pv 0)) (fun _ _ _ _ => (pep_call G_money_or_none (hr.mono (by first | decide | omega)) rfl T.m_money_or_none T.k_money_or_none T.b_money_or_none .nil zN (zA (pv 0) zB))))
     (zC (zH (pe_ifExp (pt_val (zL G_are_bounds (hr.mono (by first | decide | omega)) rfl T.m_are_bounds T.k_are_bounds T.b_are_bounds .nil zN (zA (pv 1) zB))) (pe_make T.mk_Money G_c_Kind___init (hr.mono (by first | decide | omega)) rfl T.m_Money T.b_c_Kind___init .nil zN (zA (pe_ix ix_list (pv 1) zD (fun _ _ => rfl)) (zA (pe_ix ix_list (pv 1) zD (fun _ _ => rfl)) zB))) pe_non)))), ?_⟩
 refine ⟨_, rfl, p, rfl, ⟨_, SqL.of hp⟩, ?_⟩
 refine comp_listR (xs := wv ws) (small_of (m := 900) (by rw [List.length_map]; exact h9)) (fun i ys H' => Same H H' ∧ ys = (ws.take i).map fun l => numV (ansM l)) ⟨Same.refl _, rfl⟩ (fun i ys H' hw => SqL.of (hw.1 _ _ hp)) (fun i x ys H' hx _ hw => ?_) (fun ys H' _ hw p2 hp2 => ?_)
 · obtain ⟨sH, rfl⟩ := hw
   obtain ⟨l, hli, rfl⟩ := map_get hx
   refine ⟨_, rfl, S l, rfl, (hf l (List.mem_of_getElem? hli)).mono (by decide), fun H2 s2 => ⟨sH.trans s2, ?_⟩⟩
   rw [List.take_succ, hli, List.map_append, cd_S]; rfl
 obtain ⟨sH, rfl⟩ := hw
 rw [List.length_map, List.take_length]
 have s2 := zJ hp2 (.lst (ws.map fun l => numV (ansM l)))
 have s12 := sH.trans s2
 have hp2' : upd H' p2 (.lst (ws.map fun l => numV (ansM l))) p2 = some (.lst ((ws.map ansM).map numV)) := by rw [zE, List.map_map]; rfl
 generalize upd H' p2 (.lst (ws.map fun l => numV (ansM l))) = H2 at s12 hp2'
 generalize ho : (ws.map ansM) = os at hp2'
 refine ⟨_, rfl, p2, os, rfl, SqL.of hp2', _, rfl, ?_⟩
 have ek : moneyB ws = bdK .mo os := by unfold moneyB; rw [ho]
 cases hb : bdB os with
 | false =>
   refine iteF (q _ _ s12 ?_)
   rw [ek]
   have : bdK .mo os = none := bd_false hb
   rw [this]; rfl
 | true =>
   obtain ⟨a, b, rfl, hab⟩ : ∃ a b, os = [some a, some b] ∧ a ≤ b := bd_true hb
   have h0 : atI [numV (some a), numV (some b)] ((0 : Nat) : Int) = some (.int a) := atI_nat rfl
   have h1 : atI [numV (some a), numV (some b)] ((1 : Nat) : Int) = some (.int b) := atI_nat rfl
   refine iteT ⟨_, rfl, p2, _, _, _, rfl, rfl, SqL.of hp2', h0, _, rfl, p2, _, _, _, rfl, rfl, SqL.of hp2', h1, ?_⟩
   intro x dx nx nd ne
   refine ⟨x, A.c_Money, dx, a, b, rfl, zE, T.cl_Money, T.no_Money_low, T.no_Money_high, rfl, ?_⟩
   rw [upd_upd]
   refine q _ _ (s12.trans (same_make nx nd _)) ?_
   rw [ek, show bdK .mo [some a, some b] = some (.mo a b) from if_pos hab]
   exact ⟨x, rfl, dx, _, zE, rfl⟩
theorem ok_pick_or_none (T : Txt K mg A) : FnOk P w K mg base CX0 5 A.f_pick_or_none A.d_pick_or_none ["words"] (spKw A K pickB) := by
 have G_are_unlike_names := N.ok_unlikeL (P := P) (w := w) (base := base) T
 have G_c_Pick___init := ok_pinit (P := P) (w := w) (base := base) T
 refine T.F_pick_or_none.ok sc_pick_or_none (fun vs H Q E h => ?_) (fun cdv A0 outer s H vs Q E hr h => ?_)
 · obtain ⟨p, ws, rfl, _⟩ := h
   rfl
 obtain ⟨p, ws, rfl, hp, h9, hf, q⟩ := h
 refine ⟨_, (zF (ps_if (PW.pt (pw_and (pt_chain op_le op_le (pe_gv rfl T.g_FEWEST_WORDS) (zI call_len_seq (by rfl) T.n_len PySem.boot_len (zA (pv 0) zB)) (pe_gv rfl T.g_MOST_WORDS)) (pw_and1 (pt_val (zL G_are_unlike_names (hr.mono (by first | decide | omega)) rfl T.m_are_unlike_names T.k_are_unlike_names T.b_are_unlike_names .nil zN (zA (pv 0) zB)))))) (zC (zH (pe_make T.mk_Pick G_c_Pick___init (hr.mono (by first | decide | omega)) rfl T.m_Pick T.b_c_Pick___init .nil zN (zA (pv 0) zB)))) pss_nil)
     (zC (zH pe_non))), ?_⟩
 have non : ¬ (2 ≤ ws.length ∧ ws.length ≤ 6 ∧ N.unlikeB (wv ws) = true) → ∀ H', Same H H' → Q .non H' := fun c H' s' => q _ _ s' (by unfold pickB; rw [if_neg c]; rfl)
 refine ⟨_, rfl, p, _, rfl, .inl (SqL.of hp), _, _, rfl, rfl, _, rfl, ?_⟩
 rw [List.length_map]
 refine ite2 (fun c => ⟨_, _, rfl, rfl, _, rfl, ite2 (fun c2 => ?_) (fun c2 => ?_)⟩) (fun c => ⟨_, rfl, ?_⟩)
 · refine ⟨_, rfl, p, _, rfl, SqL.of hp, by rw [List.length_map]; omega, fun x hx => ?_, fun H1 s1 => ⟨_, rfl, ite2 (fun c3 => ?_) (fun c3 => ?_)⟩⟩
   · obtain ⟨l, hl, rfl⟩ := List.mem_map.mp hx
     exact ⟨⟨thStr T _ _, trivial⟩, fun z e => by cases e; exact hf l hl⟩
   · refine ⟨_, rfl, ?_⟩
     intro x dx nx nd ne
     have s2 := same_make nx nd (.ins A.c_Pick dx [])
     have ew : wv ws = (ws.map S).map V.str := by rw [List.map_map]; rfl
     refine ⟨x, dx, p, ws.map S, rfl, zE, (by rw [← ew]; exact (s1.trans s2) _ _ hp), fun pw H' F hx' hw' => ⟨rfl, ?_⟩⟩
     refine q _ _ (fun b o hb => ?_) ?_
     · have h1 := s1 _ _ hb
       exact F b o (ne_of_none h1 nx) (s2 _ _ h1)
     · unfold pickB
       have d1 : (2 : Int) ≤ ws.length := of_decide_eq_true c
       have d2 : (ws.length : Int) ≤ 6 := of_decide_eq_true c2
       rw [if_pos ⟨by omega, by omega, c3⟩]
       exact ⟨x, rfl, dx, _, hx', pw, rfl, hw'⟩
   · exact non (fun z => c3 z.2.2) _ s1
 · exact non (fun z => c2 (decide_eq_true (by show (ws.length : Int) ≤ 6; omega))) _ (Same.refl _)
 · exact non (fun z => c (decide_eq_true (by show (2 : Int) ≤ ws.length; omega))) _ (Same.refl _)
theorem ok_names_or_none (T : Txt K mg A) : FnOk P w K mg base CX0 5 A.f_names_or_none A.d_names_or_none ["words"] (spKw A K namesB) := by
 have G_number_or_none := ok_number_or_none (P := P) (w := w) (base := base) T
 have G_c_Names___init := N.ok_ninit (P := P) (w := w) (base := base) T
 refine T.F_names_or_none.ok sc_names_or_none (fun vs H Q E h => ?_) (fun cdv A0 outer s H vs Q E hr h => ?_)
 · obtain ⟨p, ws, rfl, _⟩ := h
   rfl
 obtain ⟨p, ws, rfl, hp, h9, hf, q⟩ := h
 refine ⟨_, (zF (ps_set (i := 1) sc_names_or_none.nd rfl (by first | exact Or.inl rfl | exact Or.inr rfl) (pe_ifExp (pt_cmpR op_eq (zI call_len_seq (by rfl) T.n_len PySem.boot_len (zA (pv 0) zB)) zD (nomark _)) (zL G_number_or_none (hr.mono (by first | decide | omega)) rfl T.m_number_or_none T.k_number_or_none T.b_number_or_none .nil zN (zA (pe_ix ix_list (pv 0) zD (fun _ _ => rfl)) zB)) pe_non))
     (zC (zH (pe_ifExp (PW.pt (pw_and (pt_cmpR op_notN (pv 1) pe_non (nomark _)) (pw_and1 (pt_chain op_le op_le zD (pv 1) (pe_gv rfl T.g_MOST_NAMES))))) (pe_make T.mk_Names G_c_Names___init (hr.mono (by first | decide | omega)) rfl T.m_Names T.b_c_Names___init .nil zN (zA (pv 1) zB)) pe_non)))), ?_⟩
 refine ⟨_, rfl, p, _, rfl, .inl (SqL.of hp), rfl, _, rfl, ite2 (fun c => ?_) (fun c => ?_)⟩
 · have c1 : (((wv ws).length : Nat) : Int) = 1 := V.int.inj (of_decide_eq_true c)
   rw [List.length_map] at c1
   obtain ⟨l, rfl⟩ : ∃ l, ws = [l] := by
     match ws, c1 with
     | [l], _ => exact ⟨l, rfl⟩
     | [], h => exact absurd h (by decide)
     | _ :: _ :: r, h => exact absurd h (by rw [List.length_cons, List.length_cons]; omega)
   have h0 : atI (wv [l]) ((0 : Nat) : Int) = some (.str (S l)) := atI_nat rfl
   refine ⟨_, rfl, p, _, _, _, rfl, rfl, SqL.of hp, h0, S l, rfl, (hf l (by simp)).mono (by decide), fun H1 s1 => ?_⟩
   rw [cd_S]
   cases hn : numB l 60 with
   | none =>
     refine ⟨_, rfl, rfl, _, rfl, iteN rfl (iteF (q _ _ s1 ?_))⟩
     show KR A H1 .non (match numB l 60 with | some m => if 1 ≤ m ∧ m ≤ 6 then some (.nm m.toNat) else none | none => none)
     rw [hn]; rfl
   | some m =>
     refine ⟨_, rfl, rfl, _, rfl, iteY rfl ?_⟩
     have en : namesB [l] = if 1 ≤ m ∧ m ≤ 6 then some (.nm m.toNat) else none := by
       show (match numB l 60 with | some m => if 1 ≤ m ∧ m ≤ 6 then some (KU.nm m.toNat) else none | none => none) = _
       rw [hn]
     refine ⟨_, rfl, _, _, rfl, rfl, _, rfl, ite2 (fun c2 => ⟨_, _, rfl, rfl, _, rfl, ite2 (fun c3 => ?_) (fun c3 => ?_)⟩) (fun c2 => ⟨_, rfl, ?_⟩)⟩
     · have d1 : (1 : Int) ≤ m := of_decide_eq_true c2
       have d2 : m ≤ 6 := of_decide_eq_true c3
       refine ⟨_, rfl, ?_⟩
       intro x dx nx nd ne
       refine ⟨x, dx, m, rfl, zE, rfl, ?_⟩
       rw [upd_upd]
       refine q _ _ (s1.trans (same_make nx nd _)) ?_
       rw [en, if_pos ⟨d1, d2⟩]
       refine ⟨x, rfl, dx, _, zE, ?_⟩
       show N.flds m = flds 0 (m.toNat : Nat)
       rw [show ((m.toNat : Nat) : Int) = m by omega]
     · refine q _ _ s1 ?_
       rw [en, if_neg (fun z => c3 (decide_eq_true z.2))]; rfl
     · refine iteF (q _ _ s1 ?_)
       rw [en, if_neg (fun z => c2 (decide_eq_true z.1))]; rfl
 · refine ⟨_, rfl, rfl, _, rfl, iteN rfl (iteF (q _ _ (Same.refl _) ?_))⟩
   have : namesB ws = none := by
     match ws, c with
     | [], _ => rfl
     | [l], h => exact absurd (decide_eq_true rfl) h
     | _ :: _ :: _, _ => rfl
   rw [this]; rfl
theorem ok_kon (T : Txt K mg A) : FnOk P w K mg base CX0 6 A.f_kind_or_none A.d_kind_or_none ["first", "words"] (spKon A K) := by
 have G_c_YesNo___init := ok_yinit (P := P) (w := w) (base := base) T
 have G_whole_or_none := ok_whole_or_none (P := P) (w := w) (base := base) T
 have G_money_kind_or_none := ok_money_kind (P := P) (w := w) (base := base) T
 have G_pick_or_none := ok_pick_or_none (P := P) (w := w) (base := base) T
 have G_names_or_none := ok_names_or_none (P := P) (w := w) (base := base) T
 refine T.F_kind_or_none.ok sc_kind_or_none (fun vs H Q E h => ?_) (fun cdv A0 outer s H vs Q E hr h => ?_)
 · obtain ⟨l, p, ws, rfl, _⟩ := h
   rfl
 obtain ⟨l, p, ws, rfl, hp, h9, hf, q⟩ := h
 refine ⟨_, (pss_ifm (ptm_cmpR op_eq (pv 0) pem_str (nomark _)) (PSs.made (zC (zH (pe_ifExp (pt_cmpR op_eq (zI call_len_seq (by rfl) T.n_len PySem.boot_len (zA (pv 1) zB)) zD (nomark _)) (pe_make0 T.mk_YesNo G_c_YesNo___init (hr.mono (by first | decide | omega)) rfl T.m_YesNo T.b_c_YesNo___init .nil zN) pe_non)))) (PSs.made pss_nil)
     (pssp_consP (PS.made (ps_if (pt_cmpR op_eq (pv 0) zG (nomark _)) (zC (zH (zL G_whole_or_none (hr.mono (by first | decide | omega)) rfl T.m_whole_or_none T.k_whole_or_none T.b_whole_or_none .nil zN (zA (pv 1) zB)))) pss_nil))
     (pssp_consP (psp_if (pt_cmpR op_eq (pv 0) zG (nomark _)) (pssp_one (psp_ret (pep_call G_money_kind_or_none (hr.mono (by first | decide | omega)) rfl T.m_money_kind_or_none T.k_money_kind_or_none T.b_money_kind_or_none .nil zN (zA (pv 1) zB)))) (PSs.made pss_nil))
     (PSs.made (zF (ps_if (pt_cmpR op_eq (pv 0) zG (nomark _)) (zC (zH (zL G_pick_or_none (hr.mono (by first | decide | omega)) rfl T.m_pick_or_none T.k_pick_or_none T.b_pick_or_none .nil zN (zA (pv 1) zB)))) pss_nil)
           (zF (ps_if (pt_cmpR op_eq (pv 0) zG (nomark _)) (zC (zH (zL G_names_or_none (hr.mono (by first | decide | omega)) rfl T.m_names_or_none T.k_names_or_none T.b_names_or_none .nil zN (zA (pv 1) zB)))) pss_nil)
           (zC (zH pe_non)))))))), ?_⟩
 refine ⟨_, rfl, rfl, _, rfl, ?_⟩
 rw [eq_cd]
 refine ite2 (fun c => ?_) (fun c => ?_)
 · have c' := of_decide_eq_true c
   have ek : kindW l ws = if ws.length = 0 then some .yn else none := if_pos c'
   rw [ek] at q
   refine ⟨_, rfl, p, _, rfl, .inl (SqL.of hp), rfl, _, rfl, ite2 (fun d => ?_) (fun d => ?_)⟩
   · have d' : (((wv ws).length : Nat) : Int) = 0 := V.int.inj (of_decide_eq_true d)
     rw [List.length_map] at d'
     intro x dx nx nd ne
     refine ⟨x, dx, rfl, zE, rfl, ?_⟩
     rw [upd_upd]
     refine q _ _ (same_make nx nd _) ?_
     rw [if_pos (by omega)]
     exact ⟨x, rfl, dx, _, zE, rfl⟩
   · refine q _ _ (Same.refl _) ?_
     rw [if_neg (fun z => d (decide_eq_true (by rw [List.length_map, z]; rfl)))]; rfl
 have e1 : kindW l ws = _ := if_neg (fun z => c (decide_eq_true z))
 refine ⟨_, rfl, rfl, _, rfl, ?_⟩
 rw [eq_cd]
 refine ite2 (fun c2 => ?_) (fun c2 => ?_)
 · rw [e1, if_pos (of_decide_eq_true c2)] at q
   exact ⟨_, rfl, p, ws, rfl, hp, h9, hf, q⟩
 rw [if_neg (fun z => c2 (decide_eq_true z))] at e1
 refine ⟨_, rfl, rfl, _, rfl, ?_⟩
 rw [eq_cd]
 refine ite2 (fun c3 => ?_) (fun c3 => ?_)
 · rw [e1, if_pos (of_decide_eq_true c3)] at q
   exact ⟨_, rfl, p, ws, rfl, hp, h9, hf, q⟩
 rw [if_neg (fun z => c3 (decide_eq_true z))] at e1
 refine ⟨_, rfl, rfl, _, rfl, ?_⟩
 rw [eq_cd]
 refine ite2 (fun c4 => ?_) (fun c4 => ?_)
 · rw [e1, if_pos (of_decide_eq_true c4)] at q
   exact ⟨_, rfl, p, ws, rfl, hp, h9, hf, q⟩
 rw [if_neg (fun z => c4 (decide_eq_true z))] at e1
 refine ⟨_, rfl, rfl, _, rfl, ?_⟩
 rw [eq_cd]
 refine ite2 (fun c5 => ?_) (fun c5 => ?_)
 · rw [e1, if_pos (of_decide_eq_true c5)] at q
   exact ⟨_, rfl, p, ws, rfl, hp, h9, hf, q⟩
 rw [if_neg (fun z => c5 (decide_eq_true z))] at e1
 rw [e1] at q
 exact q _ _ (Same.refl _) rfl
end
end K07
set_option maxHeartbeats 4000000
namespace K07
open PySem L2
seal PE PT PW PA PS PSs PG PGs PI PO PSet OpR UnR CallR TruR IxR SlR PC PPs
local macro_rules | `(tactic| walk_at "rd1") => `(tactic| first
 | (refine And.intro rfl ?_)
 | (refine And.intro (by assumption) ?_)
 | (refine And.intro (fun _ e => e) ?_)
 | (refine And.intro (TyOf.str _) ?_) | (refine And.intro (TyOf.int _) ?_) | (refine And.intro (TyOf.bl _) ?_) | (refine And.intro TyOf.non ?_)
 | (refine iteT ?_) | (refine iteF ?_)
 | (apply Exists.intro))
local macro_rules | `(tactic| walk_at "rd") => `(tactic| repeat (walk_at "rd1"))
abbrev hYn : List Nat := cd (Str.ofString "yesno")
abbrev hWh : List Nat := cd (Str.ofString "whole")
abbrev hMo : List Nat := cd (Str.ofString "money")
abbrev hPk : List Nat := cd (Str.ofString "pick")
abbrev hNm : List Nat := cd (Str.ofString "names")
theorem kW_yn (r : List (List Nat)) : kindW hYn r = if r.length = 0 then some .yn else none := if_pos rfl
theorem kW_wh (r : List (List Nat)) : kindW hWh r = wholeB r := (if_neg (by symm)).trans (if_pos rfl)
theorem kW_mo (r : List (List Nat)) : kindW hMo r = moneyB r := (if_neg (by symm)).trans ((if_neg (by symm)).trans (if_pos rfl))
theorem kW_pk (r : List (List Nat)) : kindW hPk r = pickB r := (if_neg (by symm)).trans ((if_neg (by symm)).trans ((if_neg (by symm)).trans (if_pos rfl)))
theorem kW_nm (r : List (List Nat)) : kindW hNm r = namesB r := (if_neg (by symm)).trans ((if_neg (by symm)).trans ((if_neg (by symm)).trans ((if_neg (by symm)).trans (if_pos rfl))))
theorem kW_no {l : List Nat} (h : l ≠ hYn ∧ l ≠ hWh ∧ l ≠ hMo ∧ l ≠ hPk ∧ l ≠ hNm) (r : List (List Nat)) : kindW l r = none := (if_neg h.1).trans ((if_neg h.2.1).trans ((if_neg h.2.2.1).trans ((if_neg h.2.2.2.1).trans (if_neg h.2.2.2.2))))
def KGood : KU → Prop
 | .yn => True
 | .wh lo hi => (KU.wh lo hi).Good
 | .mo lo hi => (KU.mo lo hi).Good
 | .pk ws => 2 ≤ ws.length ∧ ws.length ≤ 6 ∧ ws.Nodup ∧ ∀ z ∈ ws, N.nameB z = true
 | .nm m => 1 ≤ m ∧ m ≤ 6
theorem KGood.good {ku : KU} (h : KGood ku) : ku.Good := by
 cases ku with
 | yn => trivial
 | wh lo hi => exact h
 | mo lo hi => exact h
 | pk ws => exact ⟨⟨h.2.2.1, fun z hz => name_let (h.2.2.2 z hz)⟩, by have := h.1; omega, h.2.1⟩
 | nm m => exact h.2
def wds : KU → List (List Nat)
 | .yn => [hYn]
 | .wh lo hi => [hWh, numL lo, numL hi]
 | .mo lo hi => [hMo, monL lo, monL hi]
 | .pk ws => hPk :: ws.map cd
 | .nm m => [hNm, numL m]
theorem tld_join {ku : KU} (h : KGood ku) : tld ku = joinL [32] (wds ku) := by
 cases ku with
 | yn => rfl
 | wh lo hi =>
   show cd (Str.ofString "whole ") ++ (numL lo ++ [32] ++ numL hi) = hWh ++ [32] ++ (numL lo ++ [32] ++ numL hi)
   rw [show cd (Str.ofString "whole ") = hWh ++ [32] by symm]
 | mo lo hi =>
   show cd (Str.ofString "money ") ++ (monL lo ++ [32] ++ monL hi) = hMo ++ [32] ++ (monL lo ++ [32] ++ monL hi)
   rw [show cd (Str.ofString "money ") = hMo ++ [32] by symm]
 | pk ws =>
   have h2 : 2 ≤ ws.length := h.1
   obtain ⟨a, r, e⟩ : ∃ a r, ws.map cd = a :: r := by
     cases hw : ws.map cd with
     | nil => have := congrArg List.length hw; rw [List.length_map] at this; simp at this; rw [this] at h2; simp at h2
     | cons a r => exact ⟨a, r, rfl⟩
   show cd (Str.ofString "pick ") ++ joinL [32] (ws.map cd) = joinL [32] (hPk :: ws.map cd)
   rw [e]
   show _ = hPk ++ [32] ++ joinL [32] (a :: r)
   rw [show cd (Str.ofString "pick ") = hPk ++ [32] by symm]
 | nm m =>
   show cd (Str.ofString "names ") ++ numL m = hNm ++ [32] ++ numL m
   rw [show cd (Str.ofString "names ") = hNm ++ [32] by symm]
theorem num_back {n : Int} (h : n.natAbs < 10 ^ 60) : numB (numL n) 60 = some n := by
 have g : (KU.wh n n).Good := ⟨Int.le_refl _, h, h⟩
 have := ans_shw (ku := .wh n n) (a := .i n) g (by show (decide (n ≤ n) && decide (n ≤ n)) = true; simp)
 have this : (numB (numL n) 60).map AV.i = some (.i n) := this
 cases e : numB (numL n) 60 with
 | none => rw [e] at this; cases this
 | some m => rw [e] at this; have : some (AV.i m) = some (.i n) := this; cases this; rfl
theorem mon_back {n : Int} (h : n.natAbs < 10 ^ 60) : ansM (monL n) = some n := by
 have g : (KU.mo n n).Good := ⟨Int.le_refl _, h, h⟩
 have := ans_shw (ku := .mo n n) (a := .i n) g (by show (decide (n ≤ n) && decide (n ≤ n)) = true; simp)
 have this : (ansM (monL n)).map AV.i = some (.i n) := this
 cases e : ansM (monL n) with
 | none => rw [e] at this; cases this
 | some m => rw [e] at this; have : some (AV.i m) = some (.i n) := this; cases this; rfl
theorem num_free (n : Int) : 32 ∉ numL n := by
 intro h
 unfold numL at h
 split at h
 · rcases List.mem_cons.mp h with e | e
   · cases e
   · have := dig_fig e; omega
 · have := dig_fig h; omega
theorem mon_free {n : Int} (h : n.natAbs < 10 ^ 60) : 32 ∉ monL n := by
 intro e
 have hb := mon_back h
 unfold ansM at hb
 by_cases c : (filt (monL n)).length = 0 ∨ (filt (monL n)).all inF = false ∨ 60 < (filt (monL n)).length
 · rw [if_pos c] at hb; cases hb
 · have hm : 32 ∈ filt (monL n) := by
     unfold filt
     rw [List.mem_filter, List.mem_filter]
     exact ⟨⟨e, by decide⟩, by decide⟩
   have ha : (filt (monL n)).all inF = true := by
     cases z : (filt (monL n)).all inF with
     | true => rfl
     | false => exact absurd (.inr (.inl z)) c
   have := (inF_iff 32).mp (List.all_eq_true.mp ha 32 hm)
   omega
theorem name_free {z : Str} (h : N.nameB z = true) : 32 ∉ cd z := fun e => by have := (name_let h).2.2 _ e; omega
theorem wds_free {ku : KU} (h : KGood ku) : ∀ l ∈ wds ku, 32 ∉ l := by
 intro l hl
 cases ku with
 | yn => rw [List.mem_singleton.mp hl]; decide +kernel
 | wh lo hi =>
   rcases List.mem_cons.mp hl with e | hl
   · rw [e]; decide +kernel
   · rcases List.mem_cons.mp hl with e | hl
     · rw [e]; exact num_free _
     · rw [List.mem_singleton.mp hl]; exact num_free _
 | mo lo hi =>
   rcases List.mem_cons.mp hl with e | hl
   · rw [e]; decide +kernel
   · rcases List.mem_cons.mp hl with e | hl
     · rw [e]; exact mon_free h.2.1
     · rw [List.mem_singleton.mp hl]; exact mon_free h.2.2
 | pk ws =>
   rcases List.mem_cons.mp hl with e | hl
   · rw [e]; decide +kernel
   · obtain ⟨z, hz, rfl⟩ := List.mem_map.mp hl
     exact name_free (h.2.2.2 z hz)
 | nm m =>
   rcases List.mem_cons.mp hl with e | hl
   · rw [e]; decide +kernel
   · rw [List.mem_singleton.mp hl]; exact num_free _
theorem wds_ne (ku : KU) : wds ku ≠ [] := by cases ku <;> (intro e; cases e)
theorem wv_cd (ws : List Str) : wv (ws.map cd) = ws.map V.str := by
 show List.map (fun l => V.str (S l)) (ws.map cd) = _
 rw [List.map_map]; exact List.map_congr_left fun z _ => by show V.str (S (cd z)) = V.str z; rw [S_cd]
theorem kind_wds {ku : KU} (h : KGood ku) : kindL (wds ku) = some ku := by
 cases ku with
 | yn => rfl
 | wh lo hi =>
   show kindW hWh [numL lo, numL hi] = _
   rw [kW_wh]
   show bk2 .wh (numB (numL lo) 60) (numB (numL hi) 60) = _
   rw [num_back h.2.1, num_back h.2.2]
   exact if_pos h.1
 | mo lo hi =>
   show kindW hMo [monL lo, monL hi] = _
   rw [kW_mo]
   show bk2 .mo (ansM (monL lo)) (ansM (monL hi)) = _
   rw [mon_back h.2.1, mon_back h.2.2]
   exact if_pos h.1
 | pk ws =>
   show kindW hPk (ws.map cd) = _
   rw [kW_pk]
   unfold pickB
   rw [wv_cd, N.unlike_strs, List.length_map, if_pos ⟨h.1, h.2.1, by rw [List.all_eq_true.mpr h.2.2.2, decide_eq_true h.2.2.1]; rfl⟩, SS_cd]
 | nm m =>
   show kindW hNm [numL m] = _
   rw [kW_nm]
   have h1 : 1 ≤ m := h.1
   have h6 : m ≤ 6 := h.2
   have p60 : (7 : Nat) < 10 ^ 60 := by symm
   have e : namesB [numL (m : Int)] = (match numB (numL (m : Int)) 60 with | some m => if 1 ≤ m ∧ m ≤ 6 then some (KU.nm m.toNat) else none | none => none) := rfl
   rw [e, num_back (by omega)]
   show (if 1 ≤ (m : Int) ∧ (m : Int) ≤ 6 then some (KU.nm (m : Int).toNat) else none) = _
   rw [if_pos ⟨by omega, by omega⟩]; rfl
theorem told_kind {ku : KU} (h : KGood ku) : kindL (splitL (tld ku)) = some ku := by
 rw [tld_join h, splitL_of (wds_ne ku) (wds_free h), kind_wds h]
theorem bdK_len {mk : Int → Int → KU} {os : List (Option Int)} (h : os.length ≠ 2) : bdK mk os = none := bd_false (bd_len h)
theorem bdK_non {mk : Int → Int → KU} (os : List (Option Int)) : bdK mk (none :: os) = none := by
 match os with
 | [] => rfl
 | [_] => rfl
 | _ :: _ :: _ => rfl
theorem nmB_len {ws : List (List Nat)} (h : ws.length ≠ 1) : namesB ws = none := by
 match ws with
 | [] => rfl
 | [_] => exact absurd rfl h
 | _ :: _ :: _ => rfl
theorem pkB_bad {ws : List (List Nat)} {x : List Nat} (hx : x ∈ ws) (h : N.nameB (S x) = false) : pickB ws = none := by
 unfold pickB
 refine if_neg fun z => ?_
 have hu := z.2.2
 unfold N.unlikeB at hu
 rw [Bool.and_eq_true] at hu
 have := List.all_eq_true.mp hu.1 (.str (S x)) (List.mem_map.mpr ⟨x, hx, rfl⟩)
 have this : N.nameB (S x) = true := this
 rw [h] at this; cases this
theorem more_none {ku : KU} {ex : List (List Nat)} {x : List Nat} (hx : x ∈ ex) (h : N.nameB (S x) = false) : kindL (wds ku ++ ex) = none := by
 have hl : 1 ≤ ex.length := by cases ex with
   | nil => cases hx
   | cons _ _ => rw [List.length_cons]; omega
 cases ku with
 | yn => show kindW hYn ex = none; rw [kW_yn, if_neg (by omega)]
 | wh lo hi => show kindW hWh (numL lo :: numL hi :: ex) = none; rw [kW_wh]; exact bdK_len (by rw [List.length_map, List.length_cons, List.length_cons]; omega)
 | mo lo hi => show kindW hMo (monL lo :: monL hi :: ex) = none; rw [kW_mo]; exact bdK_len (by rw [List.length_map, List.length_cons, List.length_cons]; omega)
 | pk ws => show kindW hPk (ws.map cd ++ ex) = none; rw [kW_pk]; exact pkB_bad (List.mem_append_right _ hx) h
 | nm m => show kindW hNm (numL m :: ex) = none; rw [kW_nm]; exact nmB_len (by rw [List.length_cons]; omega)
theorem ahead_none (ws : List (List Nat)) : kindL ([] :: ws) = none := kW_no (l := []) ⟨by symm, by symm, by symm, by symm, by symm⟩ ws
def addLast : List (List Nat) → List Nat → List (List Nat)
 | [], _ => []
 | [a], x => [a ++ x]
 | a :: b :: r, x => a :: addLast (b :: r) x
theorem addLast_ne {b : List Nat} {r : List (List Nat)} {x : List Nat} : ∃ c s, addLast (b :: r) x = c :: s := by
 cases r with
 | nil => exact ⟨_, _, rfl⟩
 | cons d r => exact ⟨_, _, rfl⟩
theorem addLast_join : ∀ {ws : List (List Nat)} (x : List Nat), ws ≠ [] → joinL [32] (addLast ws x) = joinL [32] ws ++ x
 | [a], x, _ => rfl
 | a :: b :: r, x, _ => by
   have ih := addLast_join (ws := b :: r) x (by simp)
   obtain ⟨c, s, e⟩ := addLast_ne (b := b) (r := r) (x := x)
   show joinL [32] (a :: addLast (b :: r) x) = a ++ [32] ++ joinL [32] (b :: r) ++ x
   rw [e] at ih ⊢
   show a ++ [32] ++ joinL [32] (c :: s) = _
   rw [ih, List.append_assoc, List.append_assoc, List.append_assoc]
theorem addLast_mem : ∀ {ws : List (List Nat)} {x p : List Nat}, p ∈ addLast ws x → p ∈ ws ∨ ∃ q ∈ ws, p = q ++ x
 | [a], x, p, h => .inr ⟨a, by simp, List.mem_singleton.mp h⟩
 | a :: b :: r, x, p, h => by
   rcases List.mem_cons.mp h with e | h
   · exact .inl (by rw [e]; exact List.mem_cons_self)
   · rcases addLast_mem h with e | ⟨q, hq, e⟩
     · exact .inl (List.mem_cons_of_mem _ e)
     · exact .inr ⟨q, List.mem_cons_of_mem _ hq, e⟩
theorem wide_none {ku : KU} (h : KGood ku) : kindL (addLast (spread (wds ku)) [10]) = none := by
 have two : ∀ (l a : List Nat) (r : List (List Nat)), ∃ c s, addLast (spread (l :: a :: r)) [10] = l :: [] :: c :: s := by
   intro l a r
   have hne := spread_ne (ws := a :: r) (by simp)
   cases hs : spread (a :: r) with
   | nil => exact absurd hs hne
   | cons b t =>
     obtain ⟨c, s, e⟩ := addLast_ne (b := b) (r := t) (x := [10])
     refine ⟨c, s, ?_⟩
     show addLast (l :: [] :: spread (a :: r)) [10] = _
     rw [hs]
     show l :: [] :: addLast (b :: t) [10] = _
     rw [e]
 cases ku with
 | yn => exact kW_no ⟨by symm, by symm, by symm, by symm, by symm⟩ []
 | wh lo hi =>
   obtain ⟨c, s, e⟩ := two hWh (numL lo) [numL hi]
   show kindL (addLast (spread (hWh :: numL lo :: [numL hi])) [10]) = none
   rw [e]
   show kindW hWh ([] :: c :: s) = none
   rw [kW_wh]
   show bdK .wh (numB [] 60 :: _) = none
   rw [show numB [] 60 = none by symm]; exact bdK_non _
 | mo lo hi =>
   obtain ⟨c, s, e⟩ := two hMo (monL lo) [monL hi]
   show kindL (addLast (spread (hMo :: monL lo :: [monL hi])) [10]) = none
   rw [e]
   show kindW hMo ([] :: c :: s) = none
   rw [kW_mo]
   show bdK .mo (ansM [] :: _) = none
   rw [show ansM [] = none by symm]; exact bdK_non _
 | pk ws =>
   obtain ⟨a, r, ea⟩ : ∃ a r, ws.map cd = a :: r := by
     cases hw : ws.map cd with
     | nil => have := congrArg List.length hw; rw [List.length_map] at this; simp at this; have h2 : 2 ≤ ws.length := h.1; rw [this] at h2; simp at h2
     | cons a r => exact ⟨a, r, rfl⟩
   obtain ⟨c, s, e⟩ := two hPk a r
   show kindL (addLast (spread (hPk :: ws.map cd)) [10]) = none
   rw [ea, e]
   show kindW hPk ([] :: c :: s) = none
   rw [kW_pk]
   exact pkB_bad (x := []) (by simp) (by symm)
 | nm m =>
   obtain ⟨c, s, e⟩ := two hNm (numL m) []
   show kindL (addLast (spread (hNm :: numL m :: [])) [10]) = none
   rw [e]
   show kindW hNm ([] :: c :: s) = none
   rw [kW_nm]
   exact nmB_len (by rw [List.length_cons, List.length_cons]; omega)
section
variable {P : Program} {w : World} {K : W.Frag} {mg : Str → Option Value} {base : Heap} {A : Adr}
theorem ok_kof (T : Txt K mg A) : FnOk P w K mg base (CXW P w) 7 A.f_kind_of A.d_kind_of ["text"] (spKof A K) := by
 have G_kind_or_none := ok_kon (P := P) (w := w) (base := base) T
 refine T.F_kind_of.okX sc_kind_of (fun vs H Q E h => ?_) (fun cdv A0 outer s H vs' Q E hr h => ?_)
 · obtain ⟨x, rfl, _⟩ := h
   rfl
 obtain ⟨x, rfl, h⟩ := h
 refine ⟨_, (zF (ps_if (pt_not (pt_val (zI call_isi (by rfl) T.n_isinstance Bt.isinstance (zA (pv 0) (zA (pe_bltn (v := .ty "str") rfl T.n_str Bt.str rfl) zB))))) (zC (ps_raise T.m_NoKind T.x_NoKind (zA zG zB) rfl)) pss_nil)
     (zF (ps_set (i := 1) sc_kind_of.nd rfl (by first | exact Or.inl rfl | exact Or.inr rfl) (pe_bm PySem.F.plainAttrs_str PySem.F.slot_str_split PySem.F.type_str_split mt_split (pv 0) (zA zG zB)))
     (zF (ps_set (i := 2) sc_kind_of.nd rfl (by first | exact Or.inl rfl | exact Or.inr rfl) (zL G_kind_or_none (hr.mono (by first | decide | omega)) rfl T.m_kind_or_none T.k_kind_or_none T.b_kind_or_none .nil zN (zA (pe_ix ix_list (pv 1) zD (fun _ _ => rfl)) (zA (pe_slice sl_list (pv 1) (po_some zD) po_none) zB))))
     (zF (ps_if (pt_cmpR op_isN (pv 2) pe_non (nomark _)) (zC (ps_raise T.m_NoKind T.x_NoKind (zA (pe_fstrR (pv 0)) zB) rfl)) pss_nil)
     (zC (zH (pv 2))))))), ?_⟩
 rcases h with ⟨z, rfl, hz, qs, qn⟩ | ⟨t, ty, kt, q⟩
 · refine ⟨_, rfl, _, _, _, _, rfl, rfl, .old (.str z), T.i_str_str, _, rfl, iteF ?_⟩
   refine ⟨_, rfl, rfl, z, _, rfl, rfl, (by symm), Nat.le_trans hz.len (by decide), fun l hl => ?_⟩
   have sl := zJ hl (.lst ((Txt.split z (Str.ofString " ")).map V.str))
   have ew : (Txt.split z (Str.ofString " ")).map V.str = wv (splitL (cd z)) := by
     rw [show Str.ofString " " = S [32] by symm, split_is, List.map_map]; rfl
   rw [ew] at sl ⊢
   have hlw : upd H l (.lst (wv (splitL (cd z)))) l = some (.lst (wv (splitL (cd z)))) := zE
   generalize upd H l (.lst (wv (splitL (cd z)))) = H1 at sl hlw
   have hlen : (splitL (cd z)).length ≤ 893 := by
     unfold splitL
     rw [List.length_map]
     have h1 := PyProof.Rows.split_le (S (cd z)) (S [32])
     rw [S_cd] at h1
     have := hz.len
     rw [S_cd]
     omega
   have hfw : ∀ w' ∈ splitL (cd z), Fine 900 (S w') := fun w' hw' => by
     have e := splitL_join (cd z)
     refine ⟨?_, fun c hc => ?_⟩
     · have h1 := N.len_joinL (sep := [32]) hw'
       rw [e] at h1
       have := hz.len
       rw [len_S]; rw [len_cd] at this; omega
     · rw [cd_S] at hc
       have h1 := N.mem_joinL (sep := [32]) hw' hc
       rw [e] at h1
       exact hz.cod c h1
   cases hs : splitL (cd z) with
   | nil => exact absurd hs (splitL_ne _)
   | cons w0 r =>
     rw [hs] at hlw hlen hfw qs qn
     have hat : atI (wv (w0 :: r)) ((0 : Nat) : Int) = some (.str (S w0)) := atI_nat rfl
     refine ⟨_, rfl, l, _, _, _, rfl, rfl, SqL.of hlw, hat, _, rfl, _, rfl, l, _, rfl, SqL.of hlw, fun pc hpc => ?_⟩
     have ec : cutV (wv (w0 :: r)) (some 1) none = wv r := cut_1 _ _
     rw [ec]
     have s2 := zJ hpc (.lst (wv r))
     refine ⟨w0, pc, r, rfl, zE, (by rw [List.length_cons] at hlen; omega), fun l' hl' => hfw l' (List.mem_cons_of_mem _ hl'), fun x H3 s3 hk => ?_⟩
     have sA := sl.trans (s2.trans s3)
     have ek : kindL (w0 :: r) = kindW w0 r := rfl
     cases ho : kindW w0 r with
     | none =>
       rw [ho] at hk
       have hk : x = .non := hk
       subst hk
       refine ⟨_, rfl, rfl, _, rfl, iteT ⟨_, rfl, z, rfl, Nat.le_trans hz.len (by decide), hz.cod, fun y => ⟨(by show 1 ≤ sizeLine; decide), qn (ek.trans ho) _ sA⟩⟩⟩
     | some ku =>
       rw [ho] at hk
       obtain ⟨p, rfl, hp⟩ := hk
       exact ⟨_, rfl, rfl, _, rfl, iteF ⟨_, rfl, qs ku (ek.trans ho) p _ sA hp⟩⟩
 · refine ⟨_, rfl, _, _, _, _, rfl, rfl, ty, kt, _, rfl, iteT ?_⟩
   exact ⟨(by show 1 ≤ sizeLine; decide), q _ (Same.refl _)⟩
end
end K07
set_option maxHeartbeats 4000000
namespace K07
open PySem L2
seal PE PT PW PA PS PSs PG PGs PI PO PSet OpR UnR CallR TruR IxR SlR PC PPs
local macro_rules | `(tactic| walk_at "rd1") => `(tactic| first
 | (refine And.intro rfl ?_)
 | (refine And.intro (by assumption) ?_)
 | (refine And.intro (fun _ e => e) ?_)
 | (refine And.intro (TyOf.str _) ?_) | (refine And.intro (TyOf.int _) ?_) | (refine And.intro (TyOf.bl _) ?_) | (refine And.intro TyOf.non ?_)
 | (refine iteT ?_) | (refine iteF ?_)
 | (apply Exists.intro))
local macro_rules | `(tactic| walk_at "rd") => `(tactic| repeat (walk_at "rd1"))
def spWide : Sp := fun vs H Q _ => ∃ n : Int, vs = [.int n] ∧ ib n ≤ 2000000 ∧ ∀ m : Int, 0 ≤ m → m < 10 ^ 59 → Q (.int m) H
def spLow : Sp := fun vs H Q _ => ∃ n : Int, vs = [.int n] ∧ ib n ≤ 1048576 ∧ ∀ (m : Int) H', -(10 ^ 59) < m → m < 10 ^ 59 → Same H H' → Q (.int m) H'
def spSize : Sp := fun vs H Q _ => ∃ n : Int, vs = [.int n] ∧ ib n ≤ 1048576 ∧ ∀ (m : Int) H', 0 ≤ m → m < 10 ^ 59 → Same H H' → Q (.int m) H'
theorem big59 : (41 : Int) < 10 ^ 59 ∧ (300 : Int) < 10 ^ 59 := by symm
section
variable {P : Program} {w : World} {K : W.Frag} {mg : Str → Option Value} {base : Heap} {A : Adr}
theorem ok_law_whole (T : Txt K mg A) : FnOk P w K mg base CX0 1 A.f_law_whole A.d_law_whole ["_law_found"] (spIsWhole K) := by
 refine T.F_law_whole.ok sc_law_whole (fun vs H Q E h => ?_) (fun cdv A0 outer s H vs Q E hr h => ?_)
 · obtain ⟨x, _, _, _, rfl, _⟩ := h
   rfl
 obtain ⟨x, t, bi, bb, rfl, ty, k1, k2, q⟩ := h
 refine ⟨_, (zC (zH (pe_and (zI call_isi (by rfl) T.n_isinstance Bt.isinstance (zA (pv 0) (zA (pe_bltn (v := .ty "int") rfl T.n_int Bt.int rfl) zB))) (pe_one (pe_not (zI call_isi (by rfl) T.n_isinstance Bt.isinstance (zA (pv 0) (zA (pe_bltn (v := .ty "bool") rfl T.n_bool Bt.bool rfl) zB)))))))), ?_⟩
 refine ⟨_, rfl, _, _, _, _, rfl, rfl, ty, k1, _, rfl, ?_⟩
 cases bi with
 | false => exact iteF q
 | true => exact iteT ⟨_, rfl, _, _, _, _, rfl, rfl, ty, k2, _, rfl, q⟩
theorem ok_law_wide (T : Txt K mg A) : FnOk P w K mg base CX0 1 A.f_law_wide A.d_law_wide ["_law_cell"] spWide := by
 refine T.F_law_wide.ok sc_law_wide (fun vs H Q E h => ?_) (fun cdv A0 outer s H vs Q E hr h => ?_)
 · obtain ⟨x, rfl, _⟩ := h
   rfl
 obtain ⟨n, rfl, hb, q⟩ := h
 refine ⟨_, (zC (zH (zK op_mod (zK op_mulB (pv 0) zD) (zK op_pow zD zD)))), ?_⟩
 refine ⟨_, rfl, _, _, rfl, rfl, ⟨Nat.le_trans hb (by decide), Nat.le_trans (ib_big (m := 256) (by symm)) (by decide)⟩, ?_⟩
 refine ⟨_, _, rfl, rfl, ⟨by decide, by decide, by decide⟩, _, _, rfl, rfl, (by show (0 : Int) < 10 ^ (59 : Int).toNat; decide +kernel), ?_⟩
 exact q _ (Int.emod_nonneg _ (by symm)) (Int.emod_lt_of_pos _ (by symm))
theorem ok_law_low (T : Txt K mg A) : FnOk P w K mg base CX0 2 A.f_law_low A.d_law_low ["_law_cell"] spLow := by
 have G_law_wide := ok_law_wide (P := P) (w := w) (base := base) T
 refine T.F_law_low.ok sc_law_low (fun vs H Q E h => ?_) (fun cdv A0 outer s H vs Q E hr h => ?_)
 · obtain ⟨x, rfl, _⟩ := h
   rfl
 obtain ⟨n, rfl, hb, q⟩ := h
 refine ⟨_, (zC (zH (pe_ix ix_list (pe_lst (zA (zK op_sub (zK op_mod (zK op_fdiv (pv 0) zD) zD) zD) (zA (zL G_law_wide (hr.mono (by first | decide | omega)) rfl T.m_law_wide T.k_law_wide T.b_law_wide .nil zN (zA (pv 0) zB)) (zA (zK op_sub zD (zL G_law_wide (hr.mono (by first | decide | omega)) rfl T.m_law_wide T.k_law_wide T.b_law_wide .nil zN (zA (pv 0) zB))) zB)))) (zK op_mod (pv 0) zD) (fun _ _ => rfl)))), ?_⟩
 refine ⟨_, rfl, _, _, rfl, rfl, ⟨by decide, by decide⟩, _, _, rfl, rfl, (by show (0 : Int) < 41; decide), _, _, rfl, rfl, ?_⟩
 refine ⟨_, rfl, n, rfl, Nat.le_trans hb (by decide), fun m1 a1 b1 => ?_⟩
 refine ⟨_, rfl, n, rfl, Nat.le_trans hb (by decide), fun m2 a2 b2 => ?_⟩
 refine ⟨_, _, rfl, rfl, (by show 3 ≤ sizeLine; decide), fun p hp => ?_⟩
 have h0 : 0 ≤ n % 3 := Int.emod_nonneg _ (by decide)
 have h1 : n % 3 < 3 := Int.emod_lt_of_pos _ (by decide)
 have c0 : 0 ≤ n / 3 % 41 := Int.emod_nonneg _ (by decide)
 have c1 : n / 3 % 41 < 41 := Int.emod_lt_of_pos _ (by decide)
 obtain ⟨v, hv, hv2⟩ := at_some (l := [V.int (n / 3 % 41 - 20), V.int m1, V.int (0 - m2)]) (i := n % 3) h0 (by show n % 3 < 3; exact h1)
 obtain ⟨k, rfl, k0, k1⟩ : ∃ k, v = .int k ∧ -(10 ^ 59) < k ∧ k < 10 ^ 59 := by
   have hm := List.mem_of_getElem? hv2
   have := big59
   simp only [List.mem_cons, List.not_mem_nil, or_false] at hm
   rcases hm with e | e | e
   · exact ⟨_, e, by omega, by omega⟩
   · exact ⟨_, e, by omega, by omega⟩
   · exact ⟨_, e, by omega, by omega⟩
 exact ⟨_, rfl, _, _, rfl, rfl, (by show (0 : Int) < 3; decide), p, _, _, _, rfl, rfl, SqL.of zE, hv, q k _ k0 k1 (zJ hp _)⟩
theorem ok_law_size (T : Txt K mg A) : FnOk P w K mg base CX0 2 A.f_law_size A.d_law_size ["_law_cell"] spSize := by
 have G_law_wide := ok_law_wide (P := P) (w := w) (base := base) T
 refine T.F_law_size.ok sc_law_size (fun vs H Q E h => ?_) (fun cdv A0 outer s H vs Q E hr h => ?_)
 · obtain ⟨x, rfl, _⟩ := h
   rfl
 obtain ⟨n, rfl, hb, q⟩ := h
 refine ⟨_, (zC (zH (pe_ix ix_list (pe_lst (zA (zK op_mod (zK op_fdiv (pv 0) zD) zD) (zA (zK op_mod (zK op_fdiv (pv 0) zD) zD) (zA (zK op_mod (zL G_law_wide (hr.mono (by first | decide | omega)) rfl T.m_law_wide T.k_law_wide T.b_law_wide .nil zN (zA (pv 0) zB)) (zK op_pow zD zD)) (zA (zL G_law_wide (hr.mono (by first | decide | omega)) rfl T.m_law_wide T.k_law_wide T.b_law_wide .nil zN (zA (pv 0) zB)) zB))))) (zK op_mod (pv 0) zD) (fun _ _ => rfl)))), ?_⟩
 refine ⟨_, rfl, _, _, rfl, rfl, ⟨by decide, by decide⟩, _, _, rfl, rfl, (by show (0 : Int) < 5; decide), ?_⟩
 refine ⟨_, rfl, _, _, rfl, rfl, ⟨by decide, by decide⟩, _, _, rfl, rfl, (by show (0 : Int) < 300; decide), ?_⟩
 refine ⟨_, rfl, n, rfl, Nat.le_trans hb (by decide), fun m1 a1 b1 => ?_⟩
 refine ⟨_, _, rfl, rfl, ⟨by decide, by decide, by decide⟩, _, _, rfl, rfl, (by show (0 : Int) < 10 ^ (18 : Int).toNat; decide +kernel), ?_⟩
 refine ⟨_, rfl, n, rfl, Nat.le_trans hb (by decide), fun m2 a2 b2 => ?_⟩
 refine ⟨(by show 4 ≤ sizeLine; decide), fun p hp => ?_⟩
 have h0 : 0 ≤ n % 4 := Int.emod_nonneg _ (by decide)
 have h1 : n % 4 < 4 := Int.emod_lt_of_pos _ (by decide)
 have c0 : 0 ≤ n / 4 % 5 := Int.emod_nonneg _ (by decide)
 have c1 : n / 4 % 5 < 5 := Int.emod_lt_of_pos _ (by decide)
 have d0 : 0 ≤ n / 4 % 300 := Int.emod_nonneg _ (by decide)
 have d1 : n / 4 % 300 < 300 := Int.emod_lt_of_pos _ (by decide)
 have e18 : (10 : Int) ^ (18 : Int).toNat = 1000000000000000000 := by symm
 have f0 : 0 ≤ m1 % 10 ^ (18 : Int).toNat := Int.emod_nonneg _ (by symm)
 have f1 : m1 % 10 ^ (18 : Int).toNat < 10 ^ (18 : Int).toNat := Int.emod_lt_of_pos _ (by symm)
 have b18 : (1000000000000000000 : Int) < 10 ^ 59 := by symm
 obtain ⟨v, hv, hv2⟩ := at_some (l := [V.int (n / 4 % 5), V.int (n / 4 % 300), V.int (m1 % 10 ^ (18 : Int).toNat), V.int m2]) (i := n % 4) h0 (by show n % 4 < 4; exact h1)
 obtain ⟨k, rfl, k0, k1⟩ : ∃ k, v = .int k ∧ 0 ≤ k ∧ k < 10 ^ 59 := by
   have hm := List.mem_of_getElem? hv2
   have := big59
   simp only [List.mem_cons, List.not_mem_nil, or_false] at hm
   rcases hm with e | e | e | e
   · exact ⟨_, e, by omega, by omega⟩
   · exact ⟨_, e, by omega, by omega⟩
   · refine ⟨_, e, f0, ?_⟩
     rw [e18] at f1 ⊢
     exact Int.lt_trans f1 b18
   · exact ⟨_, e, a2, b2⟩
 exact ⟨_, rfl, _, _, rfl, rfl, (by show (0 : Int) < 4; decide), p, _, _, _, rfl, rfl, SqL.of zE, hv, q k _ k0 k1 (zJ hp _)⟩
end
end K07
namespace K07
open PySem L2
seal PE PT PW PA PS PSs PG PGs PI PO PSet OpR UnR CallR TruR IxR SlR PC PPs
local macro_rules | `(tactic| walk_at "rd1") => `(tactic| first
 | (refine And.intro rfl ?_)
 | (refine And.intro (by assumption) ?_)
 | (refine And.intro (fun _ e => e) ?_)
 | (refine And.intro (TyOf.str _) ?_) | (refine And.intro (TyOf.int _) ?_) | (refine And.intro (TyOf.bl _) ?_) | (refine And.intro TyOf.non ?_)
 | (refine iteT ?_) | (refine iteF ?_)
 | (apply Exists.intro))
local macro_rules | `(tactic| walk_at "rd") => `(tactic| repeat (walk_at "rd1"))
def ltr (n : Int) : Nat := 97 + (n % 26).toNat
theorem ltr_rng (n : Int) : 97 ≤ ltr n ∧ ltr n ≤ 122 := by
 have h0 : 0 ≤ n % 26 := Int.emod_nonneg _ (by decide)
 have h1 : n % 26 < 26 := Int.emod_lt_of_pos _ (by decide)
 unfold ltr; omega
def one (b : List Nat) : List Str := b.map fun c => S [c]
theorem one_sum (b : List Nat) : ((one b).map (·.length)).sum = b.length := by
 induction b with
 | nil => rfl
 | cons c r ih =>
   show (S [c]).length + ((one r).map (·.length)).sum = _
   rw [ih, len_S, List.length_cons, List.length_cons, List.length_nil]; omega
theorem one_join (b : List Nat) : joinS "" (one b) = S b := by
 rw [joinS_is, show cd ("" : Str) = [] by symm]
 congr 1
 induction b with
 | nil => rfl
 | cons c r ih =>
   cases r with
   | nil => rfl
   | cons d r =>
     show [c] ++ [] ++ joinL [] ((one (d :: r)).map cd) = _
     rw [ih]; rfl
theorem one_map (b : List Nat) : (one b).map V.str = b.map fun c => V.str (S [c]) := by unfold one; rw [List.map_map]; rfl
theorem ltr_at (n : Int) : atI ("abcdefghijklmnopqrstuvwxyz" : Str).cps.toList (n % 26) = some (ltr n) := by
 have h0 : 0 ≤ n % 26 := Int.emod_nonneg _ (by decide)
 have h1 : n % 26 < 26 := Int.emod_lt_of_pos _ (by decide)
 have key : ∀ k : Nat, k < 26 → ("abcdefghijklmnopqrstuvwxyz" : Str).cps.toList[k]? = some (97 + k) := by symm
 have e : n % 26 = (((n % 26).toNat : Nat) : Int) := by omega
 rw [e]
 have : ((((n % 26).toNat : Nat) : Int)).toNat = (n % 26).toNat := by omega
 rw [atI_nat (key _ (by omega))]
 unfold ltr; rfl
theorem inL_of {c : Nat} (h : 97 ≤ c ∧ c ≤ 122) : N.inL c = true := by
 have e0 : N.inL c = decide (c ∈ ("abcdefghijklmnopqrstuvwxyz" : Str).cps.toList) := StrLaws.found_one "abcdefghijklmnopqrstuvwxyz" c
 have e : ("abcdefghijklmnopqrstuvwxyz" : Str).cps.toList = (List.range 26).map (97 + ·) := by symm
 rw [e0, e]
 refine decide_eq_true (List.mem_map.mpr ⟨c - 97, List.mem_range.mpr (by omega), by omega⟩)
abbrev KW : List Str := ["and", "each", "end", "is", "not", "or", "unless", "when"]
theorem ib_k {k : Int} (h0 : 0 ≤ k) (h : k < 100) : ib k ≤ 60000000 := Nat.le_trans (ib_small (by omega) (by omega)) (by decide)
theorem lenM {n : Int} (h : n.natAbs < 10 ^ 60) : (monL n).length ≤ 65 := by have := (mon_fine h).len; rwa [len_S] at this
def spLM : Sp := fun vs H Q _ => ∃ n : Int, vs = [.int n] ∧ n.natAbs < 10 ^ 60 ∧ Q (.str (S (monL n))) H
def spLetter : Sp := fun vs H Q _ => ∃ n : Int, vs = [.int n] ∧ Q (.str (S [ltr n])) H
def GW (ws : List Str) (n : Nat) : Prop := ws.length = n ∧ ws.Nodup ∧ ∀ z ∈ ws, N.nameB z = true
def spWords : Sp := fun vs H Q _ => ∃ (c : Int) (n : Nat), vs = [.int c, .int n] ∧ n ≤ 8 ∧ ib c ≤ 1048576 ∧ ∀ pw ws H', GW ws n → Same H H' → H pw = none → H' pw = some (.lst (ws.map V.str)) → Q (.ref pw) H'
theorem name_of {l : List Nat} (h : l.length ≤ 12 ∧ 1 ≤ l.length ∧ ∀ c ∈ l, 97 ≤ c ∧ c ≤ 122) (k : S l ∉ KW) : N.nameB (S l) = true := by
 unfold N.nameB
 have e1 : inV (.str (S l)) N.kws = false := by
   show inV (.str (S l)) (KW.map V.str) = false
   rw [inV_strs]; exact decide_eq_false k
 have e2 : l.all N.inL = true := List.all_eq_true.mpr fun c hc => inL_of (h.2.2 c hc)
 rw [e1, len_S, cd_S, e2, decide_eq_true (by omega), decide_eq_true (by omega)]
 rfl
theorem kw_zz : ∀ z ∈ KW, N.nameB (Str.ofString "zz" ++ z) = true := by symm
theorem kw_len : ∀ z ∈ KW, z.length ≤ 6 := by symm
def wd (L : List Nat) : Str := if S L ∈ KW then Str.ofString "zz" ++ S L else S L
theorem wd_name {l : List Nat} (h : l.length ≤ 12 ∧ 1 ≤ l.length ∧ ∀ c ∈ l, 97 ≤ c ∧ c ≤ 122) : N.nameB (wd l) = true := by
 unfold wd
 by_cases k : S l ∈ KW
 · rw [if_pos k]; exact kw_zz _ k
 · rw [if_neg k]; exact name_of h k
theorem cd_wd (l : List Nat) : cd (wd l) = if S l ∈ KW then [122, 122] ++ l else l := by
 unfold wd
 split
 · rw [cd_app, cd_S]; rfl
 · rw [cd_S]
theorem wd_inj {l m : List Nat} (h : l.length = m.length) (e : wd l = wd m) : l = m := by
 have e := congrArg cd e
 rw [cd_wd, cd_wd] at e
 by_cases a : S l ∈ KW <;> by_cases b : S m ∈ KW
 · rw [if_pos a, if_pos b] at e; exact List.append_cancel_left e
 · rw [if_pos a, if_neg b] at e; have := congrArg List.length e; rw [List.length_append] at this; have : 2 + l.length = m.length := this; omega
 · rw [if_neg a, if_pos b] at e; have := congrArg List.length e; rw [List.length_append] at this; have : l.length = 2 + m.length := this; omega
 · rw [if_neg a, if_neg b] at e; exact e
theorem gw_set {n : Nat} {B : List Nat} {at' : Nat} {f : Int} (h8 : n ≤ 8) (hB : B.length ≤ 12) (ha : at' < B.length) (hc : ∀ c ∈ B, 97 ≤ c ∧ c ≤ 122) : GW ((List.range n).map fun i : Nat => wd (B.set at' (ltr (f + 3 * (0 + ((i : Nat) : Int)))))) n := by
 refine ⟨by rw [List.length_map, List.length_range], ?_, ?_⟩
 · refine List.pairwise_iff_getElem.mpr fun i j hi' hj' hij => ?_
   rw [List.length_map, List.length_range] at hi' hj'
   rw [List.getElem_map, List.getElem_map, List.getElem_range, List.getElem_range]
   intro e
   have e := wd_inj (by rw [List.length_set, List.length_set]) e
   have e2 := congrArg (fun l : List Nat => l[at']?) e
   simp only [List.getElem?_set_self ha, Option.some.injEq] at e2
   unfold ltr at e2
   omega
 · intro z hz
   obtain ⟨i, hi', rfl⟩ := List.mem_map.mp hz
   refine wd_name ⟨by rw [List.length_set]; omega, by rw [List.length_set]; omega, fun c h => ?_⟩
   rcases List.mem_or_eq_of_mem_set h with h | h
   · exact hc c h
   · rw [h]; exact ltr_rng _
section
variable {P : Program} {w : World} {K : W.Frag} {mg : Str → Option Value} {base : Heap} {A : Adr}
theorem ok_law_letter (T : Txt K mg A) : FnOk P w K mg base CX0 1 A.f_law_letter A.d_law_letter ["_law_number"] spLetter := by
 refine T.F_law_letter.ok sc_law_letter (fun vs H Q E h => ?_) (fun cdv A0 outer s H vs Q E hr h => ?_)
 · obtain ⟨n, rfl, _⟩ := h
   rfl
 obtain ⟨n, rfl, q⟩ := h
 refine ⟨_, (zC (zH (pe_ix ix_str zG (zK op_mod (pv 0) zD) (fun _ _ => rfl)))), ?_⟩
 exact ⟨_, rfl, _, _, rfl, rfl, (by show (0 : Int) < 26; decide), _, _, _, rfl, rfl, (by symm), ltr_at n, q⟩
theorem ok_law_money (T : Txt K mg A) : FnOk P w K mg base CX0 1 A.f_law_money A.d_law_money ["_law_number"] spLM := by
 refine T.F_law_money.ok sc_law_money (fun vs H Q E h => ?_) (fun cdv A0 outer s H vs Q E hr h => ?_)
 · obtain ⟨n, rfl, _⟩ := h
   rfl
 obtain ⟨n, rfl, hn, q⟩ := h
 refine ⟨_, (zF (ps_set (i := 1) sc_law_money.nd rfl (by first | exact Or.inl rfl | exact Or.inr rfl) (pe_callTy call_str_int (by rfl) T.n_str Bt.str (zA (zI call_abs (by rfl) T.n_abs Bt.abs (zA (pv 0) zB)) zB)))
     (zF (ps_whileR PassesOwn.never (pt_cmpR op_lt (zI call_len_str (by rfl) T.n_len PySem.boot_len (zA (pv 1) zB)) zD (nomark _)) (zC (ps_set (i := 1) sc_law_money.nd rfl (by first | exact Or.inl rfl | exact Or.inr rfl) (zK zM zG (pv 1)))))
     (zF (ps_set (i := 2) sc_law_money.nd rfl (by first | exact Or.inl rfl | exact Or.inr rfl) (zK zM (zK zM (pe_slice sl_str (pv 1) po_none (po_some (pe_un un_neg zD))) zG) (pe_slice sl_str (pv 1) (po_some (pe_un un_neg zD)) po_none)))
     (zF (ps_if (pt_cmpR op_lt (pv 0) zD (nomark _)) (zC (zH (zK zM zG (pv 2)))) pss_nil)
     (zC (zH (pv 2))))))), ?_⟩
 have hd := dig_len (k := 60) (by decide) hn
 refine ⟨_, rfl, n, rfl, ?_⟩
 rw [abs_is]
 refine ⟨_, rfl, logOk (Nat.lt_trans (show (((n.natAbs : Nat) : Int)).natAbs < 10 ^ 60 by omega) (by symm)), ?_⟩
 rw [num_dig]
 generalize hdd : dig n.natAbs = d at hd
 refine ⟨⟨fun m σ H' => ∃ k : Nat, m = 3 - (k + d.length) ∧ H = H' ∧ σ = [some (.int n), some (.str (S (List.replicate k 48 ++ d))), none] ∧ (k = 0 ∨ k + d.length ≤ 3), ⟨_, 0, rfl, rfl, rfl, .inl rfl⟩, fun m σ H' hp => ?_⟩⟩
 obtain ⟨k, hm, rfl, rfl, hk⟩ := hp
 have hk3 : k ≤ 3 := by omega
 have lk : (List.replicate k 48 ++ d).length = k + d.length := by rw [List.length_append, List.length_replicate]
 have sz : (S (List.replicate k 48 ++ d)).length ≤ sizeLine := small_of (m := 1000) (by rw [len_S, lk]; omega)
 refine ⟨_, rfl, _, rfl, sz, _, _, rfl, rfl, _, rfl, ?_⟩
 rw [len_S, lk]
 refine ite2 (fun c => ?_) (fun c => ?_)
 · have c' : k + d.length < 3 := by have := of_decide_eq_true c; omega
   refine ⟨fun σ' H' => ∃ k : Nat, m - 1 = 3 - (k + d.length) ∧ H = H' ∧ σ' = [some (.int n), some (.str (S (List.replicate k 48 ++ d))), none] ∧ (k = 0 ∨ k + d.length ≤ 3), fun σ' H' hp => ⟨m - 1, by omega, hp⟩, ?_⟩
   refine ⟨_, rfl, _, _, rfl, rfl, small_of (m := 1000) (by rw [len_S, lk]; show 1 + _ ≤ 1000; omega), k + 1, by omega, rfl, ?_, .inr (by omega)⟩
   rw [show Str.ofString "0" = S [48] by symm, S_app]
   rfl
 · have c' : ¬ k + d.length < 3 := fun h => c (decide_eq_true (by omega))
   have ef : List.replicate k 48 ++ d = figM n := by
     unfold figM pad3
     rw [hdd]
     congr 2
     omega
   rw [ef] at sz lk ⊢
   have h2 : 2 ≤ (figM n).length := by rw [lk]; omega
   refine ⟨_, rfl, _, rfl, _, rfl, _, rfl, sz, ?_⟩
   rw [cd_S, cut_lo h2]
   refine ⟨_, _, rfl, rfl, small_of (m := 1000) (by rw [len_S, List.length_take]; show _ + 1 ≤ 1000; omega), ?_⟩
   refine ⟨_, rfl, _, rfl, _, rfl, _, rfl, sz, ?_⟩
   rw [cd_S, cut_hi h2, show Str.ofString "." = S [46] by symm, S_app]
   refine ⟨_, _, rfl, rfl, small_of (m := 1000) (by rw [len_S, len_S, List.length_append, List.length_take, List.length_drop]; show _ + 1 + _ ≤ 1000; omega), ?_⟩
   rw [S_app, List.append_assoc]
   have ml := lenM hn
   unfold monL sgn at q ml
   refine ⟨_, rfl, _, _, rfl, rfl, _, rfl, ite2 (fun c => ?_) (fun c => ?_)⟩
   · rw [if_pos (of_decide_eq_true c)] at q ml
     refine ⟨_, rfl, _, _, rfl, rfl, small_of (m := 1000) (by rw [len_S]; rw [List.length_append] at ml; show 1 + _ ≤ 1000; exact Nat.le_trans ml (by decide)), ?_⟩
     rw [show Str.ofString "-" = S [45] by symm, S_app]
     exact q
   · rw [if_neg (fun z => c (decide_eq_true z))] at q
     exact ⟨_, rfl, q⟩
theorem ok_law_words (T : Txt K mg A) : FnOk P w K mg base CX0 2 A.f_law_words A.d_law_words ["_law_cell", "_law_many"] spWords := by
 have G_law_letter := ok_law_letter (P := P) (w := w) (base := base) T
 refine T.F_law_words.ok sc_law_words (fun vs H Q E h => ?_) (fun cdv A0 outer s H vs Q E hr h => ?_)
 · obtain ⟨a, ns, rfl, _⟩ := h
   rfl
 obtain ⟨c0, n, rfl, h8, hc0, q⟩ := h
 refine ⟨_, (zF (ps_compR (i := 2) sc_law_words.nd rfl (by first | exact Or.inl rfl | exact Or.inr rfl) (compOk_of (x := "_law_k") (M := ["_law_cell", "_law_many", "_law_base", "_law_at", "_law_words_here", "", "_law_word"]) rfl (by rfl)) rfl (pi_range1 rfl T.n_range (zA (zK op_add zD (zK op_mod (zK op_fdiv (pv 0) zD) zD)) zB)) (fun _ _ _ _ => (zL G_law_letter (hr.mono (by first | decide | omega)) rfl T.m_law_letter T.k_law_letter T.b_law_letter .nil zN (zA (zK op_add (zK op_mulB (pv 1) (zK op_add (pv 0) zD)) (zK op_mulB zD (pv 0))) zB))))
     (zF (ps_set (i := 3) sc_law_words.nd rfl (by first | exact Or.inl rfl | exact Or.inr rfl) (zK op_mod (zK op_fdiv (pv 0) zD) (zI call_len_seq (by rfl) T.n_len PySem.boot_len (zA (pv 2) zB))))
     (zF (ps_set (i := 4) sc_law_words.nd rfl (by first | exact Or.inl rfl | exact Or.inr rfl) (pe_lst zB))
     (zF (ps_forR PassesOwn.never rfl (pi_range1 rfl T.n_range (zA (pv 1) zB)) (pg_name (i := 5) sc_law_words.nd rfl (by first | exact Or.inl rfl | exact Or.inr rfl)) (zF (ps_asg (zL G_law_letter (hr.mono (by first | decide | omega)) rfl T.m_law_letter T.k_law_letter T.b_law_letter .nil zN (zA (zK op_add (zK op_fdiv (pv 0) zD) (zK op_mulB zD (pv 5))) zB)) (pg_sub (pv 2) (pv 3) set_list))
     (zF (ps_set (i := 6) sc_law_words.nd rfl (by first | exact Or.inl rfl | exact Or.inr rfl) (pe_bm PySem.F.plainAttrs_str PySem.F.slot_str_join PySem.F.type_str_join mt_join zG (zA (pv 2) zB)))
     (zF (ps_if (pt_cmpR op_in_seq (pv 6) (pe_lst (zA zG (zA zG (zA zG (zA zG (zA zG (zA zG (zA zG (zA zG zB))))))))) (by rfl)) (zC (ps_set (i := 6) sc_law_words.nd rfl (by first | exact Or.inl rfl | exact Or.inr rfl) (zK zM zG (pv 6)))) pss_nil)
     (zC (ps_expr (pe_bm PySem.F.plainAttrs_list PySem.F.slot_list_append PySem.F.type_list_append mt_append (pv 4) (zA (pv 6) zB))))))))
     (zC (zH (pv 4))))))), ?_⟩
 have m0 : 0 ≤ c0 / 2 % 12 := Int.emod_nonneg _ (by decide)
 have m1 : c0 / 2 % 12 < 12 := Int.emod_lt_of_pos _ (by decide)
 refine ⟨_, rfl, _, _, rfl, rfl, ⟨by decide, by decide⟩, _, _, rfl, rfl, (by show (0 : Int) < 12; decide), _, _, rfl, rfl, _, rfl, (by show (-2 ^ 62 : Int) ≤ 1 + c0 / 2 % 12; omega), (by show 1 + c0 / 2 % 12 < _; omega), ?_⟩
 obtain ⟨m, hm⟩ : ∃ m : Nat, (1 + c0 / 2 % 12).toNat = m := ⟨_, rfl⟩
 dsimp only
 rw [hm]
 have hm12 : m ≤ 12 := by omega
 have hm1 : 1 ≤ m := by omega
 refine comp_rangeR (n := m) (small_of (m := 12) hm12) (fun i ys H' => H = H' ∧ ∃ b : List Nat, ys = (b.map fun c => V.str (S [c])) ∧ ∀ c ∈ b, 97 ≤ c ∧ c ≤ 122) ⟨rfl, [], rfl, fun c h => by cases h⟩ (fun i ys H' hi hl hw => ?_) (fun ys H' hl hw pb hpb => ?_)
 · obtain ⟨rfl, b, rfl, hc⟩ := hw
   refine ⟨_, rfl, _, rfl, _, _, rfl, rfl, _, _, rfl, rfl, ⟨Nat.le_trans hc0 (by decide), ib_k (by omega) (by omega)⟩, ?_⟩
   refine ⟨_, rfl, _, _, rfl, rfl, ⟨by decide, ib_k (by omega) (by omega)⟩, _, _, rfl, rfl, _, rfl, rfl, b ++ [_], (by rw [List.map_append]; rfl), fun k hk => ?_⟩
   rcases List.mem_append.mp hk with z | z
   · exact hc k z
   · rw [List.mem_singleton.mp z]; exact ltr_rng _
 obtain ⟨rfl, b, rfl, hc⟩ := hw
 rw [List.length_map] at hl
 have sb := zJ hpb (.lst (b.map fun c => V.str (S [c])))
 refine ⟨_, rfl, _, _, rfl, rfl, ⟨by decide, by decide⟩, _, rfl, pb, _, rfl, .inl (SqL.of zE), _, _, rfl, rfl, (by rw [List.length_map]; omega), ?_⟩
 rw [List.length_map, hl]
 have k0 : 0 ≤ c0 / 3 % (m : Int) := Int.emod_nonneg _ (by omega)
 have k1 : c0 / 3 % (m : Int) < m := Int.emod_lt_of_pos _ (by omega)
 obtain ⟨t, ht⟩ : ∃ t : Nat, c0 / 3 % (m : Int) = (t : Int) := ⟨(c0 / 3 % (m : Int)).toNat, by omega⟩
 have htl : t < b.length := by omega
 dsimp only
 rw [ht]
 refine ⟨(by show 0 ≤ sizeLine; decide), fun pw hpw => ?_⟩
 have hne : pw ≠ pb := fun e => by subst e; rw [zE] at hpw; cases hpw
 have hpw0 : H pw = none := by rw [zO hne] at hpw; exact hpw
 refine ⟨_, rfl, _, rfl, (by omega), (by omega), ?_⟩
 rw [show ((n : Int)).toNat = n by omega]
 refine for_rangeR (fun i σ H' => (∃ u v, σ = [some (.int c0), some (.int n), some (.ref pb), some (.int t), some (.ref pw), u, v]) ∧ Same H H' ∧ (∃ b' : List Nat, H' pb = some (.lst (b'.map fun c => V.str (S [c]))) ∧ (∀ c, b'.set t c = b.set t c) ∧ b'.length = b.length) ∧ H' pw = some (.lst ((List.range i).map fun k : Nat => V.str (wd (b.set t (ltr (c0 / 5 + 3 * (0 + ((k : Nat) : Int))))))))) ?_ (fun i σ H' hi hp => ?_) (fun σ H' hp => ?_)
 · refine ⟨⟨_, _, rfl⟩, ?_, ⟨b, ?_, fun _ => rfl, rfl⟩, ?_⟩
   · exact sb.trans (zJ hpw _)
   · rw [zO (Ne.symm hne)]; exact zE
   · exact zE
 · obtain ⟨⟨u, v, rfl⟩, sH, ⟨b', hb1, hb2, hb3⟩, hw⟩ := hp
   refine ⟨_, rfl, _, _, rfl, rfl, ⟨by decide, by decide⟩, _, rfl, _, _, rfl, rfl, ⟨by decide, ib_k (by omega) (by omega)⟩, _, _, rfl, rfl, _, rfl, ?_⟩
   refine ⟨_, rfl, _, rfl, pb, _, _, t, rfl, rfl, hb1, ?_, ?_⟩
   · rw [List.length_map, hb3, ixN_some (by omega) (by omega)]; rfl
   rw [show (b'.map fun c => V.str (S [c])).set t (.str (S [ltr (c0 / 5 + 3 * (0 + (i : Int)))])) = ((b'.set t (ltr (c0 / 5 + 3 * (0 + (i : Int))))).map fun c => V.str (S [c])) by rw [List.map_set], hb2]
   generalize hL : b.set t (ltr (c0 / 5 + 3 * (0 + (i : Int)))) = L
   have hLl : L.length ≤ 12 := by rw [← hL, List.length_set]; omega
   have hw' : upd H' pb (.lst (L.map fun c => V.str (S [c]))) pw = some (.lst ((List.range i).map fun k : Nat => V.str (wd (b.set t (ltr (c0 / 5 + 3 * (0 + ((k : Nat) : Int)))))))) := by rw [zO hne]; exact hw
   refine ⟨rfl, _, rfl, _, pb, one L, rfl, rfl, .inl (SqL.of (by rw [zE, one_map])), (by rw [one_sum]; show _ + _ * 0 ≤ _; omega), ?_⟩
   rw [show joinS (Str.ofString "") (one L) = S L from one_join _]
   refine ⟨_, rfl, (by show 8 ≤ sizeLine; decide), fun p2 hp2 => ⟨p2, _, rfl, .inl (SqL.of zE), rfl, rfl, _, rfl, ?_⟩⟩
   have sp2 := zJ hp2 (.lst (KW.map V.str))
   have hw2 := sp2 _ _ hw'
   have hb2' := sp2 _ _ (zE (H := H') (a := pb) (o := .lst (L.map fun c => V.str (S [c]))))
   generalize hG : upd (upd H' pb (.lst (L.map fun c => V.str (S [c])))) p2 (.lst (KW.map V.str)) = G at hw2 hb2'
   have hG' : upd (upd H' pb (.lst (L.map fun c => V.str (S [c])))) p2 (.lst [V.str (Str.ofString "and"), V.str (Str.ofString "each"), V.str (Str.ofString "end"), V.str (Str.ofString "is"), V.str (Str.ofString "not"), V.str (Str.ofString "or"), V.str (Str.ofString "unless"), V.str (Str.ofString "when")]) = G := hG
   rw [hG']
   have sG : Same H G := fun x o ho => by
     have x1 : x ≠ pb := fun e => by subst e; rw [hpb] at ho; cases ho
     rw [← hG]
     exact sp2 _ _ (by rw [zO x1]; exact sH _ _ ho)
   have fin : Same H (upd G pw (.lst ((List.range i).map (fun k : Nat => V.str (wd (b.set t (ltr (c0 / 5 + 3 * (0 + ((k : Nat) : Int))))))) ++ [.str (wd L)]))) ∧ (∃ b' : List Nat, upd G pw (.lst ((List.range i).map (fun k : Nat => V.str (wd (b.set t (ltr (c0 / 5 + 3 * (0 + ((k : Nat) : Int))))))) ++ [.str (wd L)])) pb = some (.lst (b'.map fun c => V.str (S [c]))) ∧ (∀ c, b'.set t c = b.set t c) ∧ b'.length = b.length) ∧ upd G pw (.lst ((List.range i).map (fun k : Nat => V.str (wd (b.set t (ltr (c0 / 5 + 3 * (0 + ((k : Nat) : Int))))))) ++ [.str (wd L)])) pw = some (.lst ((List.range (i + 1)).map fun k : Nat => V.str (wd (b.set t (ltr (c0 / 5 + 3 * (0 + ((k : Nat) : Int)))))))) := by
     refine ⟨fun x o ho => ?_, ⟨L, ?_, fun c => ?_, ?_⟩, ?_⟩
     · rw [zO (ne_of_none ho hpw0)]; exact sG _ _ ho
     · rw [zO (Ne.symm hne)]; exact hb2'
     · rw [← hL, List.set_set]
     · rw [← hL, List.length_set]
     · rw [zE, List.range_succ, List.map_append, ← hL]; rfl
   have hsz : ((List.range i).map (fun k : Nat => V.str (wd (b.set t (ltr (c0 / 5 + 3 * (0 + ((k : Nat) : Int)))))))).length < sizeLine := by
     have := small_of (n := 100) (m := 100) (Nat.le_refl _)
     rw [List.length_map, List.length_range]; omega
   show if (inV (.str (S L)) (KW.map V.str)) = true then _ else _
   rw [inV_strs]
   refine ite2 (fun c => ?_) (fun c => ?_)
   · have c' : S L ∈ KW := of_decide_eq_true c
     have ew : wd L = Str.ofString "zz" ++ S L := if_pos c'
     rw [ew] at fin
     exact ⟨_, rfl, _, _, rfl, rfl, small_of (m := 100) (by have := kw_len _ c'; rw [show (Str.ofString "zz").length = 2 by symm]; omega), _, rfl, Or.inl ⟨rfl, _, SqL.of hw2⟩, _, rfl, pw, _, _, rfl, rfl, hw2, hsz, ⟨_, _, rfl⟩, fin⟩
   · have c' : S L ∉ KW := fun z => c (decide_eq_true z)
     have ew : wd L = S L := if_neg c'
     rw [ew] at fin
     exact ⟨_, rfl, Or.inl ⟨rfl, _, SqL.of hw2⟩, _, rfl, pw, _, _, rfl, rfl, hw2, hsz, ⟨_, _, rfl⟩, fin⟩
 · obtain ⟨⟨u, v, rfl⟩, sH, _, hw⟩ := hp
   refine ⟨_, rfl, q pw _ _ (gw_set (B := b) (f := c0 / 5) h8 (by omega) htl hc) sH hpw0 ?_⟩
   rw [hw, List.map_map]; rfl
end
end K07
set_option maxHeartbeats 4000000
namespace K07
open PySem L2
seal PE PT PW PA PS PSs PG PGs PI PO PSet OpR UnR CallR TruR IxR SlR PC PPs
local macro_rules | `(tactic| walk_at "rd1") => `(tactic| first
 | (refine And.intro rfl ?_)
 | (refine And.intro (by assumption) ?_)
 | (refine And.intro (fun _ e => e) ?_)
 | (refine And.intro (TyOf.str _) ?_) | (refine And.intro (TyOf.int _) ?_) | (refine And.intro (TyOf.bl _) ?_) | (refine And.intro TyOf.non ?_)
 | (refine iteT ?_) | (refine iteF ?_)
 | (apply Exists.intro))
local macro_rules | `(tactic| walk_at "rd") => `(tactic| repeat (walk_at "rd1"))
theorem eqS {a b : Str} {A B : Prop} (h : a = b) (k : A) : if decide (V.str a = V.str b) = true then A else B := by rw [if_pos (decide_eq_true (by rw [h]))]; exact k
theorem neS {a b : Str} {A B : Prop} (h : a ≠ b) (k : B) : if decide (V.str a = V.str b) = true then A else B := by
 rw [if_neg (fun e => h (V.str.inj (of_decide_eq_true e)))]; exact k
def nk (m : Bool) (lo hi : Int) : KU := if m = true then .mo lo hi else .wh lo hi
def nh (m : Bool) : Str := if m = true then "money" else "whole"
def spNumbers : Sp := fun vs H Q _ => ∃ (m : Bool) (lo hi : Int), vs = [.str (nh m), .int lo, .int hi] ∧ lo.natAbs < 10 ^ 60 ∧ hi.natAbs < 10 ^ 60 ∧ Q (.str (S (tld (nk m lo hi)))) H
def spGood : Sp := fun vs H Q _ => ∃ c : Int, vs = [.int c] ∧ ib c ≤ 1048576 ∧ ∀ ku t H', Same H H' → KGood ku → H' t = some (.tup [.str (S (tld ku)), .int ku.low, .int ku.high]) → Q (.ref t) H'
theorem ib_abs {x y : Int} (h : ib y ≤ 1048576) (hx : x.natAbs ≤ y.natAbs ∨ x.natAbs ≤ 1) : ib x ≤ 1048576 := by
 have h' : y.natAbs < 2 ^ 1048576 := intBits_le_iff.mp h
 refine ib_big ?_
 rcases hx with hx | hx
 · exact Nat.lt_of_le_of_lt hx h'
 · exact Nat.lt_of_le_of_lt hx (Nat.one_lt_two_pow (by decide))
theorem join_pk {ws : List Str} (hne : ws ≠ []) : Str.ofString "pick " ++ S (joinL [32] (ws.map cd)) = S (joinL [32] (hPk :: ws.map cd)) := by
 obtain ⟨a, r, e⟩ : ∃ a r, ws.map cd = a :: r := by
   cases ws with
   | nil => exact absurd rfl hne
   | cons a r => exact ⟨_, _, rfl⟩
 rw [e, show Str.ofString "pick " = S (hPk ++ [32]) by symm, S_app]
 rfl
theorem joinP_len {ws : List Str} (h12 : ∀ z ∈ ws, z.length ≤ 13) (h8 : ws.length ≤ 8) : (joinL [32] (ws.map cd)).length ≤ 150 := by
 have hj := joinL_len [32] (ws.map cd)
 have hs := sum_le (n := 13) (l := ws) h12
 have e1 : ((ws.map cd).map List.length).sum = (ws.map (·.length)).sum := by
   rw [List.map_map]; exact congrArg List.sum (List.map_congr_left fun z _ => (len_cd z).symm)
 rw [e1, List.length_map] at hj
 have : [32].length = 1 := rfl
 rw [this] at hj
 omega
theorem join_sz {ws : List Str} (h12 : ∀ z ∈ ws, z.length ≤ 13) (h8 : ws.length ≤ 8) : (ws.map (·.length)).sum + ws.length * (Str.ofString " ").length ≤ 16777216 := by
 have hs := sum_le (n := 13) (l := ws) h12
 rw [show (Str.ofString " ").length = 1 by symm]; omega
section
variable {P : Program} {w : World} {K : W.Frag} {mg : Str → Option Value} {base : Heap} {A : Adr}
theorem ok_law_numbers (T : Txt K mg A) : FnOk P w K mg base CX0 2 A.f_law_numbers A.d_law_numbers ["_law_head", "_law_low_here", "_law_high"] spNumbers := by
 have G_law_money := ok_law_money (P := P) (w := w) (base := base) T
 refine T.F_law_numbers.ok sc_law_numbers (fun vs H Q E h => ?_) (fun cdv A0 outer s H vs Q E hr h => ?_)
 · obtain ⟨m, lo, hi, rfl, _⟩ := h
   rfl
 obtain ⟨m, lo, hi, rfl, hlo, hhi, q⟩ := h
 refine ⟨_, (zF (ps_if (pt_cmpR op_eq (pv 0) zG (nomark _)) (zC (zH (zK zM (zK zM (zK zM zG (zL G_law_money (hr.mono (by first | decide | omega)) rfl T.m_law_money T.k_law_money T.b_law_money .nil zN (zA (pv 1) zB))) zG) (zL G_law_money (hr.mono (by first | decide | omega)) rfl T.m_law_money T.k_law_money T.b_law_money .nil zN (zA (pv 2) zB))))) pss_nil)
     (zC (zH (zK zM (zK zM (zK zM zG (pe_callTy call_str_int (by rfl) T.n_str Bt.str (zA (pv 1) zB))) zG) (pe_callTy call_str_int (by rfl) T.n_str Bt.str (zA (pv 2) zB)))))), ?_⟩
 cases m with
 | true =>
   have f1 := mon_fine hlo
   have f2 := mon_fine hhi
   have f0 : Fine 6 (Str.ofString "money ") := ⟨by symm, by symm⟩
   have fb : Fine 1 (Str.ofString " ") := ⟨by symm, by symm⟩
   refine ⟨_, rfl, rfl, _, rfl, eqS rfl ?_⟩
   refine ⟨_, rfl, lo, rfl, hlo, _, _, rfl, rfl, fsz f0 f1, _, _, rfl, rfl, fsz (f0.app f1) fb, _, rfl, hi, rfl, hhi, _, _, rfl, rfl, fsz ((f0.app f1).app fb) f2, ?_⟩
   have e : Str.ofString "money " ++ S (monL lo) ++ Str.ofString " " ++ S (monL hi) = S (tld (.mo lo hi)) := by
     rw [show Str.ofString "money " = S (cd (Str.ofString "money ")) from (S_cd _).symm, show Str.ofString " " = S [32] by symm, S_app, S_app, S_app]
     show S (_ ++ _ ++ _ ++ _) = S (_ ++ (_ ++ _ ++ _))
     simp only [List.append_assoc]
   rw [e]; exact q
 | false =>
   have f1 := fineNum hlo
   have f2 := fineNum hhi
   have f0 : Fine 6 (Str.ofString "whole ") := ⟨by symm, by symm⟩
   have fb : Fine 1 (Str.ofString " ") := ⟨by symm, by symm⟩
   refine ⟨_, rfl, rfl, _, rfl, neS (by symm) ?_⟩
   refine ⟨_, rfl, lo, rfl, logOk (Nat.lt_trans hlo (by symm)), ?_⟩
   rw [str_is]
   refine ⟨_, _, rfl, rfl, fsz f0 f1, _, _, rfl, rfl, fsz (f0.app f1) fb, _, rfl, hi, rfl, logOk (Nat.lt_trans hhi (by symm)), ?_⟩
   rw [str_is]
   refine ⟨_, _, rfl, rfl, fsz ((f0.app f1).app fb) f2, ?_⟩
   have e : Str.ofString "whole " ++ S (numL lo) ++ Str.ofString " " ++ S (numL hi) = S (tld (.wh lo hi)) := by
     rw [show Str.ofString "whole " = S (cd (Str.ofString "whole ")) from (S_cd _).symm, show Str.ofString " " = S [32] by symm, S_app, S_app, S_app]
     show S (_ ++ _ ++ _ ++ _) = S (_ ++ (_ ++ _ ++ _))
     simp only [List.append_assoc]
   rw [e]; exact q
theorem ok_law_good (T : Txt K mg A) : FnOk P w K mg base CX0 3 A.f_law_good A.d_law_good ["_law_cell"] spGood := by
 have G_law_words := ok_law_words (P := P) (w := w) (base := base) T
 have G_law_low := ok_law_low (P := P) (w := w) (base := base) T
 have G_law_size := ok_law_size (P := P) (w := w) (base := base) T
 have G_law_numbers := ok_law_numbers (P := P) (w := w) (base := base) T
 refine T.F_law_good.ok sc_law_good (fun vs H Q E h => ?_) (fun cdv A0 outer s H vs Q E hr h => ?_)
 · obtain ⟨c, rfl, _⟩ := h
   rfl
 obtain ⟨c, rfl, hc, q⟩ := h
 refine ⟨_, (zF (ps_set (i := 1) sc_law_good.nd rfl (by first | exact Or.inl rfl | exact Or.inr rfl) (zK op_mod (pv 0) zD))
     (zF (ps_set (i := 2) sc_law_good.nd rfl (by first | exact Or.inl rfl | exact Or.inr rfl) (zK op_fdiv (pv 0) zD))
     (zF (ps_if (pt_cmpR op_eq (pv 1) zD (nomark _)) (zC (zH (pe_tup (zA zG (zA zD (zA zD zB)))))) pss_nil)
     (zF (ps_if (pt_cmpR op_eq (pv 1) zD (nomark _)) (zF (ps_set (i := 3) sc_law_good.nd rfl (by first | exact Or.inl rfl | exact Or.inr rfl) (zK op_add zD (zK op_mod (pv 2) zD)))
     (zC (zH (pe_tup (zA (zK zM zG (pe_bm PySem.F.plainAttrs_str PySem.F.slot_str_join PySem.F.type_str_join mt_join zG (zA (zL G_law_words (hr.mono (by first | decide | omega)) rfl T.m_law_words T.k_law_words T.b_law_words .nil zN (zA (pv 2) (zA (pv 3) zB))) zB))) (zA zD (zA (zK op_sub (pv 3) zD) zB))))))) pss_nil)
     (zF (ps_if (pt_cmpR op_eq (pv 1) zD (nomark _)) (zC (zH (pe_tup (zA (zK zM zG (pe_callTy call_str_int (by rfl) T.n_str Bt.str (zA (zK op_add zD (zK op_mod (pv 2) zD)) zB))) (zA zD (zA (zK op_add zD (zK op_mod (pv 2) zD)) zB)))))) pss_nil)
     (zF (ps_set (i := 4) sc_law_good.nd rfl (by first | exact Or.inl rfl | exact Or.inr rfl) (zL G_law_low (hr.mono (by first | decide | omega)) rfl T.m_law_low T.k_law_low T.b_law_low .nil zN (zA (pv 2) zB)))
     (zF (ps_set (i := 5) sc_law_good.nd rfl (by first | exact Or.inl rfl | exact Or.inr rfl) (zK op_add (pv 4) (zL G_law_size (hr.mono (by first | decide | omega)) rfl T.m_law_size T.k_law_size T.b_law_size .nil zN (zA (zK op_add (zK op_fdiv (pv 2) zD) zD) zB))))
     (zC (zH (pe_tup (zA (zL G_law_numbers (hr.mono (by first | decide | omega)) rfl T.m_law_numbers T.k_law_numbers T.b_law_numbers .nil zN (zA (pe_ix ix_list (pe_lst (zA zG (zA zG zB))) (zK op_sub (pv 1) zD) (fun _ _ => rfl)) (zA (pv 4) (zA (pv 5) zB)))) (zA (pv 4) (zA (pv 5) zB))))))))))))), ?_⟩
 have w0 : 0 ≤ c % 5 := Int.emod_nonneg _ (by decide)
 have w1 : c % 5 < 5 := Int.emod_lt_of_pos _ (by decide)
 refine ⟨_, rfl, _, _, rfl, rfl, (by show (0 : Int) < 5; decide), ?_⟩
 refine ⟨_, rfl, _, _, rfl, rfl, ⟨by decide, by decide⟩, ?_⟩
 have hr5 : ib (c / 5) ≤ 1048576 := ib_div (by decide) hc
 dsimp only
 generalize hrr : c / 5 = r at hr5
 refine ⟨_, rfl, rfl, _, rfl, ite2 (fun d0 => ?_) (fun d0 => ?_)⟩
 · refine ⟨(by show 3 ≤ sizeLine; decide), fun t ht => ?_⟩
   refine q .yn t _ (zJ ht _) trivial ?_
   rw [zE, show tld .yn = cd (Str.ofString "yesno") from rfl, S_cd]
   rfl
 have d0' : c % 5 ≠ 0 := fun e => d0 (decide_eq_true (by rw [e]))
 refine ⟨_, rfl, rfl, _, rfl, ite2 (fun d3 => ?_) (fun d3 => ?_)⟩
 · have m0 : 0 ≤ r % 5 := Int.emod_nonneg _ (by decide)
   have m1 : r % 5 < 5 := Int.emod_lt_of_pos _ (by decide)
   refine ⟨_, rfl, _, _, rfl, rfl, (by show (0 : Int) < 5; decide), _, _, rfl, rfl, ?_⟩
   obtain ⟨n, hn⟩ : ∃ n : Nat, 2 + r % 5 = (n : Int) := ⟨(2 + r % 5).toNat, by omega⟩
   dsimp only
   rw [hn]
   refine ⟨rfl, _, rfl, _, rfl, r, n, rfl, by omega, hr5, fun pw ws H1 gw s1 hpw0 hpw => ?_⟩
   obtain ⟨gl, gn, gm⟩ := gw
   have h13 : ∀ z ∈ ws, z.length ≤ 13 := fun z hz => by have := (name_let (gm z hz)).1; omega
   refine ⟨_, pw, ws, rfl, rfl, .inl (SqL.of hpw), join_sz h13 (by omega), ?_⟩
   rw [joinS_is, show cd (Str.ofString " ") = [32] by symm]
   have hjl := joinP_len h13 (by omega)
   refine ⟨_, _, rfl, rfl, small_of (m := 1000) (by rw [len_S, show (Str.ofString "pick ").length = 5 by symm]; omega), ?_⟩
   refine ⟨_, rfl, _, _, rfl, rfl, (by show 3 ≤ sizeLine; decide), fun t ht => ?_⟩
   have hk : KGood (.pk ws) := ⟨by omega, by omega, gn, gm⟩
   refine q (.pk ws) t _ (s1.trans (zJ ht _)) hk ?_
   rw [zE]
   have e1 : Str.ofString "pick " ++ S (joinL [32] (ws.map cd)) = S (tld (.pk ws)) := by
     rw [show Str.ofString "pick " = S (cd (Str.ofString "pick ")) from (S_cd _).symm, S_app]; rfl
   rw [e1]
   show _ = some (HO.tup [V.str (S (tld (.pk ws))), V.int 0, V.int ((ws.length : Int) - 1)])
   rw [gl]
 have d3' : c % 5 ≠ 3 := fun e => d3 (decide_eq_true (by rw [e]))
 refine ⟨_, rfl, rfl, _, rfl, ite2 (fun d4 => ?_) (fun d4 => ?_)⟩
 · have m0 : 0 ≤ r % 6 := Int.emod_nonneg _ (by decide)
   have m1 : r % 6 < 6 := Int.emod_lt_of_pos _ (by decide)
   obtain ⟨n, hn⟩ : ∃ n : Nat, 1 + r % 6 = (n : Int) := ⟨(1 + r % 6).toNat, by omega⟩
   have p60 : (7 : Nat) < 10 ^ 60 := by symm
   have hn60 : ((n : Nat) : Int).natAbs < 10 ^ 60 := by omega
   refine ⟨_, rfl, _, _, rfl, rfl, (by show (0 : Int) < 6; decide), _, _, rfl, rfl, ?_⟩
   dsimp only
   rw [hn]
   refine ⟨_, rfl, logOk (Nat.lt_trans hn60 (by symm)), ?_⟩
   rw [str_is]
   have f0 : Fine 6 (Str.ofString "names ") := ⟨by symm, by symm⟩
   refine ⟨_, _, rfl, rfl, fsz f0 (fineNum hn60), ?_⟩
   refine ⟨_, rfl, _, _, rfl, rfl, (by show (0 : Int) < 6; decide), _, _, rfl, rfl, (by show 3 ≤ sizeLine; decide), fun t ht => ?_⟩
   refine q (.nm n) t _ (zJ ht _) ⟨by omega, by omega⟩ ?_
   rw [zE]
   have e1 : Str.ofString "names " ++ S (numL (n : Int)) = S (tld (.nm n)) := by
     rw [show Str.ofString "names " = S (cd (Str.ofString "names ")) from (S_cd _).symm, S_app]; rfl
   rw [e1]
   show some (HO.tup [_, V.int 0, V.int (1 + r % 6)]) = some (HO.tup [_, V.int 0, V.int (n : Int)])
   rw [hn]
 have d4' : c % 5 ≠ 4 := fun e => d4 (decide_eq_true (by rw [e]))
 refine ⟨_, rfl, r, rfl, hr5, fun lo H1 l0 l1 s1 => ?_⟩
 refine ⟨_, rfl, _, rfl, _, _, rfl, rfl, ⟨by decide, by decide⟩, _, _, rfl, rfl, r / 3 + 1, rfl, ib_abs hr5 (by omega), fun sz H2 z0 z1 s2 => ⟨_, _, rfl, rfl, ?_⟩⟩
 have p60 : (10 : Nat) ^ 59 + 10 ^ 59 < 10 ^ 60 := by symm
 have e59 : ((10 ^ 59 : Nat) : Int) = (10 : Int) ^ 59 := by simp
 have b1 : lo.natAbs < 10 ^ 60 := by omega
 have b2 : (lo + sz).natAbs < 10 ^ 60 := by omega
 refine ⟨(by show 2 ≤ sizeLine; decide), fun p hp => ?_⟩
 have s3 := zJ hp (.lst [.str (Str.ofString "money"), .str (Str.ofString "whole")])
 obtain ⟨m, hm, hat⟩ : ∃ m : Bool, (c % 5 = 1 ∨ c % 5 = 2) ∧ atI [V.str (Str.ofString "money"), .str (Str.ofString "whole")] (c % 5 - 1) = some (.str (nh m)) := by
   rcases (by omega : c % 5 = 1 ∨ c % 5 = 2) with e | e
   · refine ⟨true, .inl e, ?_⟩
     rw [e]; exact atI_nat (j := 0) rfl
   · refine ⟨false, .inr e, ?_⟩
     rw [e]; exact atI_nat (j := 1) rfl
 refine ⟨_, rfl, _, _, rfl, rfl, p, _, _, _, rfl, rfl, SqL.of zE, hat, _, rfl, _, rfl, m, lo, lo + sz, rfl, b1, b2, ?_⟩
 refine ⟨_, rfl, _, rfl, (by show 3 ≤ sizeLine; decide), fun t ht => ?_⟩
 refine q (nk m lo (lo + sz)) t _ (s1.trans (s2.trans (s3.trans (zJ ht _)))) ?_ ?_
 · cases m
   · exact ⟨by omega, b1, b2⟩
   · exact ⟨by omega, b1, b2⟩
 · rw [zE]
   cases m <;> rfl
end
end K07
set_option maxHeartbeats 4000000
namespace K07
open PySem L2
seal PE PT PW PA PS PSs PG PGs PI PO PSet OpR UnR CallR TruR IxR SlR PC PPs
local macro_rules | `(tactic| walk_at "rd1") => `(tactic| first
 | (refine And.intro rfl ?_)
 | (refine And.intro (by assumption) ?_)
 | (refine And.intro (fun _ e => e) ?_)
 | (refine And.intro (TyOf.str _) ?_) | (refine And.intro (TyOf.int _) ?_) | (refine And.intro (TyOf.bl _) ?_) | (refine And.intro TyOf.non ?_)
 | (refine iteT ?_) | (refine iteF ?_)
 | (apply Exists.intro))
local macro_rules | `(tactic| walk_at "rd") => `(tactic| repeat (walk_at "rd1"))
def BadT (z : Str) : Prop := Fine 890 z ∧ kindL (splitL (cd z)) = none
def BadR (K : W.Frag) (H : Hp) (x : V) : Prop := (∃ z, x = .str z ∧ BadT z) ∨ ∃ t, TyE K H x t ∧ W.kitOne K t (.type "str") = some false
def spOdd : Sp := fun vs H Q _ => ∃ c : Int, vs = [.int c] ∧ ∀ z H', Same H H' → BadT z → Q (.str z) H'
def spBad (K : W.Frag) : Sp := fun vs H Q _ => ∃ c : Int, vs = [.int c] ∧ ib c ≤ 1048576 ∧ ∀ x H', Same H H' → BadR K H' x → Q x H'
def oddL : List Str := [Str.ofString "", Str.ofString "yesno ", Str.ofString " yesno", Str.ofString "Yesno", Str.ofString "whole", Str.ofString "whole 1", Str.ofString "whole 1 2 3", Str.ofString "money 1 2", Str.ofString "whole 1.00 2.00", Str.ofString "names"] ++ [Str.ofString "pick", Str.ofString "names 3 ", Str.ofString "pick a  b", Str.ofString "whole 01 2", Str.ofString "money 0.5 0.60", Str.ofString "names three", Str.ofString "yesno yesno"] ++ [Str.ofString "whole -0 1"]
theorem bad_of {z : Str} (h : z.length ≤ 890 ∧ (∀ c ∈ cd z, c < 1000) ∧ (kindL (splitL (cd z))).isNone = true) : BadT z := ⟨⟨h.1, h.2.1⟩, by
 cases e : kindL (splitL (cd z)) with
 | none => rfl
 | some k => have := h.2.2; rw [e] at this; cases this⟩
theorem odd_bad : ∀ z ∈ oddL, z.length ≤ 890 ∧ (∀ c ∈ cd z, c < 1000) ∧ (kindL (splitL (cd z))).isNone = true := by symm
def nmL : List Str := [Str.ofString "0", Str.ofString "7", Str.ofString "10", Str.ofString "01", Str.ofString "-1", Str.ofString "a", Str.ofString "1.0", Str.ofString "+2"]
theorem nm_bad : ∀ z ∈ nmL, (Str.ofString "names " ++ z).length ≤ 890 ∧ (∀ c ∈ cd (Str.ofString "names " ++ z), c < 1000) ∧ (kindL (splitL (cd (Str.ofString "names " ++ z)))).isNone = true := by symm
theorem nm_len : ∀ z ∈ nmL, z.length ≤ 10 := by symm
def wrongL : List Str := [Str.ofString "A", Str.ofString "end", Str.ofString "a1", Str.ofString "abcdefghijklm", Str.ofString "is", Str.ofString "-", Str.ofString "unless", Str.ofString "1"]
theorem wrong_bad : ∀ z ∈ wrongL, z.length ≤ 13 ∧ (∀ c ∈ cd z, c < 1000) ∧ 32 ∉ cd z ∧ N.nameB z = false := by symm
theorem pick_bad {ws : List Str} (hne : ws ≠ []) (h8 : ws.length ≤ 8) (hf : ∀ z ∈ ws, z.length ≤ 13 ∧ (∀ c ∈ cd z, c < 1000) ∧ 32 ∉ cd z) (hb : pickB (ws.map cd) = none) : BadT (Str.ofString "pick " ++ S (joinL [32] (ws.map cd))) := by
 have hl := joinP_len (fun z hz => (hf z hz).1) h8
 have hfr : ∀ p ∈ hPk :: ws.map cd, 32 ∉ p := fun p hp => by
   rcases List.mem_cons.mp hp with e | e
   · rw [e]; decide +kernel
   · obtain ⟨z, hz, rfl⟩ := List.mem_map.mp e; exact (hf z hz).2.2
 refine ⟨?_, ?_⟩
 · refine (Fine.app (n := 5) (m := 800) ⟨by symm, by symm⟩ ⟨by rw [len_S]; omega, fun c hc => ?_⟩).mono (by decide)
   rw [cd_S] at hc
   rcases mem_join hc with e | ⟨p, hp, hc⟩
   · omega
   · obtain ⟨z, hz, rfl⟩ := List.mem_map.mp hp; exact (hf z hz).2.1 c hc
 · rw [join_pk hne, cd_S, splitL_of (by simp) hfr]
   show kindW hPk (ws.map cd) = none
   rw [kW_pk, hb]
theorem names_ok {ws : List Str} (h : ∀ z ∈ ws, N.nameB z = true) : ∀ z ∈ ws, z.length ≤ 13 ∧ (∀ c ∈ cd z, c < 1000) ∧ 32 ∉ cd z := fun z hz => by
 obtain ⟨a, b, c⟩ := name_let (h z hz)
 exact ⟨by omega, fun d hd => by have := c d hd; omega, name_free (h z hz)⟩
theorem pk_many {ws : List Str} (h : ¬ (2 ≤ ws.length ∧ ws.length ≤ 6)) : pickB (ws.map cd) = none := by
 unfold pickB
 rw [List.length_map]
 exact if_neg fun z => h ⟨z.1, z.2.1⟩
theorem pk_twice {ws : List Str} (h : ¬ ws.Nodup) : pickB (ws.map cd) = none := by
 unfold pickB
 refine if_neg fun z => ?_
 have := z.2.2
 rw [wv_cd, N.unlike_strs, Bool.and_eq_true] at this
 exact h (of_decide_eq_true this.2)
theorem tld_fine {ku : KU} (h : KGood ku) : Fine 410 (S (tld ku)) := by
 have con : ∀ (z : Str) (n : Nat), z.length ≤ n ∧ (∀ c ∈ cd z, c < 1000) → Fine n z := fun z n h => ⟨h.1, h.2⟩
 cases ku with
 | yn => rw [show tld .yn = cd (Str.ofString "yesno") from rfl, S_cd]; exact ⟨by symm, by symm⟩
 | wh lo hi =>
   have f0 : Fine 6 (Str.ofString "whole ") := ⟨by symm, by symm⟩
   have e : Str.ofString "whole " ++ S (bnL (.wh lo hi)) = S (tld (.wh lo hi)) := by
     rw [show Str.ofString "whole " = S (cd (Str.ofString "whole ")) from (S_cd _).symm, S_app]; rfl
   rw [← e]; exact (f0.app (bn_fine h.good (.inl ⟨lo, hi, rfl⟩))).mono (by decide)
 | mo lo hi =>
   have f0 : Fine 6 (Str.ofString "money ") := ⟨by symm, by symm⟩
   have e : Str.ofString "money " ++ S (bnL (.mo lo hi)) = S (tld (.mo lo hi)) := by
     rw [show Str.ofString "money " = S (cd (Str.ofString "money ")) from (S_cd _).symm, S_app]; rfl
   rw [← e]; exact (f0.app (bn_fine h.good (.inr ⟨lo, hi, rfl⟩))).mono (by decide)
 | pk ws =>
   have e : Str.ofString "pick " ++ S (joinL [32] (ws.map cd)) = S (tld (.pk ws)) := by
     rw [show Str.ofString "pick " = S (cd (Str.ofString "pick ")) from (S_cd _).symm, S_app]; rfl
   rw [← e]
   have hn := names_ok h.2.2.2
   have hl := joinP_len (fun z hz => (hn z hz).1) (by have := h.2.1; omega)
   refine (Fine.app (n := 5) (m := 150) ⟨by symm, by symm⟩ ⟨by rw [len_S]; exact hl, fun c hc => ?_⟩).mono (by decide)
   rw [cd_S] at hc
   rcases mem_join hc with e | ⟨p, hp, hc⟩
   · omega
   · obtain ⟨z, hz, rfl⟩ := List.mem_map.mp hp; exact (hn z hz).2.1 c hc
 | nm m =>
   have f0 : Fine 6 (Str.ofString "names ") := ⟨by symm, by symm⟩
   have h6 : m ≤ 6 := h.2
   have p60 : (7 : Nat) < 10 ^ 60 := by symm
   have e : Str.ofString "names " ++ S (numL (m : Int)) = S (tld (.nm m)) := by
     rw [show Str.ofString "names " = S (cd (Str.ofString "names ")) from (S_cd _).symm, S_app]; rfl
   rw [← e]; exact (f0.app (fineNum (by omega))).mono (by decide)
theorem joinL_snoc {ws ex : List (List Nat)} (h : ws ≠ []) (k : ex ≠ []) : joinL [32] (ws ++ ex) = joinL [32] ws ++ [32] ++ joinL [32] ex := by
 match ws with
 | [] => exact absurd rfl h
 | [a] =>
   cases ex with
   | nil => exact absurd rfl k
   | cons b r => rfl
 | a :: b :: r =>
   have ih := joinL_snoc (ws := b :: r) (by simp) k
   show a ++ [32] ++ joinL [32] ((b :: r) ++ ex) = a ++ [32] ++ joinL [32] (b :: r) ++ [32] ++ joinL [32] ex
   rw [ih]; simp only [List.append_assoc]
theorem sp1 {ku : KU} (h : KGood ku) : BadT (S (tld ku) ++ Str.ofString " ") := by
 refine ⟨((tld_fine h).app (m := 1) ⟨by symm, by symm⟩).mono (by decide), ?_⟩
 have e : cd (S (tld ku) ++ Str.ofString " ") = joinL [32] (wds ku ++ [[]]) := by
   rw [cd_app, cd_S, tld_join h, joinL_snoc (wds_ne ku) (by simp), show cd (Str.ofString " ") = [32] by symm]
   show _ = _ ++ [32] ++ []
   rw [List.append_nil]
 rw [e, splitL_of (by simp) (fun p hp => ?_)]
 · exact more_none (x := []) (by simp) (by symm)
 · rcases List.mem_append.mp hp with z | z
   · exact wds_free h p z
   · rw [List.mem_singleton.mp z]; simp
theorem sp2 {ku : KU} (h : KGood ku) : BadT (Str.ofString " " ++ S (tld ku)) := by
 refine ⟨(Fine.app (n := 1) ⟨by symm, by symm⟩ (tld_fine h)).mono (by decide), ?_⟩
 have e : cd (Str.ofString " " ++ S (tld ku)) = joinL [32] ([] :: wds ku) := by
   rw [cd_app, cd_S, tld_join h, show cd (Str.ofString " ") = [32] by symm]
   cases hw : wds ku with
   | nil => exact absurd hw (wds_ne ku)
   | cons a r => rfl
 rw [e, splitL_of (by simp) (fun p hp => ?_)]
 · exact ahead_none _
 · rcases List.mem_cons.mp hp with z | z
   · rw [z]; simp
   · exact wds_free h p z
theorem dbl_len : ∀ l : List Nat, (dbl2 l).length ≤ 2 * l.length
 | [] => Nat.le_refl _
 | k :: r => by
   have e : dbl2 (k :: r) = if k = 32 then k :: k :: dbl2 r else k :: dbl2 r := rfl
   have ih := dbl_len r
   rw [e]
   split
   · rw [List.length_cons, List.length_cons, List.length_cons]; omega
   · rw [List.length_cons, List.length_cons]; omega
theorem dbl_mem : ∀ {l : List Nat} {c : Nat}, c ∈ dbl2 l → c ∈ l
 | [], c, h => h
 | k :: r, c, h => by
   have e : dbl2 (k :: r) = if k = 32 then k :: k :: dbl2 r else k :: dbl2 r := rfl
   rw [e] at h
   split at h
   · rcases List.mem_cons.mp h with z | h
     · rw [z]; exact List.mem_cons_self
     · rcases List.mem_cons.mp h with z | h
       · rw [z]; exact List.mem_cons_self
       · exact List.mem_cons_of_mem _ (dbl_mem h)
   · rcases List.mem_cons.mp h with z | h
     · rw [z]; exact List.mem_cons_self
     · exact List.mem_cons_of_mem _ (dbl_mem h)
theorem sp3 {ku : KU} (h : KGood ku) : BadT (S (dbl2 (tld ku)) ++ Str.ofString "\n") := by
 have f := tld_fine h
 have fl := f.len
 rw [len_S] at fl
 have hd := dbl_len (tld ku)
 refine ⟨(Fine.app (n := 820) (m := 1) ⟨by rw [len_S]; omega, fun c hc => by rw [cd_S] at hc; exact f.cod c (by rw [cd_S]; exact dbl_mem hc)⟩ ⟨by symm, by symm⟩).mono (by decide), ?_⟩
 have e : cd (S (dbl2 (tld ku)) ++ Str.ofString "\n") = joinL [32] (addLast (spread (wds ku)) [10]) := by
   rw [cd_app, cd_S, tld_join h, dbl_join (wds_free h), addLast_join _ (spread_ne (wds_ne ku)), show cd (Str.ofString "\n") = [10] by symm]
 have hne : addLast (spread (wds ku)) [10] ≠ [] := by
   cases hs : spread (wds ku) with
   | nil => exact absurd hs (spread_ne (wds_ne ku))
   | cons a r =>
     obtain ⟨c, t, e⟩ := addLast_ne (b := a) (r := r) (x := [10])
     rw [e]; simp
 rw [e, splitL_of hne (fun p hp => ?_)]
 · exact wide_none h
 · have key : ∀ q ∈ spread (wds ku), 32 ∉ q := fun q hq => by
     rcases spread_mem hq with z | z
     · rw [z]; simp
     · exact wds_free h q z
   rcases addLast_mem hp with z | ⟨q, hq, z⟩
   · exact key p z
   · rw [z]; intro k
     rcases List.mem_append.mp k with k | k
     · exact key q hq k
     · simp at k
def ex7 : List (List Nat) := [[49], [50], [51], [52], [53], [54], [55]]
theorem sp4 {ku : KU} (h : KGood ku) : BadT (S (tld ku) ++ Str.ofString " 1 2 3 4 5 6 7") := by
 refine ⟨((tld_fine h).app (m := 14) ⟨by symm, by symm⟩).mono (by decide), ?_⟩
 have e : cd (S (tld ku) ++ Str.ofString " 1 2 3 4 5 6 7") = joinL [32] (wds ku ++ ex7) := by
   rw [cd_app, cd_S, tld_join h, joinL_snoc (wds_ne ku) (by decide), show cd (Str.ofString " 1 2 3 4 5 6 7") = [32] ++ joinL [32] ex7 by symm, List.append_assoc]
 have hne : wds ku ++ ex7 ≠ [] := by
   intro z
   exact wds_ne ku (List.append_eq_nil_iff.mp z).1
 rw [e, splitL_of hne (fun p hp => ?_)]
 · exact more_none (x := [49]) (by decide) (by symm)
 · rcases List.mem_append.mp hp with z | z
   · exact wds_free h p z
   · have key : ∀ p ∈ ex7, 32 ∉ p := by symm
     exact key p z
theorem nums_bad {m : Bool} {a b : Int} (h : b < a) (ha : a.natAbs < 10 ^ 60) (hb : b.natAbs < 10 ^ 60) : BadT (S (tld (nk m a b))) := by
 cases m with
 | true =>
   have f0 : Fine 6 (Str.ofString "money ") := ⟨by symm, by symm⟩
   have fb : Fine 1 (Str.ofString " ") := ⟨by symm, by symm⟩
   have e : Str.ofString "money " ++ S (monL a) ++ Str.ofString " " ++ S (monL b) = S (tld (.mo a b)) := by
     rw [show Str.ofString "money " = S (cd (Str.ofString "money ")) from (S_cd _).symm, show Str.ofString " " = S [32] by symm, S_app, S_app, S_app]
     show S (_ ++ _ ++ _ ++ _) = S (_ ++ (_ ++ _ ++ _))
     simp only [List.append_assoc]
   refine ⟨?_, ?_⟩
   · show Fine 890 (S (tld (.mo a b)))
     rw [← e]; exact (((f0.app (mon_fine ha)).app fb).app (mon_fine hb)).mono (by decide)
   · show kindL (splitL (cd (S (tld (.mo a b))))) = none
     have ej : tld (.mo a b) = joinL [32] [hMo, monL a, monL b] := by
       show cd (Str.ofString "money ") ++ (monL a ++ [32] ++ monL b) = hMo ++ [32] ++ (monL a ++ [32] ++ monL b)
       rw [show cd (Str.ofString "money ") = hMo ++ [32] by symm]
     rw [cd_S, ej, splitL_of (by simp) (fun p hp => ?_)]
     · show kindW hMo [monL a, monL b] = none
       rw [kW_mo]
       show bk2 .mo (ansM (monL a)) (ansM (monL b)) = _
       rw [mon_back ha, mon_back hb]
       exact if_neg (by omega)
     · rcases List.mem_cons.mp hp with z | hp
       · rw [z]; decide +kernel
       · rcases List.mem_cons.mp hp with z | hp
         · rw [z]; exact mon_free ha
         · rw [List.mem_singleton.mp hp]; exact mon_free hb
 | false =>
   have f0 : Fine 6 (Str.ofString "whole ") := ⟨by symm, by symm⟩
   have fb : Fine 1 (Str.ofString " ") := ⟨by symm, by symm⟩
   have e : Str.ofString "whole " ++ S (numL a) ++ Str.ofString " " ++ S (numL b) = S (tld (.wh a b)) := by
     rw [show Str.ofString "whole " = S (cd (Str.ofString "whole ")) from (S_cd _).symm, show Str.ofString " " = S [32] by symm, S_app, S_app, S_app]
     show S (_ ++ _ ++ _ ++ _) = S (_ ++ (_ ++ _ ++ _))
     simp only [List.append_assoc]
   refine ⟨?_, ?_⟩
   · show Fine 890 (S (tld (.wh a b)))
     rw [← e]; exact (((f0.app (fineNum ha)).app fb).app (fineNum hb)).mono (by decide)
   · show kindL (splitL (cd (S (tld (.wh a b))))) = none
     have ej : tld (.wh a b) = joinL [32] [hWh, numL a, numL b] := by
       show cd (Str.ofString "whole ") ++ (numL a ++ [32] ++ numL b) = hWh ++ [32] ++ (numL a ++ [32] ++ numL b)
       rw [show cd (Str.ofString "whole ") = hWh ++ [32] by symm]
     rw [cd_S, ej, splitL_of (by simp) (fun p hp => ?_)]
     · show kindW hWh [numL a, numL b] = none
       rw [kW_wh]
       show bk2 .wh (numB (numL a) 60) (numB (numL b) 60) = _
       rw [num_back ha, num_back hb]
       exact if_neg (by omega)
     · rcases List.mem_cons.mp hp with z | hp
       · rw [z]; decide +kernel
       · rcases List.mem_cons.mp hp with z | hp
         · rw [z]; exact num_free _
         · rw [List.mem_singleton.mp hp]; exact num_free _
end K07
set_option maxHeartbeats 4000000
namespace K07
open PySem L2
seal PE PT PW PA PS PSs PG PGs PI PO PSet OpR UnR CallR TruR IxR SlR PC PPs
local macro_rules | `(tactic| walk_at "rd1") => `(tactic| first
 | (refine And.intro rfl ?_)
 | (refine And.intro (by assumption) ?_)
 | (refine And.intro (fun _ e => e) ?_)
 | (refine And.intro (TyOf.str _) ?_) | (refine And.intro (TyOf.int _) ?_) | (refine And.intro (TyOf.bl _) ?_) | (refine And.intro TyOf.non ?_)
 | (refine iteT ?_) | (refine iteF ?_)
 | (apply Exists.intro))
local macro_rules | `(tactic| walk_at "rd") => `(tactic| repeat (walk_at "rd1"))
theorem at_strs {l : List Str} {i : Int} (h0 : 0 ≤ i) (h1 : i < l.length) : ∃ z ∈ l, atI (l.map V.str) i = some (.str z) := by
 obtain ⟨v, hv, hv2⟩ := at_some (l := l.map V.str) h0 (by rw [List.length_map]; exact h1)
 obtain ⟨z, hz, rfl⟩ := map_get hv2
 exact ⟨z, List.mem_of_getElem? hz, hv⟩
section
variable {P : Program} {w : World} {K : W.Frag} {mg : Str → Option Value} {base : Heap} {A : Adr}
theorem ok_law_odd (T : Txt K mg A) : FnOk P w K mg base CX0 1 A.f_law_odd A.d_law_odd ["_law_cell"] spOdd := by
 refine T.F_law_odd.ok sc_law_odd (fun vs H Q E h => ?_) (fun cdv A0 outer s H vs Q E hr h => ?_)
 · obtain ⟨c, rfl, _⟩ := h
   rfl
 obtain ⟨c, rfl, q⟩ := h
 refine ⟨_, (zF (ps_set (i := 1) sc_law_odd.nd rfl (by first | exact Or.inl rfl | exact Or.inr rfl) (pe_lst (zA zG (zA zG (zA zG (zA zG (zA zG (zA zG (zA zG (zA zG (zA zG (zA zG zB))))))))))))
     (zF (ps_set (i := 1) sc_law_odd.nd rfl (by first | exact Or.inl rfl | exact Or.inr rfl) (zK op_cat (pv 1) (pe_lst (zA zG (zA zG (zA zG (zA zG (zA zG (zA zG (zA zG zB))))))))))
     (zF (ps_set (i := 1) sc_law_odd.nd rfl (by first | exact Or.inl rfl | exact Or.inr rfl) (zK op_cat (pv 1) (pe_lst (zA zG zB))))
     (zC (zH (pe_ix ix_list (pv 1) (zK op_mod (pv 0) zD) (fun _ _ => rfl))))))), ?_⟩
 refine ⟨(by show 10 ≤ sizeLine; decide), fun p1 h1 => ?_⟩
 have s1 := zJ h1 (.lst [V.str (Str.ofString ""), V.str (Str.ofString "yesno "), V.str (Str.ofString " yesno"), V.str (Str.ofString "Yesno"), V.str (Str.ofString "whole"), V.str (Str.ofString "whole 1"), V.str (Str.ofString "whole 1 2 3"), V.str (Str.ofString "money 1 2"), V.str (Str.ofString "whole 1.00 2.00"), V.str (Str.ofString "names")])
 refine ⟨_, rfl, (by show 7 ≤ sizeLine; decide), fun p2 h2 => ?_⟩
 have s2 := zJ h2 (.lst [V.str (Str.ofString "pick"), V.str (Str.ofString "names 3 "), V.str (Str.ofString "pick a  b"), V.str (Str.ofString "whole 01 2"), V.str (Str.ofString "money 0.5 0.60"), V.str (Str.ofString "names three"), V.str (Str.ofString "yesno yesno")])
 refine ⟨p1, p2, _, _, rfl, rfl, s2 _ _ zE, zE, (by show 10 + 7 ≤ sizeLine; decide), fun p3 h3 => ?_⟩
 have s3 := zJ h3 (.lst ([V.str (Str.ofString ""), V.str (Str.ofString "yesno "), V.str (Str.ofString " yesno"), V.str (Str.ofString "Yesno"), V.str (Str.ofString "whole"), V.str (Str.ofString "whole 1"), V.str (Str.ofString "whole 1 2 3"), V.str (Str.ofString "money 1 2"), V.str (Str.ofString "whole 1.00 2.00"), V.str (Str.ofString "names")] ++ [V.str (Str.ofString "pick"), V.str (Str.ofString "names 3 "), V.str (Str.ofString "pick a  b"), V.str (Str.ofString "whole 01 2"), V.str (Str.ofString "money 0.5 0.60"), V.str (Str.ofString "names three"), V.str (Str.ofString "yesno yesno")]))
 refine ⟨_, rfl, (by show 1 ≤ sizeLine; decide), fun p4 h4 => ?_⟩
 have s4 := zJ h4 (.lst [V.str (Str.ofString "whole -0 1")])
 refine ⟨p3, p4, _, _, rfl, rfl, s4 _ _ zE, zE, (by show 17 + 1 ≤ sizeLine; decide), fun p5 h5 => ?_⟩
 have s5 := zJ h5 (.lst (oddL.map V.str))
 obtain ⟨z, hz, hat⟩ := at_strs (l := oddL) (i := c % 18) (Int.emod_nonneg _ (by decide)) (by show c % 18 < 18; exact Int.emod_lt_of_pos _ (by decide))
 exact ⟨_, rfl, _, rfl, _, _, rfl, rfl, (by show (0 : Int) < 18; decide), p5, _, _, _, rfl, rfl, SqL.of zE, hat, q z _ (s1.trans (s2.trans (s3.trans (s4.trans s5)))) (bad_of (odd_bad z hz))⟩
theorem ok_law_bad (T : Txt K mg A) : FnOk P w K mg base CX0 4 A.f_law_bad A.d_law_bad ["_law_cell"] (spBad K) := by
 have G_law_words := ok_law_words (P := P) (w := w) (base := base) T
 have G_law_low := ok_law_low (P := P) (w := w) (base := base) T
 have G_law_size := ok_law_size (P := P) (w := w) (base := base) T
 have G_law_numbers := ok_law_numbers (P := P) (w := w) (base := base) T
 have G_law_good := ok_law_good (P := P) (w := w) (base := base) T
 have G_law_odd := ok_law_odd (P := P) (w := w) (base := base) T
 refine T.F_law_bad.ok sc_law_bad (fun vs H Q E h => ?_) (fun cdv A0 outer s H vs Q E hr h => ?_)
 · obtain ⟨c, rfl, _⟩ := h
   rfl
 obtain ⟨c, rfl, hc, q⟩ := h
 refine ⟨_, (pss_setm (i := 1) sc_law_bad.nd rfl (by first | exact Or.inl rfl | exact Or.inr rfl) (pem_op op_mod (pv 0) pem_int) (pssp_consP (PS.made (ps_set (i := 2) sc_law_bad.nd rfl (by first | exact Or.inl rfl | exact Or.inr rfl) (zK op_fdiv (pv 0) zD))) (pssp_consP (PS.made (ps_if (pt_cmpR op_eq (pv 1) zD (nomark _)) (zC (zH (pe_ix ix_list (pe_lst (zA pe_non (zA pe_bl (zA zD (zA (pe_lst (zA zG zB)) (zA (pe_tup (zA zG zB)) (zA pe_dnewK (zA (pe_lst zB) zB)))))))) (zK op_mod (pv 2) zD) (fun _ _ => rfl)))) pss_nil)) (pssp_consP (PS.made (ps_if (pt_cmpR op_eq (pv 1) zD (nomark _)) (zF (ps_set (i := 3) sc_law_bad.nd rfl (by first | exact Or.inl rfl | exact Or.inr rfl) (zL G_law_low (hr.mono (by first | decide | omega)) rfl T.m_law_low T.k_law_low T.b_law_low .nil zN (zA (pv 2) zB)))
     (zC (zH (zL G_law_numbers (hr.mono (by first | decide | omega)) rfl T.m_law_numbers T.k_law_numbers T.b_law_numbers .nil zN (zA (pe_ix ix_list (pe_lst (zA zG (zA zG zB))) (zK op_mod (pv 2) zD) (fun _ _ => rfl)) (zA (zK op_add (zK op_add (pv 3) zD) (zL G_law_size (hr.mono (by first | decide | omega)) rfl T.m_law_size T.k_law_size T.b_law_size .nil zN (zA (pv 2) zB))) (zA (pv 3) zB))))))) pss_nil)) (pssp_consP (PS.made (ps_if (pt_cmpR op_eq (pv 1) zD (nomark _)) (zC (zH (zK zM zG (pe_bm PySem.F.plainAttrs_str PySem.F.slot_str_join PySem.F.type_str_join mt_join zG (zA (zL G_law_words (hr.mono (by first | decide | omega)) rfl T.m_law_words T.k_law_words T.b_law_words .nil zN (zA (pv 2) (zA (pe_ix ix_list (pe_lst (zA zD (zA zD zB))) (zK op_mod (pv 2) zD) (fun _ _ => rfl)) zB))) zB))))) pss_nil)) (pssp_consP (PS.made (ps_if (pt_cmpR op_eq (pv 1) zD (nomark _)) (zF (ps_set (i := 4) sc_law_bad.nd rfl (by first | exact Or.inl rfl | exact Or.inr rfl) (zL G_law_words (hr.mono (by first | decide | omega)) rfl T.m_law_words T.k_law_words T.b_law_words .nil zN (zA (pv 2) (zA (zK op_add zD (zK op_mod (pv 2) zD)) zB))))
     (zC (zH (zK zM zG (pe_bm PySem.F.plainAttrs_str PySem.F.slot_str_join PySem.F.type_str_join mt_join zG (zA (zK op_cat (pv 4) (pe_lst (zA (pe_ix ix_list (pv 4) (zK op_mod (zK op_fdiv (pv 2) zD) (zI call_len_seq (by rfl) T.n_len PySem.boot_len (zA (pv 4) zB))) (fun _ _ => rfl)) zB))) zB)))))) pss_nil)) (pssp_consP (PS.made (ps_if (pt_cmpR op_eq (pv 1) zD (nomark _)) (zF (ps_set (i := 4) sc_law_bad.nd rfl (by first | exact Or.inl rfl | exact Or.inr rfl) (zL G_law_words (hr.mono (by first | decide | omega)) rfl T.m_law_words T.k_law_words T.b_law_words .nil zN (zA (pv 2) (zA (zK op_add zD (zK op_mod (pv 2) zD)) zB))))
     (zF (ps_asg (pe_ix ix_list (pe_lst (zA zG (zA zG (zA zG (zA zG (zA zG (zA zG (zA zG (zA zG zB))))))))) (zK op_mod (zK op_fdiv (pv 2) zD) zD) (fun _ _ => rfl)) (pg_sub (pv 4) (zK op_mod (pv 2) (zI call_len_seq (by rfl) T.n_len PySem.boot_len (zA (pv 4) zB))) set_list))
     (zC (zH (zK zM zG (pe_bm PySem.F.plainAttrs_str PySem.F.slot_str_join PySem.F.type_str_join mt_join zG (zA (pv 4) zB))))))) pss_nil)) (pssp_consP (PS.made (ps_if (pt_cmpR op_eq (pv 1) zD (nomark _)) (zC (zH (zK zM zG (pe_ix ix_list (pe_lst (zA zG (zA zG (zA zG (zA zG (zA zG (zA zG (zA zG (zA zG zB))))))))) (zK op_mod (pv 2) zD) (fun _ _ => rfl))))) pss_nil)) (pssp_consP (psp_if (pt_cmpR op_eq (pv 1) zD (nomark _)) (pssp_consP (PS.made (ps_set (i := 5) sc_law_bad.nd rfl (by first | exact Or.inl rfl | exact Or.inr rfl) (pe_ix ix_tup (zL G_law_good (hr.mono (by first | decide | omega)) rfl T.m_law_good T.k_law_good T.b_law_good .nil zN (zA (pv 2) zB)) zD (fun _ _ => rfl)))) (pssp_one (psp_ret (pep_ix ix_list (pep_lst (pap_cons (PE.made (zK zM (pv 5) zG)) (pap_cons (PE.made (zK zM zG (pv 5))) (pap_cons (pep_op zM (pep_replace (PE.made (pv 5))) zG) (PA.made (zA (zK zM (pv 5) zG) zB)))))) (zK op_mod (pv 2) zD) (fun _ _ => rfl))))) (PSs.made pss_nil)) (PSs.made (zC (zH (zL G_law_odd (hr.mono (by first | decide | omega)) rfl T.m_law_odd T.k_law_odd T.b_law_odd .nil zN (zA (pv 2) zB)))))))))))))), ?_⟩
 refine ⟨_, rfl, _, _, rfl, rfl, (by show (0 : Int) < 8; decide), ?_⟩
 refine ⟨_, rfl, _, _, rfl, rfl, ⟨by decide, by decide⟩, ?_⟩
 have hr8 : ib (c / 8) ≤ 1048576 := ib_div (by decide) hc
 dsimp only
 generalize hrr : c / 8 = r at hr8
 generalize hww : c % 8 = wy
 have p60 : (10 : Nat) ^ 59 + 10 ^ 59 + 10 ^ 59 < 10 ^ 60 := by symm
 have e59 : ((10 ^ 59 : Nat) : Int) = (10 : Int) ^ 59 := by simp
 have qt : ∀ z H', Same H H' → BadT z → Q (.str z) H' := fun z H' s' hb => q _ _ s' (.inl ⟨z, rfl, hb⟩)
 refine ⟨_, rfl, rfl, _, rfl, ite2 (fun _ => ?_) (fun _ => ?_)⟩
 ·
   refine ⟨(by show 1 ≤ sizeLine; decide), fun l1 h1 => ⟨(by show 1 ≤ sizeLine; decide), fun t1 ht1 => fun d hd => ⟨(by show 0 ≤ sizeLine; decide), fun l2 h2 => ⟨(by show 7 ≤ sizeLine; decide), fun p hp => ?_⟩⟩⟩⟩
   have s1 := zJ h1 (.lst [.str (Str.ofString "yesno")])
   have s2 := zJ ht1 (.tup [.str (Str.ofString "yesno")])
   have s3 := zJ hd (.dK [])
   have s4 := zJ h2 (.lst [])
   have s5 := zJ hp (.lst [.non, .bl true, .int 5, .ref l1, .ref t1, .ref d, .ref l2])
   have a1 := (s2.trans (s3.trans (s4.trans s5))) _ _ (zE (H := H) (a := l1) (o := .lst [.str (Str.ofString "yesno")]))
   have a2 := (s3.trans (s4.trans s5)) _ _ (zE (a := t1) (o := .tup [.str (Str.ofString "yesno")]))
   have a3 := (s4.trans s5) _ _ (zE (a := d) (o := .dK []))
   have a4 := s5 _ _ (zE (a := l2) (o := .lst []))
   have sA := s1.trans (s2.trans (s3.trans (s4.trans s5)))
   have h0 : 0 ≤ r % 7 := Int.emod_nonneg _ (by decide)
   have h7 : r % 7 < 7 := Int.emod_lt_of_pos _ (by decide)
   obtain ⟨v, hv, hv2⟩ := at_some (l := [V.non, .bl true, .int 5, .ref l1, .ref t1, .ref d, .ref l2]) (i := r % 7) h0 (by show r % 7 < 7; exact h7)
   refine ⟨_, rfl, _, _, rfl, rfl, (by show (0 : Int) < 7; decide), p, _, _, _, rfl, rfl, SqL.of zE, hv, q _ _ sA (.inr ?_)⟩
   have hm := List.mem_of_getElem? hv2
   simp only [List.mem_cons, List.not_mem_nil, or_false] at hm
   rcases hm with e | e | e | e | e | e | e
   · subst e; exact ⟨_, .old .non, T.i_NoneType_str⟩
   · subst e; exact ⟨_, .old (.bl true), T.i_bool_str⟩
   · subst e; exact ⟨_, .old (.int 5), T.i_int_str⟩
   · subst e; exact ⟨_, .old (.lst a1), T.i_list_str⟩
   · subst e; exact ⟨_, .old (.tup a2), T.i_tuple_str⟩
   · subst e; exact ⟨_, .old (.dK a3), T.i_dict_str⟩
   · subst e; exact ⟨_, .old (.lst a4), T.i_list_str⟩
 refine ⟨_, rfl, rfl, _, rfl, ite2 (fun _ => ?_) (fun _ => ?_)⟩
 ·
   refine ⟨_, rfl, r, rfl, hr8, fun lo H1 l0 l1 s1 => ?_⟩
   refine ⟨(by show 2 ≤ sizeLine; decide), fun p hp => ?_⟩
   have s2 := zJ hp (.lst [.str (Str.ofString "whole"), .str (Str.ofString "money")])
   obtain ⟨m, hat⟩ : ∃ m : Bool, atI [V.str (Str.ofString "whole"), .str (Str.ofString "money")] (r % 2) = some (.str (nh m)) := by
     have h0 : 0 ≤ r % 2 := Int.emod_nonneg _ (by decide)
     have h2 : r % 2 < 2 := Int.emod_lt_of_pos _ (by decide)
     rcases (by omega : r % 2 = ((0 : Nat) : Int) ∨ r % 2 = ((1 : Nat) : Int)) with e | e
     · exact ⟨false, by rw [e]; exact atI_nat rfl⟩
     · exact ⟨true, by rw [e]; exact atI_nat rfl⟩
   refine ⟨_, rfl, _, _, rfl, rfl, (by show (0 : Int) < 2; decide), p, _, _, _, rfl, rfl, SqL.of zE, hat, _, rfl, _, _, rfl, rfl, _, rfl, r, rfl, hr8, fun sz H2 z0 z1 s3 => ?_⟩
   have b1 : (lo + 1 + sz).natAbs < 10 ^ 60 := by omega
   have b2 : lo.natAbs < 10 ^ 60 := by omega
   refine ⟨_, _, rfl, rfl, _, rfl, m, lo + 1 + sz, lo, rfl, b1, b2, qt _ _ (s1.trans (s2.trans s3)) (nums_bad (by omega) b1 b2)⟩
 refine ⟨_, rfl, rfl, _, rfl, ite2 (fun _ => ?_) (fun _ => ?_)⟩
 ·
   refine ⟨rfl, _, rfl, (by show 2 ≤ sizeLine; decide), fun p hp => ?_⟩
   have s1 := zJ hp (.lst [.int 1, .int 7])
   obtain ⟨n, hn, hat⟩ : ∃ n : Nat, (n = 1 ∨ n = 7) ∧ atI [V.int 1, .int 7] (r % 2) = some (.int (n : Int)) := by
     have h0 : 0 ≤ r % 2 := Int.emod_nonneg _ (by decide)
     have h2 : r % 2 < 2 := Int.emod_lt_of_pos _ (by decide)
     rcases (by omega : r % 2 = ((0 : Nat) : Int) ∨ r % 2 = ((1 : Nat) : Int)) with e | e
     · exact ⟨1, .inl rfl, by rw [e]; exact atI_nat rfl⟩
     · exact ⟨7, .inr rfl, by rw [e]; exact atI_nat rfl⟩
   refine ⟨_, rfl, _, _, rfl, rfl, (by show (0 : Int) < 2; decide), p, _, _, _, rfl, rfl, SqL.of zE, hat, r, n, rfl, by omega, hr8, fun pw ws H1 gw s2 hpw0 hpw => ?_⟩
   obtain ⟨gl, gn, gm⟩ := gw
   have hok := names_ok gm
   refine ⟨_, pw, ws, rfl, rfl, .inl (SqL.of hpw), join_sz (fun z hz => (hok z hz).1) (by omega), ?_⟩
   rw [joinS_is, show cd (Str.ofString " ") = [32] by symm]
   have hjl := joinP_len (fun z hz => (hok z hz).1) (by omega : ws.length ≤ 8)
   refine ⟨_, _, rfl, rfl, small_of (m := 1000) (by rw [len_S, show (Str.ofString "pick ").length = 5 by symm]; omega), ?_⟩
   refine qt _ _ (s1.trans s2) (pick_bad (fun e => by rw [e] at gl; simp at gl; omega) (by omega) hok (pk_many (by omega)))
 refine ⟨_, rfl, rfl, _, rfl, ite2 (fun _ => ?_) (fun _ => ?_)⟩
 ·
   have m0 : 0 ≤ r % 4 := Int.emod_nonneg _ (by decide)
   have m1 : r % 4 < 4 := Int.emod_lt_of_pos _ (by decide)
   obtain ⟨n, hn⟩ : ∃ n : Nat, 2 + r % 4 = (n : Int) := ⟨(2 + r % 4).toNat, by omega⟩
   refine ⟨_, rfl, _, rfl, _, _, rfl, rfl, (by show (0 : Int) < 4; decide), _, _, rfl, rfl, ?_⟩
   dsimp only
   rw [hn]
   refine ⟨r, n, rfl, by omega, hr8, fun pw ws H1 gw s1 hpw0 hpw => ?_⟩
   obtain ⟨gl, gn, gm⟩ := gw
   have hok := names_ok gm
   obtain ⟨z, hz, hat⟩ := at_strs (l := ws) (i := r / 4 % (ws.length : Int)) (Int.emod_nonneg _ (by omega)) (Int.emod_lt_of_pos _ (by omega))
   refine ⟨rfl, _, rfl, _, rfl, _, rfl, _, _, rfl, rfl, ⟨by decide, by decide⟩, _, rfl, pw, _, rfl, .inl (SqL.of hpw), _, _, rfl, rfl, (by rw [List.length_map]; omega), pw, _, _, _, rfl, rfl, SqL.of hpw, (by rw [List.length_map]; exact hat), (by show 1 ≤ sizeLine; decide), fun p hp => ?_⟩
   have s2 := zJ hp (.lst [.str z])
   refine ⟨pw, p, _, _, rfl, rfl, s2 _ _ hpw, zE, ?_, fun p2 hp2 => ?_⟩
   · rw [List.length_map]; exact small_of (m := 100) (by show _ + 1 ≤ 100; omega)
   have s3 := zJ hp2 (.lst (ws.map V.str ++ [.str z]))
   have ew : ws.map V.str ++ [.str z] = (ws ++ [z]).map V.str := by rw [List.map_append]; rfl
   have hok2 : ∀ y ∈ ws ++ [z], y.length ≤ 13 ∧ (∀ c ∈ cd y, c < 1000) ∧ 32 ∉ cd y := fun y hy => by
     rcases List.mem_append.mp hy with e | e
     · exact hok y e
     · rw [List.mem_singleton.mp e]; exact hok z hz
   have hl8 : (ws ++ [z]).length ≤ 8 := by rw [List.length_append]; show _ + 1 ≤ 8; omega
   refine ⟨_, p2, ws ++ [z], rfl, rfl, .inl (SqL.of (by rw [← ew]; exact zE)), join_sz (fun y hy => (hok2 y hy).1) hl8, ?_⟩
   rw [joinS_is, show cd (Str.ofString " ") = [32] by symm]
   have hjl := joinP_len (fun y hy => (hok2 y hy).1) hl8
   refine ⟨_, _, rfl, rfl, small_of (m := 1000) (by rw [len_S, show (Str.ofString "pick ").length = 5 by symm]; omega), ?_⟩
   refine qt _ _ (s1.trans (s2.trans s3)) (pick_bad (by simp) hl8 hok2 (pk_twice fun nd => ?_))
   rw [List.nodup_append] at nd
   exact nd.2.2 z hz z (by simp) rfl
 refine ⟨_, rfl, rfl, _, rfl, ite2 (fun _ => ?_) (fun _ => ?_)⟩
 ·
   have m0 : 0 ≤ r % 4 := Int.emod_nonneg _ (by decide)
   have m1 : r % 4 < 4 := Int.emod_lt_of_pos _ (by decide)
   obtain ⟨n, hn⟩ : ∃ n : Nat, 2 + r % 4 = (n : Int) := ⟨(2 + r % 4).toNat, by omega⟩
   refine ⟨_, rfl, _, rfl, _, _, rfl, rfl, (by show (0 : Int) < 4; decide), _, _, rfl, rfl, ?_⟩
   dsimp only
   rw [hn]
   refine ⟨r, n, rfl, by omega, hr8, fun pw ws H1 gw s1 hpw0 hpw => ?_⟩
   obtain ⟨gl, gn, gm⟩ := gw
   have hok := names_ok gm
   obtain ⟨z, hz, hat⟩ := at_strs (l := wrongL) (i := r / 2 % 8) (Int.emod_nonneg _ (by decide)) (by show r / 2 % 8 < 8; exact Int.emod_lt_of_pos _ (by decide))
   have hwr := wrong_bad z hz
   refine ⟨(by show 8 ≤ sizeLine; decide), fun p hp => ?_⟩
   have s2 := zJ hp (.lst (wrongL.map V.str))
   refine ⟨_, rfl, _, _, rfl, rfl, ⟨by decide, by decide⟩, _, _, rfl, rfl, (by show (0 : Int) < 8; decide), p, _, _, _, rfl, rfl, SqL.of zE, hat, ?_⟩
   have k0 : 0 ≤ r % (ws.length : Int) := Int.emod_nonneg _ (by omega)
   have k1 : r % (ws.length : Int) < ws.length := Int.emod_lt_of_pos _ (by omega)
   obtain ⟨t, ht⟩ : ∃ t : Nat, r % (ws.length : Int) = (t : Int) := ⟨(r % (ws.length : Int)).toNat, by omega⟩
   have hpw2 := s2 _ _ hpw
   refine ⟨_, rfl, _, rfl, _, rfl, pw, _, rfl, .inl (SqL.of hpw2), _, _, rfl, rfl, (by rw [List.length_map]; omega), ?_⟩
   rw [List.length_map]
   dsimp only
   rw [ht]
   refine ⟨pw, _, _, t, rfl, rfl, hpw2, ?_, ?_⟩
   · rw [List.length_map, ixN_some (by omega) (by omega)]; rfl
   have ew : (ws.map V.str).set t (.str z) = (ws.set t z).map V.str := by rw [List.map_set]
   rw [ew]
   have hok2 : ∀ y ∈ ws.set t z, y.length ≤ 13 ∧ (∀ c ∈ cd y, c < 1000) ∧ 32 ∉ cd y := fun y hy => by
     rcases List.mem_or_eq_of_mem_set hy with e | e
     · exact hok y e
     · rw [e]; exact ⟨hwr.1, hwr.2.1, hwr.2.2.1⟩
   have hl8 : (ws.set t z).length ≤ 8 := by rw [List.length_set]; omega
   refine ⟨rfl, _, rfl, _, pw, ws.set t z, rfl, rfl, .inl (SqL.of zE), join_sz (fun y hy => (hok2 y hy).1) hl8, ?_⟩
   rw [joinS_is, show cd (Str.ofString " ") = [32] by symm]
   have hjl := joinP_len (fun y hy => (hok2 y hy).1) hl8
   refine ⟨_, _, rfl, rfl, small_of (m := 1000) (by rw [len_S, show (Str.ofString "pick ").length = 5 by symm]; omega), ?_⟩
   have hmem : z ∈ ws.set t z := List.mem_set (by omega) z
   refine qt _ _ (fun b o hb => ?_) (pick_bad (fun e => by rw [e] at hmem; cases hmem) hl8 hok2 (pkB_bad (x := cd z) (List.mem_map.mpr ⟨z, hmem, rfl⟩) (by rw [S_cd]; exact hwr.2.2.2)))
   rw [zO (ne_of_none hb hpw0)]; exact (s1.trans s2) _ _ hb
 refine ⟨_, rfl, rfl, _, rfl, ite2 (fun _ => ?_) (fun _ => ?_)⟩
 ·
   obtain ⟨z, hz, hat⟩ := at_strs (l := nmL) (i := r % 8) (Int.emod_nonneg _ (by decide)) (by show r % 8 < 8; exact Int.emod_lt_of_pos _ (by decide))
   refine ⟨(by show 8 ≤ sizeLine; decide), fun p hp => ?_⟩
   have s1 := zJ hp (.lst (nmL.map V.str))
   have hl := nm_len z hz
   exact ⟨_, rfl, _, _, rfl, rfl, (by show (0 : Int) < 8; decide), p, _, _, _, rfl, rfl, SqL.of zE, hat, _, _, rfl, rfl, small_of (m := 100) (by rw [show (Str.ofString "names ").length = 6 by symm]; omega), qt _ _ s1 (bad_of (nm_bad z hz))⟩
 refine ⟨_, rfl, rfl, _, rfl, ite2 (fun _ => ?_) (fun _ => ?_)⟩
 ·
   refine ⟨_, rfl, r, rfl, hr8, fun ku t H1 s1 hk ht => ?_⟩
   have a0 : atI [V.str (S (tld ku)), .int ku.low, .int ku.high] ((0 : Nat) : Int) = some (.str (S (tld ku))) := atI_nat rfl
   refine ⟨t, _, _, _, rfl, rfl, SqT.of ht, a0, ?_⟩
   have f := tld_fine hk
   have fl := f.len
   have fl' : (tld ku).length ≤ 410 := by rw [len_S] at fl; exact fl
   have fb : Fine 1 (Str.ofString " ") := ⟨by symm, by symm⟩
   have fn : Fine 1 (Str.ofString "\n") := ⟨by symm, by symm⟩
   have f7 : Fine 14 (Str.ofString " 1 2 3 4 5 6 7") := ⟨by symm, by symm⟩
   have hd := dbl_len (tld ku)
   refine ⟨_, rfl, _, _, rfl, rfl, fsz f fb, _, rfl, _, _, rfl, rfl, fsz fb f, _, rfl, S (tld ku), rfl, ?_, ?_⟩
   · rw [show (Str.ofString "  ").length = 2 by symm]; omega
   rw [show Str.ofString " " = S [32] by symm, show Str.ofString "  " = S [32, 32] by symm, rep_dbl]
   refine ⟨_, _, rfl, rfl, small_of (m := 1000) (by rw [len_S, show (Str.ofString "\n").length = 1 by symm]; omega), _, rfl, _, _, rfl, rfl, fsz f f7, (by show 4 ≤ sizeLine; decide), fun p hp => ?_⟩
   have e1 := sp1 hk
   have e2 := sp2 hk
   rw [show Str.ofString " " = S [32] by symm] at e1 e2
   have e3 := sp3 hk
   have e4 := sp4 hk
   obtain ⟨z, hz, hat⟩ := at_strs (l := [S (tld ku) ++ S [32], S [32] ++ S (tld ku), S (dbl2 (tld ku)) ++ Str.ofString "\n", S (tld ku) ++ Str.ofString " 1 2 3 4 5 6 7"]) (i := r % 4) (Int.emod_nonneg _ (by decide)) (by show r % 4 < 4; exact Int.emod_lt_of_pos _ (by decide))
   refine ⟨_, rfl, _, _, rfl, rfl, (by show (0 : Int) < 4; decide), p, _, _, _, rfl, rfl, SqL.of zE, hat, qt _ _ (s1.trans (zJ hp _)) ?_⟩
   simp only [List.mem_cons, List.not_mem_nil, or_false] at hz
   rcases hz with e | e | e | e
   · rw [e]; exact e1
   · rw [e]; exact e2
   · rw [e]; exact e3
   · rw [e]; exact e4
 exact ⟨_, rfl, r, rfl, qt⟩
end
end K07
set_option maxHeartbeats 4000000
namespace K07
open PySem L2
seal PE PT PW PA PS PSs PG PGs PI PO PSet OpR UnR CallR TruR IxR SlR PC PPs
local macro_rules | `(tactic| walk_at "rd1") => `(tactic| first
 | (refine And.intro rfl ?_)
 | (refine And.intro (by assumption) ?_)
 | (refine And.intro (fun _ e => e) ?_)
 | (refine And.intro (TyOf.str _) ?_) | (refine And.intro (TyOf.int _) ?_) | (refine And.intro (TyOf.bl _) ?_) | (refine And.intro TyOf.non ?_)
 | (refine iteT ?_) | (refine iteF ?_)
 | (apply Exists.intro))
local macro_rules | `(tactic| walk_at "rd") => `(tactic| repeat (walk_at "rd1"))
theorem eqb (p q : Bool) : eqV (.bl p) (.bl q) = decide (AV.b p = AV.b q) := by cases p <;> cases q <;> rfl
theorem eqn (m n : Int) : eqV (.int m) (.int n) = decide (AV.i m = AV.i n) := by
 show (m == n) = _
 rw [Bool.eq_iff_iff, beq_iff_eq, decide_eq_true_iff]
 exact ⟨fun e => congrArg _ e, fun e => AV.i.inj e⟩
theorem eqs (m n : Str) : eqV (.str m) (.str n) = decide (AV.s m = AV.s n) := by
 show (m == n) = _
 rw [Bool.eq_iff_iff, beq_iff_eq, decide_eq_true_iff]
 exact ⟨fun e => congrArg _ e, fun e => AV.s.inj e⟩
theorem eqt (m n : List Str) : decide (m = n) = decide (AV.t m = AV.t n) := by
 rw [decide_eq_decide]
 exact ⟨fun e => congrArg _ e, fun e => AV.t.inj e⟩
theorem same_ty {ku : KU} {a a' : AV} (t : tyok ku a) (t' : tyok ku a') : (∃ x y, a = .b x ∧ a' = .b y) ∨ (∃ x y, a = .i x ∧ a' = .i y) ∨ (∃ x y, a = .s x ∧ a' = .s y) ∨ (∃ x y, a = .t x ∧ a' = .t y) := by
 cases ku <;> cases a <;> first | (cases t; done) | (cases a' <;> first | (cases t'; done) | exact .inl ⟨_, _, rfl, rfl⟩ | exact .inr (.inl ⟨_, _, rfl, rfl⟩) | exact .inr (.inr (.inl ⟨_, _, rfl, rfl⟩)) | exact .inr (.inr (.inr ⟨_, _, rfl, rfl⟩)))
theorem eqj_av {X : Cx} {H : Hp} {n : Nat} {ku : KU} {a a' : AV} {x y : V} (t : tyok ku a) (t' : tyok ku a') (h : AR X.K H a x) (h' : AR X.K H a' y) : EqJ X H (n + 1) x y (decide (a = a')) := by
 rcases same_ty t t' with ⟨p, q, rfl, rfl⟩ | ⟨p, q, rfl, rfl⟩ | ⟨p, q, rfl, rfl⟩ | ⟨p, q, rfl, rfl⟩
 · cases h; cases h'; rw [← eqb]; exact eqj_flat rfl rfl
 · cases h; cases h'; rw [← eqn]; exact eqj_flat rfl rfl
 · cases h; cases h'; rw [← eqs]; exact eqj_flat rfl rfl
 · obtain ⟨r, rfl, h⟩ := h
   obtain ⟨r', rfl, h'⟩ := h'
   rw [← eqt, ← eqL_strs]; exact eqj_ftups h h' (flat_strs _) (flat_strs _)
def spOnly (A : Adr) : Sp := fun vs H Q _ => ∃ ea, vs = [.ref ea] ∧ H ea = some (excO ea A.c_NoKind) ∧ ∀ H', Same H H' → Q (.bl true) H'
def spRef (K : W.Frag) : Sp := fun vs H Q _ => ∃ x, vs = [x] ∧ BadR K H x ∧ ∀ H', Same H H' → Q (.bl true) H'
def isYn : KU → Bool | .yn => true | _ => false
def isWh : KU → Bool | .wh _ _ => true | _ => false
def isMo : KU → Bool | .mo _ _ => true | _ => false
def isPk : KU → Bool | .pk _ => true | _ => false
def isNm : KU → Bool | .nm _ => true | _ => false
def uFX (A : Adr) (ku : KU) : Sp := fun vs H Q _ => ∃ p b x, vs = [.ref p, x] ∧ st A ku H p ∧ ((x = .bl true ∧ b = isYn ku) ∨ (x = .str "a-" ∧ b = false)) ∧ ∀ H', Same H H' → Q (.bl b) H'
def uSam (A : Adr) (ku : KU) : Sp := fun vs H Q _ => ∃ p r, vs = [.ref p, .int r] ∧ st A ku H p ∧ ku.low ≤ r ∧ r ≤ ku.high ∧ ∀ H', Same H H' → Q (.bl true) H'
theorem newH {H : Hp} {p : Addr} (hp : H p = none) (o : HO) : ∃ H', upd H p o = H' ∧ Same H H' ∧ H' p = some o := ⟨_, rfl, zJ hp o, zE⟩
section
variable {P : Program} {w : World} {K : W.Frag} {mg : Str → Option Value} {base : Heap} {A : Adr} {ku : KU}
def JR (T : Txt K mg A) (g : ku.Good) : MethJ P w K mg base (CXW P w) 6 (cls A ku) "read" :=
 match ku, g with
 | .yn, g => ⟨_, _, _, _, [], [], T.cl_YesNo, T.me_YesNo_read, (ok_uread T (km T .yn g)).mono (by decide), T.b_c_Kind_read, .nil⟩
 | .wh lo hi, g => ⟨_, _, _, _, [], [], T.cl_Whole, T.me_Whole_read, (ok_uread T (km T (.wh lo hi) g)).mono (by decide), T.b_c_Kind_read, .nil⟩
 | .mo lo hi, g => ⟨_, _, _, _, [], [], T.cl_Money, T.me_Money_read, (ok_uread T (km T (.mo lo hi) g)).mono (by decide), T.b_c_Kind_read, .nil⟩
 | .pk ws, g => ⟨_, _, _, _, [], [], T.cl_Pick, T.me_Pick_read, (ok_uread T (km T (.pk ws) g)).mono (by decide), T.b_c_Kind_read, .nil⟩
 | .nm m, g => ⟨_, _, _, _, [], [], T.cl_Names, T.me_Names_read, (ok_uread T (km T (.nm m) g)).mono (by decide), T.b_c_Kind_read, .nil⟩
theorem jr_sp (T : Txt K mg A) (g : ku.Good) : (JR (P := P) (w := w) (base := base) T g).sp = uRead K A ku ∧ (JR (P := P) (w := w) (base := base) T g).dvs = [] := by
 cases ku <;> exact ⟨rfl, rfl⟩
theorem ok_law_only (T : Txt K mg A) : FnOk P w K mg base CX0 1 A.f_law_only A.d_law_only ["_law_kept"] (spOnly A) := by
 refine T.F_law_only.ok sc_law_only (fun vs H Q E h => ?_) (fun cdv A0 outer s H vs Q E hr h => ?_)
 · obtain ⟨x, rfl, _⟩ := h
   rfl
 obtain ⟨ea, rfl, he, q⟩ := h
 refine ⟨_, (zF (ps_if (pt_val (zI call_isiT (by rfl) T.n_isinstance Bt.isinstance (zA (pv 0) (zA (pe_tup (zA (pe_gv rfl T.v_NoAnswer) (zA (pe_gv rfl T.v_NoLeft) (zA (pe_gv rfl T.v_NoLine) (zA (pe_gv rfl T.v_NoNumber) (zA (pe_gv rfl T.v_NoRow) (zA (pe_gv rfl T.v_NoSay) (zA (pe_gv rfl T.v_NoSaying) (zA (pe_gv rfl T.v_NoSum) (zA (pe_gv rfl T.v_NoWay) zB)))))))))) zB)))) (zC (zH pe_bl)) pss_nil)
     (zF (ps_if (pt_val (zI call_isiT (by rfl) T.n_isinstance Bt.isinstance (zA (pv 0) (zA (pe_tup (zA (pe_gv rfl T.v_NotCome) (zA (pe_gv rfl T.v_NotYet) (zA (pe_gv rfl T.v_Nowhere) (zA (pe_gv rfl T.v_OutOfReach) (zA (pe_gv rfl T.v_Ring) (zA (pe_gv rfl T.v_Twice) (zA (pe_gv rfl T.v_Unknown) (zA (pe_gv rfl T.v_WrongKind) zB))))))))) zB)))) (zC (zH pe_bl)) pss_nil)
     (zC (zH (pe_and (zI call_isi (by rfl) T.n_isinstance Bt.isinstance (zA (pv 0) (zA (pe_gv rfl T.v_NoKind) zB))) (pe_one (zI call_isi (by rfl) T.n_isinstance Bt.isinstance (zA (pv 0) (zA (pe_bltn (v := .ty "ValueError") rfl T.n_ValueError Bt.ValueError rfl) zB))))))))), ?_⟩
 refine ⟨_, rfl, (by show 9 ≤ sizeLine; decide), fun p hp => ?_⟩
 obtain ⟨H1, h1, s1, e1⟩ := newH hp (.tup [.ref A.c_NoAnswer, .ref A.c_NoLeft, .ref A.c_NoLine, .ref A.c_NoNumber, .ref A.c_NoRow, .ref A.c_NoSay, .ref A.c_NoSaying, .ref A.c_NoSum, .ref A.c_NoWay])
 rw [h1]
 have k1 : W.kitAny K (.ref A.c_NoKind) [.ref A.c_NoAnswer, .ref A.c_NoLeft, .ref A.c_NoLine, .ref A.c_NoNumber, .ref A.c_NoRow, .ref A.c_NoSay, .ref A.c_NoSaying, .ref A.c_NoSum, .ref A.c_NoWay] = some false :=
   (kitAny_no T.kr_NoKind_NoAnswer (kitAny_no T.kr_NoKind_NoLeft (kitAny_no T.kr_NoKind_NoLine (kitAny_no T.kr_NoKind_NoNumber (kitAny_no T.kr_NoKind_NoRow (kitAny_no T.kr_NoKind_NoSay (kitAny_no T.kr_NoKind_NoSaying (kitAny_no T.kr_NoKind_NoSum (kitAny_no T.kr_NoKind_NoWay kitAny_nil)))))))))
 refine ⟨_, p, _, _, _, rfl, e1, rfl, .exc (s1 _ _ he) T.ec_NoKind, k1, _, rfl, iteF ?_⟩
 refine ⟨_, rfl, (by show 8 ≤ sizeLine; decide), fun p2 hp2 => ?_⟩
 obtain ⟨H2, h2, s2, e2⟩ := newH hp2 (.tup [.ref A.c_NotCome, .ref A.c_NotYet, .ref A.c_Nowhere, .ref A.c_OutOfReach, .ref A.c_Ring, .ref A.c_Twice, .ref A.c_Unknown, .ref A.c_WrongKind])
 rw [h2]
 have k2 : W.kitAny K (.ref A.c_NoKind) [.ref A.c_NotCome, .ref A.c_NotYet, .ref A.c_Nowhere, .ref A.c_OutOfReach, .ref A.c_Ring, .ref A.c_Twice, .ref A.c_Unknown, .ref A.c_WrongKind] = some false :=
   (kitAny_no T.kr_NoKind_NotCome (kitAny_no T.kr_NoKind_NotYet (kitAny_no T.kr_NoKind_Nowhere (kitAny_no T.kr_NoKind_OutOfReach (kitAny_no T.kr_NoKind_Ring (kitAny_no T.kr_NoKind_Twice (kitAny_no T.kr_NoKind_Unknown (kitAny_no T.kr_NoKind_WrongKind kitAny_nil))))))))
 have he2 := s2 _ _ (s1 _ _ he)
 refine ⟨_, p2, _, _, _, rfl, e2, rfl, .exc he2 T.ec_NoKind, k2, _, rfl, iteF ?_⟩
 refine ⟨_, rfl, _, _, _, _, rfl, rfl, .exc he2 T.ec_NoKind, T.kr_NoKind_NoKind, _, rfl, iteT ?_⟩
 exact ⟨_, rfl, _, _, _, _, rfl, rfl, .exc he2 T.ec_NoKind, T.krt_NoKind_ValueError, q _ (s1.trans s2)⟩
theorem ok_law_refused (T : Txt K mg A) : FnOk P w K mg base CX0 8 A.f_law_refused A.d_law_refused ["_law_thing"] (spRef K) := by
 have G_kind_of := ok_kof (P := P) (w := w) (base := base) T
 have G_law_only := ok_law_only (P := P) (w := w) (base := base) T
 refine T.F_law_refused.ok sc_law_refused (fun vs H Q E h => ?_) (fun cdv A0 outer s H vs Q E hr h => ?_)
 · obtain ⟨x, rfl, _⟩ := h
   rfl
 obtain ⟨x, rfl, hx, q⟩ := h
 refine ⟨_, (zF (ps_set (i := 1) sc_law_refused.nd rfl (by first | exact Or.inl rfl | exact Or.inr rfl) pe_non)
     (zF (ps_tryAs (j := 2) sc_law_refused.nd rfl rfl rfl rfl rfl (psx_one (psx_expr (pex_call G_kind_of (hr.mono (by first | decide | omega)) rfl T.m_kind_of T.k_kind_of T.b_kind_of .nil (zA (pv 0) zB)))) rfl T.m_AskError (fun _ => (zC (ps_set (i := 1) sc_law_refused.nd rfl (by first | exact Or.inl rfl | exact Or.inr rfl) (pv 2)))))
     (zC (zH (zL G_law_only (hr.mono (by first | decide | omega)) rfl T.m_law_only T.k_law_only T.b_law_only .nil zN (zA (pv 1) zB)))))), ?_⟩
 refine ⟨_, rfl, x, rfl, ?_⟩
 rcases hx with ⟨z, rfl, hz, hn⟩ | ⟨t, ty, kt⟩
 · refine .inl ⟨z, rfl, hz, (fun t e => (by rw [hn] at e; cases e)), fun _ H1 s1 => ?_⟩
   refine ⟨_, rfl, T.em_NoKind_AskError, fun ea hea => ?_⟩
   exact ⟨_, rfl, _, rfl, ea, rfl, zE, fun H2 s2 => q _ (s1.trans ((zJ hea _).trans s2))⟩
 · refine .inr ⟨t, ty, kt, fun H1 s1 => ?_⟩
   refine ⟨_, rfl, T.em_NoKind_AskError, fun ea hea => ?_⟩
   exact ⟨_, rfl, _, rfl, ea, rfl, zE, fun H2 s2 => q _ (s1.trans ((zJ hea _).trans s2))⟩
theorem yx_ok (T : Txt K mg A) : FnOk P w K mg base CX0 1 A.f_c_YesNo_fits A.d_c_YesNo_fits ["self", "thing"] (uFX A .yn) := by
 refine T.F_c_YesNo_fits.ok sc_c_YesNo_fits (fun vs H Q E h => ?_) (fun cdv A0 outer s H vs Q E hr h => ?_)
 · obtain ⟨p, b, x, rfl, _⟩ := h
   rfl
 obtain ⟨p, b, x, rfl, hp, hx, q⟩ := h
 refine ⟨_, (zC (zH (zI call_isi (by rfl) T.n_isinstance Bt.isinstance (zA (pv 1) (zA (pe_bltn (v := .ty "bool") rfl T.n_bool Bt.bool rfl) zB))))), ?_⟩
 have q := q H (Same.refl _)
 rcases hx with ⟨rfl, rfl⟩ | ⟨rfl, rfl⟩
 · exact ⟨_, rfl, _, _, _, _, rfl, rfl, .old (.bl true), T.i_bool_bool, q⟩
 · exact ⟨_, rfl, _, _, _, _, rfl, rfl, .old (.str _), T.i_str_bool, q⟩
theorem wx_ok (T : Txt K mg A) (lo hi : Int) : FnOk P w K mg base CX0 2 A.f_c_Whole_fits A.d_c_Whole_fits ["self", "thing"] (uFX A (.wh lo hi)) := by
 refine (ok_fits T T.cl_Whole T.no_Whole_low T.no_Whole_high).imp fun vs H Q E h => ?_
 obtain ⟨p, b, x, rfl, ⟨dx, fs, hp, hf⟩, hx, q⟩ := h
 have hf : fs = flds lo hi := hf
 subst hf
 have q := q H (Same.refl _)
 rcases hx with ⟨rfl, rfl⟩ | ⟨rfl, rfl⟩
 · exact ⟨p, dx, lo, hi, _, thBl T H true, rfl, hp, q⟩
 · exact ⟨p, dx, lo, hi, _, thStr T H _, rfl, hp, q⟩
theorem mx_ok (T : Txt K mg A) (lo hi : Int) : FnOk P w K mg base CX0 2 A.f_c_Whole_fits A.d_c_Whole_fits ["self", "thing"] (uFX A (.mo lo hi)) := by
 refine (ok_fits T T.cl_Money T.no_Money_low T.no_Money_high).imp fun vs H Q E h => ?_
 obtain ⟨p, b, x, rfl, ⟨dx, fs, hp, hf⟩, hx, q⟩ := h
 have hf : fs = flds lo hi := hf
 subst hf
 have q := q H (Same.refl _)
 rcases hx with ⟨rfl, rfl⟩ | ⟨rfl, rfl⟩
 · exact ⟨p, dx, lo, hi, _, thBl T H true, rfl, hp, q⟩
 · exact ⟨p, dx, lo, hi, _, thStr T H _, rfl, hp, q⟩
theorem px_ok (T : Txt K mg A) {ws : List Str} (g : (KU.pk ws).Good) : FnOk P w K mg base CX0 1 A.f_c_Pick_fits A.d_c_Pick_fits ["self", "thing"] (uFX A (.pk ws)) := by
 refine T.F_c_Pick_fits.ok sc_c_Pick_fits (fun vs H Q E h => ?_) (fun cdv A0 outer s H vs Q E hr h => ?_)
 · obtain ⟨p, b, x, rfl, _⟩ := h
   rfl
 obtain ⟨p, b, x, rfl, ⟨dx, fs, hp, pw, rfl, hw⟩, hx, q⟩ := h
 refine ⟨_, (zC (zH (pe_and (zI call_isi (by rfl) T.n_isinstance Bt.isinstance (zA (pv 1) (zA (pe_bltn (v := .ty "str") rfl T.n_str Bt.str rfl) zB))) (pe_one (pe_cmpR op_in_seq (pv 1) (pe_fld (pv 0) rfl) (by rfl)))))), ?_⟩
 have q := q H (Same.refl _)
 rcases hx with ⟨rfl, rfl⟩ | ⟨rfl, rfl⟩
 · exact ⟨_, rfl, _, _, _, _, rfl, rfl, .old (.bl true), T.i_bool_str, _, rfl, iteF q⟩
 · refine ⟨_, rfl, _, _, _, _, rfl, rfl, .old (.str _), T.i_str_str, _, rfl, iteT ⟨_, rfl, _, rfl, p, A.c_Pick, dx, _, _, rfl, hp, T.cl_Pick, T.no_Pick_words, lkW, pw, _, rfl, .inl (SqL.of hw), rfl, flat_strs ws, ?_⟩⟩
   show Q (.bl (inV (.str "a-") (ws.map V.str))) H
   rw [inV_strs, decide_eq_false (fun z => ?_)]
   · exact q
   · have := (g.1.wd _ z).2.2 45 (by symm)
     omega
theorem nx_ok (T : Txt K mg A) (m : Nat) : FnOk P w K mg base CX0 3 A.f_c_Names_fits A.d_c_Names_fits ["self", "thing"] (uFX A (.nm m)) := by
 refine (N.ok_fits T).imp fun vs H Q E h => ?_
 obtain ⟨p, b, x, rfl, ⟨dx, fs, hp, hf⟩, hx, q⟩ := h
 have hf : fs = flds 0 (m : Nat) := hf
 subst hf
 rcases hx with ⟨rfl, rfl⟩ | ⟨rfl, rfl⟩
 · exact ⟨p, dx, (m : Int), _, false, rfl, hp, .inr ⟨_, .old (.bl true), T.i_bool_tuple, rfl⟩, q⟩
 · exact ⟨p, dx, (m : Int), _, false, rfl, hp, .inr ⟨_, .old (.str _), T.i_str_tuple, rfl⟩, q⟩
def JX (T : Txt K mg A) : (ku : KU) → ku.Good → MethJ P w K mg base CX0 4 (cls A ku) "fits"
 | .yn, _ => ⟨_, _, _, uFX A .yn, [], [], T.cl_YesNo, T.me_YesNo_fits, (yx_ok T).mono (by decide), T.b_c_YesNo_fits, .nil⟩
 | .wh lo hi, _ => ⟨_, _, _, uFX A (.wh lo hi), [], [], T.cl_Whole, T.me_Whole_fits, (wx_ok T lo hi).mono (by decide), T.b_c_Whole_fits, .nil⟩
 | .mo lo hi, _ => ⟨_, _, _, uFX A (.mo lo hi), [], [], T.cl_Money, T.me_Money_fits, (mx_ok T lo hi).mono (by decide), T.b_c_Whole_fits, .nil⟩
 | .pk ws, g => ⟨_, _, _, uFX A (.pk ws), [], [], T.cl_Pick, T.me_Pick_fits, (px_ok T g).mono (by decide), T.b_c_Pick_fits, .nil⟩
 | .nm m, _ => ⟨_, _, _, uFX A (.nm m), [], [], T.cl_Names, T.me_Names_fits, (nx_ok T m).mono (by decide), T.b_c_Names_fits, .nil⟩
theorem jx_sp (T : Txt K mg A) (ku : KU) (g : ku.Good) : (JX (P := P) (w := w) (base := base) T ku g).sp = uFX A ku ∧ (JX (P := P) (w := w) (base := base) T ku g).dvs = [] := by
 cases ku <;> exact ⟨rfl, rfl⟩
theorem ok_law_sample (T : Txt K mg A) (g : ku.Good) : FnOk P w K mg base CX0 7 A.f_law_sample A.d_law_sample ["_law_kind", "_law_rank"] (uSam A ku) := by
 have G_law_whole := ok_law_whole (P := P) (w := w) (base := base) T
 have M := km (P := P) (w := w) (base := base) T ku g
 refine T.F_law_sample.ok sc_law_sample (fun vs H Q E h => ?_) (fun cdv A0 outer s H vs Q E hr h => ?_)
 · obtain ⟨p, r, rfl, _⟩ := h
   rfl
 obtain ⟨p, r, rfl, hp, r1, r2, q⟩ := h
 refine ⟨_, (zF (ps_set (i := 2) sc_law_sample.nd rfl (by first | exact Or.inl rfl | exact Or.inr rfl) (pe_methG (CX := CX0) (k := 4) (hr.mono (by first | decide | omega)) zN (pv 0) (zA (pv 1) zB)))
     (zF (ps_set (i := 3) sc_law_sample.nd rfl (by first | exact Or.inl rfl | exact Or.inr rfl) (pe_methG (CX := CX0) (k := 4) (hr.mono (by first | decide | omega)) zN (pv 0) (zA (pv 2) zB)))
     (zF (ps_if (PW.pt (pw_or (pt_cmpR op_isnotB (pe_methG (CX := CX0) (k := 4) (hr.mono (by first | decide | omega)) zN (pv 0) (zA (pv 2) zB)) pe_bl (nomark _)) (pw_or (pt_not (pt_val (zL G_law_whole (hr.mono (by first | decide | omega)) rfl T.m_law_whole T.k_law_whole T.b_law_whole .nil zN (zA (pv 3) zB)))) (pw_or1 (pt_cmpR op_ne (pv 3) (pv 1) (nomark _)))))) (zC (zH pe_bl)) pss_nil)
     (zC (zH (pe_cmpR (op_eqJ (hu20 hr)) (pe_methG (CX := CXW P w) (k := 6) (hr.mono (by first | decide | omega)) passW0 (pv 0) (zA (pe_methG (CX := CX0) (k := 4) (hr.mono (by first | decide | omega)) zN (pv 0) (zA (pv 2) zB)) zB)) (pv 2) (nomark _))))))), ?_⟩
 obtain ⟨dx, fs, hi, hfl⟩ := id hp
 obtain ⟨hf, hrk⟩ := smp_fit (r := r) g r1 r2
 obtain ⟨w1, w2, w3⟩ := shw_facts g hf
 refine ⟨_, rfl, p, cls A ku, dx, fs, M.Jp, rfl, hi, hfl.no (by symm), _, rfl, ?_⟩
 rw [M.ep, M.dp]
 refine ⟨p, r, rfl, hp, r1, r2, fun x H1 s1 hx => ?_⟩
 generalize hsm : smp ku r = a at hx hf hrk w1 w2 w3
 refine ⟨_, rfl, p, cls A ku, dx, fs, M.Jk, rfl, s1 _ _ hi, hfl.no (by symm), _, rfl, ?_⟩
 rw [M.ek, M.dk]
 refine ⟨p, x, a, rfl, hp.same s1, hx, hf, fun H2 s2 => ?_⟩
 have s12 := s1.trans s2
 rw [hrk]
 refine ⟨_, rfl, p, cls A ku, dx, fs, M.Jf, rfl, s12 _ _ hi, hfl.no (by symm), _, rfl, ?_⟩
 rw [M.ef, M.df]
 refine ⟨p, x, some a, rfl, hp.same s12, AR.same s2 hx, fun a' e => ⟨by cases e; exact fit_ty hf, by cases e; exact fit_sm g hf⟩, fun H3 s3 => ?_⟩
 rw [show fitO ku (some a) = true from hf]
 have s13 := s12.trans s3
 refine ⟨_, _, rfl, rfl, _, rfl, iteF ?_⟩
 refine ⟨_, rfl, _, _, _, _, rfl, .old (.int _), T.i_int_int, T.i_int_bool, _, rfl, iteF ?_⟩
 refine ⟨_, rfl, _, rfl, rfl, _, rfl, iteN (by rw [decide_eq_true rfl]; rfl) ?_⟩
 obtain ⟨J, ej, dj⟩ : ∃ J : MethJ P w K mg base (CXW P w) 6 (cls A ku) "read", J.sp = uRead K A ku ∧ J.dvs = [] := ⟨JR T g, jr_sp T g⟩
 refine ⟨_, rfl, p, cls A ku, dx, fs, J, rfl, s13 _ _ hi, hfl.no (by symm), ?_⟩
 refine ⟨_, rfl, p, cls A ku, dx, fs, M.Js, rfl, s13 _ _ hi, hfl.no (by symm), _, rfl, ?_⟩
 rw [M.es, M.ds]
 refine ⟨p, x, a, rfl, hp.same s13, AR.same (s2.trans s3) hx, hf, fun H4 s4 => ?_⟩
 have s14 := s13.trans s4
 rw [ej, dj]
 have hans : ans ku (stripL (cd (S (shw ku a)))) = some a := by rw [cd_S, w1]; exact ans_shw g hf
 refine ⟨p, S (shw ku a), rfl, hp.same s14, w3.mono (by decide), fun a' ha' hf' y H5 s5 hy => ?_, fun hn => absurd (show fitO ku (some a) = false by rw [← hans]; exact hn) (by rw [show fitO ku (some a) = true from hf]; decide)⟩
 have ea : a' = a := Option.some.inj (ha'.symm.trans hans)
 subst ea
 have s15 := s14.trans s5
 refine ⟨_, rfl, _, eqj_av (n := 19) (fit_ty hf) (fit_ty hf) hy (AR.same ((s2.trans s3).trans (s4.trans s5)) hx), ?_⟩
 rw [decide_eq_true rfl]
 exact q _ s15
end
end K07
set_option maxHeartbeats 4000000
namespace K07
open PySem L2
seal PE PT PW PA PS PSs PG PGs PI PO PSet OpR UnR CallR TruR IxR SlR PC PPs
local macro_rules | `(tactic| walk_at "rd1") => `(tactic| first
 | (refine And.intro rfl ?_)
 | (refine And.intro (by assumption) ?_)
 | (refine And.intro (fun _ e => e) ?_)
 | (refine And.intro (TyOf.str _) ?_) | (refine And.intro (TyOf.int _) ?_) | (refine And.intro (TyOf.bl _) ?_) | (refine And.intro TyOf.non ?_)
 | (refine iteT ?_) | (refine iteF ?_)
 | (apply Exists.intro))
local macro_rules | `(tactic| walk_at "rd") => `(tactic| repeat (walk_at "rd1"))
def pre : KU → List Nat
 | .yn => cd (Str.ofString "yesno")
 | .wh _ _ => cd (Str.ofString "whole ")
 | .mo _ _ => cd (Str.ofString "money ")
 | .pk _ => cd (Str.ofString "pick ")
 | .nm _ => cd (Str.ofString "names ")
theorem pre_is (ku : KU) : ∃ r, tld ku = pre ku ++ r := by
 cases ku with
 | yn => exact ⟨[], (List.append_nil _).symm⟩
 | wh lo hi => exact ⟨_, rfl⟩
 | mo lo hi => exact ⟨_, rfl⟩
 | pk ws => exact ⟨_, rfl⟩
 | nm m => exact ⟨_, rfl⟩
theorem pre_len (ku : KU) : 5 ≤ (pre ku).length := by
 cases ku with
 | yn => decide +kernel
 | wh lo hi => exact (show 5 ≤ (pre (.wh 0 0)).length by symm)
 | mo lo hi => exact (show 5 ≤ (pre (.mo 0 0)).length by symm)
 | pk ws => exact (show 5 ≤ (pre (.pk [])).length by symm)
 | nm m => exact (show 5 ≤ (pre (.nm 0)).length by symm)
theorem take_pre (ku : KU) {n : Nat} (h : n ≤ 5) : (tld ku).take n = (pre ku).take n := by
 obtain ⟨r, e⟩ := pre_is ku
 have := pre_len ku
 rw [e, List.take_append_of_le_length (by omega)]
abbrev p5 (l : List Nat) (a b c d : Bool) : Prop := decide (V.str (S (l.take 5)) = V.str (Str.ofString "whole")) = a ∧ decide (V.str (S (l.take 5)) = V.str (Str.ofString "money")) = b ∧ decide (V.str (S (l.take 4)) = V.str (Str.ofString "pick")) = c ∧ decide (V.str (S (l.take 5)) = V.str (Str.ofString "names")) = d
theorem pre5 (ku : KU) : p5 (pre ku) (isWh ku) (isMo ku) (isPk ku) (isNm ku) := by
 cases ku with
 | yn => exact (show p5 (cd (Str.ofString "yesno")) false false false false by symm)
 | wh lo hi => exact (show p5 (cd (Str.ofString "whole ")) true false false false by symm)
 | mo lo hi => exact (show p5 (cd (Str.ofString "money ")) false true false false by symm)
 | pk ws => exact (show p5 (cd (Str.ofString "pick ")) false false true false by symm)
 | nm m => exact (show p5 (cd (Str.ofString "names ")) false false false true by symm)
theorem yn_is {ku : KU} (h : KGood ku) : decide (V.str (S (tld ku)) = V.str (Str.ofString "yesno")) = isYn ku := by
 cases ku with
 | yn => rw [show tld .yn = cd (Str.ofString "yesno") from rfl, S_cd]; exact decide_eq_true rfl
 | wh lo hi => exact decide_eq_false (fun e => by have := congrArg (fun l : List Nat => l.take 5) (congrArg cd (V.str.inj e)); rw [cd_S] at this; rw [take_pre _ (Nat.le_refl 5)] at this; exact absurd this (by show ¬ (pre (.wh 0 0)).take 5 = _; decide +kernel))
 | mo lo hi => exact decide_eq_false (fun e => by have := congrArg (fun l : List Nat => l.take 5) (congrArg cd (V.str.inj e)); rw [cd_S] at this; rw [take_pre _ (Nat.le_refl 5)] at this; exact absurd this (by show ¬ (pre (.mo 0 0)).take 5 = _; decide +kernel))
 | pk ws => exact decide_eq_false (fun e => by have := congrArg (fun l : List Nat => l.take 5) (congrArg cd (V.str.inj e)); rw [cd_S] at this; rw [take_pre _ (Nat.le_refl 5)] at this; exact absurd this (by show ¬ (pre (.pk [])).take 5 = _; decide +kernel))
 | nm m => exact decide_eq_false (fun e => by have := congrArg (fun l : List Nat => l.take 5) (congrArg cd (V.str.inj e)); rw [cd_S] at this; rw [take_pre _ (Nat.le_refl 5)] at this; exact absurd this (by show ¬ (pre (.nm 0)).take 5 = _; decide +kernel))
theorem seq_mid {t u : TS} {D : Ends} {σ : St} {H : Hp} (R : St → Hp → Prop) (hk : ∀ σ' H', R σ' H' → u D σ' H') (hm : (∀ σ' H', R σ' H' → u D σ' H') → t { D with nx := u D } σ H) : tSeq t u D σ H := hm hk
theorem cut_n {l : List Nat} {n : Nat} (h : n ≤ l.length) : cutN l none (some (n : Int)) = l.take n := by
 unfold cutN
 have e1 : HT.sIx l.length 0 none = 0 := rfl
 have e2 : HT.sIx l.length l.length (some (n : Int)) = n := by
   show (if (n : Int) < 0 then ((n : Int) + l.length).toNat else min (n : Int).toNat l.length) = _
   rw [if_neg (by omega)]; omega
 rw [e1, e2, List.drop_zero, Nat.sub_zero]
theorem tld_len5 (ku : KU) : 5 ≤ (tld ku).length := by
 obtain ⟨r, e⟩ := pre_is ku
 have := pre_len ku
 rw [e, List.length_append]; omega
def dueL (ku : KU) : List V := [.bl (isYn ku), .bl (isWh ku), .bl (isMo ku), .bl (isPk ku), .bl (isNm ku), .bl true]
def allL (ku : KU) : List V := [.bl (isYn ku), .bl (isWh ku || isMo ku), .bl (isMo ku), .bl (isPk ku), .bl (isNm ku), .bl true]
theorem allL_flat (ku : KU) : (allL ku).all flatV = true := rfl
def uLTold : Sp := fun vs H Q _ => ∃ ku, KGood ku ∧ vs = [.str (S (tld ku)), .int ku.low, .int ku.high] ∧ ∀ H', Same H H' → Q (.bl true) H'
def sp_law (K : W.Frag) : Sp := fun vs H Q _ => ∃ (a : Addr) (ns : List Int), vs = [.ref a] ∧ SqL K H a (ns.map V.int) ∧ ns.length ≤ 63 ∧ (∀ n ∈ ns, ib n ≤ 1048576) ∧ ∀ H', Q (.bl true) H'
section
variable {P : Program} {w : World} {K : W.Frag} {mg : Str → Option Value} {base : Heap} {A : Adr} {ku : KU}
theorem tyK (T : Txt K mg A) (ku : KU) {H : Hp} {p dx : Addr} {fs : List (Str × V)} (h : H p = some (.ins (cls A ku) dx fs)) : TyOf K H (.ref p) (.ref (cls A ku)) := by
 cases ku with
 | yn => exact T.ty_YesNo _ _ _ _ h
 | wh lo hi => exact T.ty_Whole _ _ _ _ h
 | mo lo hi => exact T.ty_Money _ _ _ _ h
 | pk ws => exact T.ty_Pick _ _ _ _ h
 | nm m => exact T.ty_Names _ _ _ _ h
theorem kits (T : Txt K mg A) (ku : KU) : W.kitOne K (.ref (cls A ku)) (.ref A.c_YesNo) = some (isYn ku) ∧ W.kitOne K (.ref (cls A ku)) (.ref A.c_Whole) = some (isWh ku || isMo ku) ∧ W.kitOne K (.ref (cls A ku)) (.ref A.c_Money) = some (isMo ku) ∧ W.kitOne K (.ref (cls A ku)) (.ref A.c_Pick) = some (isPk ku) ∧ W.kitOne K (.ref (cls A ku)) (.ref A.c_Names) = some (isNm ku) ∧ W.kitOne K (.ref (cls A ku)) (.ref A.c_Kind) = some true := by
 cases ku with
 | yn => exact ⟨T.kr_YesNo_YesNo, T.kr_YesNo_Whole, T.kr_YesNo_Money, T.kr_YesNo_Pick, T.kr_YesNo_Names, T.kr_YesNo_Kind⟩
 | wh lo hi => exact ⟨T.kr_Whole_YesNo, T.kr_Whole_Whole, T.kr_Whole_Money, T.kr_Whole_Pick, T.kr_Whole_Names, T.kr_Whole_Kind⟩
 | mo lo hi => exact ⟨T.kr_Money_YesNo, T.kr_Money_Whole, T.kr_Money_Money, T.kr_Money_Pick, T.kr_Money_Names, T.kr_Money_Kind⟩
 | pk ws => exact ⟨T.kr_Pick_YesNo, T.kr_Pick_Whole, T.kr_Pick_Money, T.kr_Pick_Pick, T.kr_Pick_Names, T.kr_Pick_Kind⟩
 | nm m => exact ⟨T.kr_Names_YesNo, T.kr_Names_Whole, T.kr_Names_Money, T.kr_Names_Pick, T.kr_Names_Names, T.kr_Names_Kind⟩
theorem low_high {ku : KU} (h : KGood ku) : ku.low ≤ ku.high := by
 cases ku with
 | yn => decide
 | wh lo hi => exact h.1
 | mo lo hi => exact h.1
 | pk ws => have : 2 ≤ ws.length := h.1; show (0 : Int) ≤ (ws.length : Int) - 1; omega
 | nm m => show (0 : Int) ≤ (m : Int); omega
theorem ok_law_told1 (T : Txt K mg A) (hk : KGood ku) : FnOk P w K mg base CX0 8 A.f_law_told A.d_law_told ["_law_text", "_law_low_here", "_law_high"] (fun vs H Q _ => vs = [.str (S (tld ku)), .int ku.low, .int ku.high] ∧ ∀ H', Same H H' → Q (.bl true) H') := by
 have g := hk.good
 have G_kind_of := ok_kof (P := P) (w := w) (base := base) T
 have G_law_whole := ok_law_whole (P := P) (w := w) (base := base) T
 have G_law_sample := ok_law_sample (P := P) (w := w) (base := base) T g
 have M := km (P := P) (w := w) (base := base) T ku g
 refine T.F_law_told.ok sc_law_told (fun vs H Q E h => ?_) (fun cdv A0 outer s H vs Q E hr h => ?_)
 · obtain ⟨rfl, _⟩ := h
   rfl
 obtain ⟨rfl, q⟩ := h
 obtain ⟨ktd, hkt⟩ : ∃ k : Nat, k = 6 := ⟨_, rfl⟩
 refine ⟨_, (zF (ps_set (i := 3) sc_law_told.nd rfl (by first | exact Or.inl rfl | exact Or.inr rfl) (zL G_kind_of (hr.mono (by first | decide | omega)) rfl T.m_kind_of T.k_kind_of T.b_kind_of .nil passW0 (zA (pv 0) zB)))
     (zF (ps_set (i := 4) sc_law_told.nd rfl (by first | exact Or.inl rfl | exact Or.inr rfl) (pe_methG0 (CX := CX0) (k := ktd) (hr.mono (by first | decide | omega)) zN (pv 3)))
     (zF (ps_if (PW.pt (pw_or (pt_not (pt_val (zI call_isi (by rfl) T.n_isinstance Bt.isinstance (zA (pv 4) (zA (pe_bltn (v := .ty "str") rfl T.n_str Bt.str rfl) zB))))) (pw_or (pt_cmpR op_ne (pv 4) (pv 0) (nomark _)) (pw_or (pt_not (pt_val (zL G_law_whole (hr.mono (by first | decide | omega)) rfl T.m_law_whole T.k_law_whole T.b_law_whole .nil zN (zA (pe_fld (pv 3) rfl) zB)))) (pw_or1 (pt_not (pt_val (zL G_law_whole (hr.mono (by first | decide | omega)) rfl T.m_law_whole T.k_law_whole T.b_law_whole .nil zN (zA (pe_fld (pv 3) rfl) zB))))))))) (zC (zH pe_bl)) pss_nil)
     (zF (ps_if (PW.pt (pw_or (pt_cmpR op_ne (pe_fld (pv 3) rfl) (pv 1) (nomark _)) (pw_or (pt_cmpR op_ne (pe_fld (pv 3) rfl) (pv 2) (nomark _)) (pw_or (pt_not (pt_val (zL G_law_sample (hr.mono (by first | decide | omega)) rfl T.m_law_sample T.k_law_sample T.b_law_sample .nil zN (zA (pv 3) (zA (pv 1) zB))))) (pw_or1 (pt_not (pt_val (zL G_law_sample (hr.mono (by first | decide | omega)) rfl T.m_law_sample T.k_law_sample T.b_law_sample .nil zN (zA (pv 3) (zA (pv 2) zB)))))))))) (zC (zH pe_bl)) pss_nil)
     (zF (ps_set (i := 5) sc_law_told.nd rfl (by first | exact Or.inl rfl | exact Or.inr rfl) (pe_lst (zA (pe_cmpR op_eq (pv 0) zG (nomark _)) (zA (pe_cmpR op_eq (pe_slice sl_str (pv 0) po_none (po_some zD)) zG (nomark _)) (zA (pe_cmpR op_eq (pe_slice sl_str (pv 0) po_none (po_some zD)) zG (nomark _)) (zA (pe_cmpR op_eq (pe_slice sl_str (pv 0) po_none (po_some zD)) zG (nomark _)) (zA (pe_cmpR op_eq (pe_slice sl_str (pv 0) po_none (po_some zD)) zG (nomark _)) (zA pe_bl zB))))))))
     (zF (ps_if (pt_val (pe_ix ix_list (pv 5) zD (fun _ _ => rfl))) (zC (ps_asg (zI call_isi (by rfl) T.n_isinstance Bt.isinstance (zA (pv 3) (zA (pe_gv rfl T.v_Whole) zB))) (pg_sub (pv 5) zD set_list))) pss_nil)
     (zF (ps_set (i := 6) sc_law_told.nd rfl (by first | exact Or.inl rfl | exact Or.inr rfl) (pe_lst (zA (zI call_isi (by rfl) T.n_isinstance Bt.isinstance (zA (pv 3) (zA (pe_gv rfl T.v_YesNo) zB))) (zA (zI call_isi (by rfl) T.n_isinstance Bt.isinstance (zA (pv 3) (zA (pe_gv rfl T.v_Whole) zB))) (zA (zI call_isi (by rfl) T.n_isinstance Bt.isinstance (zA (pv 3) (zA (pe_gv rfl T.v_Money) zB))) (zA (zI call_isi (by rfl) T.n_isinstance Bt.isinstance (zA (pv 3) (zA (pe_gv rfl T.v_Pick) zB))) zB))))))
     (zF (ps_if (pt_cmpR (op_neJ (hu20 hr)) (zK op_cat (pv 6) (pe_lst (zA (zI call_isi (by rfl) T.n_isinstance Bt.isinstance (zA (pv 3) (zA (pe_gv rfl T.v_Names) zB))) (zA (zI call_isi (by rfl) T.n_isinstance Bt.isinstance (zA (pv 3) (zA (pe_gv rfl T.v_Kind) zB))) zB)))) (pv 5) (nomark _)) (zC (zH pe_bl)) pss_nil)
     (zF (ps_set (i := 7) sc_law_told.nd rfl (by first | exact Or.inl rfl | exact Or.inr rfl) (pe_methG (CX := CX0) (k := 4) (hr.mono (by first | decide | omega)) zN (pv 3) (zA pe_bl zB)))
     (zC (zH (pe_and (zI call_isi (by rfl) T.n_isinstance Bt.isinstance (zA (pv 7) (zA (pe_bltn (v := .ty "bool") rfl T.n_bool Bt.bool rfl) zB))) (pe_and (pe_cmpR op_eq (pv 7) (pe_ix ix_list (pv 5) zD (fun _ _ => rfl)) (nomark _)) (pe_one (pe_cmpR op_isB (pe_methG (CX := CX0) (k := 4) (hr.mono (by first | decide | omega)) zN (pv 3) (zA zG zB)) pe_bl (nomark _)))))))))))))))), ?_⟩
 subst hkt
 have fz := tld_fine hk
 have hkd := told_kind hk
 refine ⟨_, rfl, .str (S (tld ku)), rfl, .inl ⟨_, rfl, fz.mono (by decide), fun ku' e p H1 s1 hp => ?_, fun e => ?_⟩⟩
 rotate_left
 · rw [cd_S, hkd] at e; cases e
 rw [cd_S, hkd] at e
 have e : ku = ku' := Option.some.inj e
 subst e
 obtain ⟨dx, fs, hi, hfl⟩ := id hp
 obtain ⟨J, ej, dj⟩ : ∃ J : MethJ P w K mg base CX0 6 (cls A ku) "told", J.sp = uTold A ku ∧ J.dvs = [] := ⟨JT T ku g, jt_sp T ku g⟩
 refine ⟨_, rfl, p, cls A ku, dx, fs, J, rfl, hi, hfl.noT.1, ?_⟩
 show J.sp (_ :: ([] ++ J.dvs)) _ _ _
 rw [ej, dj]
 refine ⟨p, rfl, hp, fun H2 s2 => ?_⟩
 have s12 := s1.trans s2
 have hi2 := s2 _ _ hi
 refine ⟨_, rfl, _, _, _, _, rfl, rfl, .old (.str _), T.i_str_str, _, rfl, iteF ?_⟩
 refine ⟨_, rfl, _, rfl, rfl, _, rfl, iteN (by rw [decide_eq_true rfl]; rfl) ?_⟩
 refine ⟨_, rfl, p, cls A ku, dx, fs, _, rfl, hi2, M.cl, M.n1, hfl.low, _, _, _, _, rfl, .old (.int _), T.i_int_int, T.i_int_bool, _, rfl, iteF ?_⟩
 refine ⟨_, rfl, p, cls A ku, dx, fs, _, rfl, hi2, M.cl, M.n2, hfl.high, _, _, _, _, rfl, .old (.int _), T.i_int_int, T.i_int_bool, _, rfl, iteF ?_⟩
 refine ⟨_, rfl, p, cls A ku, dx, fs, _, rfl, hi2, M.cl, M.n1, hfl.low, _, rfl, rfl, _, rfl, iteN (by rw [decide_eq_true rfl]; rfl) ?_⟩
 refine ⟨_, rfl, p, cls A ku, dx, fs, _, rfl, hi2, M.cl, M.n2, hfl.high, _, rfl, rfl, _, rfl, iteN (by rw [decide_eq_true rfl]; rfl) ?_⟩
 have lh := low_high hk
 refine ⟨_, rfl, _, rfl, p, ku.low, rfl, hp.same s2, Int.le_refl _, lh, fun H3 s3 => ⟨_, rfl, iteF ?_⟩⟩
 refine ⟨_, rfl, _, rfl, p, ku.high, rfl, hp.same (s2.trans s3), lh, Int.le_refl _, fun H4 s4 => ⟨_, rfl, iteF ?_⟩⟩
 have s24 := s2.trans (s3.trans s4)
 have s14 := s1.trans s24
 have hi4 := s24 _ _ hi
 have sz : (S (tld ku)).length ≤ sizeLine := small_of (m := 1000) (by have := fz.len; omega)
 have c5 : cutN (cd (S (tld ku))) none (some 5) = (pre ku).take 5 := by rw [cd_S]; exact (cut_n (n := 5) (tld_len5 ku)).trans (take_pre ku (Nat.le_refl 5))
 have c4 : cutN (cd (S (tld ku))) none (some 4) = (pre ku).take 4 := by rw [cd_S]; exact (cut_n (n := 4) (by have := tld_len5 ku; omega)).trans (take_pre ku (by decide))
 obtain ⟨b1, b2, b3, b4⟩ := pre5 ku
 refine ⟨_, rfl, rfl, _, rfl, _, rfl, _, rfl, sz, ?_⟩
 rw [c5]
 refine ⟨rfl, _, rfl, _, rfl, _, rfl, sz, ?_⟩
 rw [c5]
 refine ⟨rfl, _, rfl, _, rfl, _, rfl, sz, ?_⟩
 rw [c4]
 refine ⟨rfl, _, rfl, _, rfl, _, rfl, sz, ?_⟩
 rw [c5]
 refine ⟨rfl, (by show 6 ≤ sizeLine; decide), fun pd hpd => ?_⟩
 rw [yn_is hk, b1, b2, b3, b4]
 have sd := zJ hpd (.lst (dueL ku))
 have hd5 : upd H4 pd (.lst (dueL ku)) pd = some (.lst (dueL ku)) := zE
 have at2 : atI (dueL ku) ((2 : Nat) : Int) = some (.bl (isMo ku)) := atI_nat rfl
 obtain ⟨k1, k2, k3, k4, k5, k6⟩ := kits T ku
 dsimp only [gName]
 refine seq_mid (fun σ' H' => σ' = [some (.str (S (tld ku))), some (.int ku.low), some (.int ku.high), some (.ref p), some (.str (S (tld ku))), some (.ref pd), none, none] ∧ Same H4 H' ∧ H' pd = some (.lst (allL ku))) ?k ?m
 case m =>
   intro key
   refine ⟨_, rfl, pd, _, _, _, rfl, rfl, SqL.of hd5, at2, _, rfl, ite2 (fun c => ?_) (fun c => ?_)⟩
   · refine ⟨_, rfl, _, _, _, _, rfl, rfl, .old (tyK T ku (sd _ _ hi4)), k2, _, rfl, pd, _, _, 1, rfl, rfl, hd5, (by rw [ixN_some (by decide) (by show (1 : Int) < 6; decide)]; rfl), ?_⟩
     refine key _ _ ⟨rfl, fun b o hb => ?_, ?_⟩
     · rw [zO (ne_of_none hb hpd)]; exact sd _ _ hb
     · rw [zE]; rfl
   · have c' : isMo ku = false := Bool.eq_false_iff.mpr c
     refine key _ _ ⟨rfl, sd, ?_⟩
     have : allL ku = dueL ku := by unfold allL dueL; rw [c', Bool.or_false]
     rw [this]; exact hd5
 case k =>
   rintro σ' H5 ⟨rfl, s5, hd⟩
   have hi5 := s5 _ _ hi4
   refine ⟨_, rfl, _, _, _, _, rfl, rfl, .old (tyK T ku hi5), k1, _, rfl, _, _, _, _, rfl, rfl, .old (tyK T ku hi5), k2, _, rfl, _, _, _, _, rfl, rfl, .old (tyK T ku hi5), k3, _, rfl, _, _, _, _, rfl, rfl, .old (tyK T ku hi5), k4, (by show 4 ≤ sizeLine; decide), fun pf hpf => ?_⟩
   have s6 := zJ hpf (.lst [.bl (isYn ku), .bl (isWh ku || isMo ku), .bl (isMo ku), .bl (isPk ku)])
   have hi6 := s6 _ _ hi5
   refine ⟨_, rfl, _, rfl, _, _, _, _, rfl, rfl, .old (tyK T ku hi6), k5, _, rfl, _, _, _, _, rfl, rfl, .old (tyK T ku hi6), k6, (by show 2 ≤ sizeLine; decide), fun pg hpg => ?_⟩
   have s7 := zJ hpg (.lst [.bl (isNm ku), .bl true])
   refine ⟨pf, pg, _, _, rfl, rfl, s7 _ _ zE, zE, (by show 4 + 2 ≤ sizeLine; decide), fun ph hph => ?_⟩
   have s8 := zJ hph (.lst (allL ku))
   have hd8 := s8 _ _ (s7 _ _ (s6 _ _ hd))
   have s58 := s6.trans (s7.trans s8)
   have hi8 := s58 _ _ hi5
   have ee : EqJ (cxOf CX0 P w K mg base ["_law_text", "_law_low_here", "_law_high", "_law_kind", "_law_told_here", "_law_due", "_law_found", "_law_truth"] "_law_told" (defScope s_law_told) A.f_law_told cdv A0 outer s H E).nox (upd (upd (upd H5 pf (.lst [.bl (isYn ku), .bl (isWh ku || isMo ku), .bl (isMo ku), .bl (isPk ku)])) pg (.lst [.bl (isNm ku), .bl true])) ph (.lst (allL ku))) 20 (.ref ph) (.ref pd) (eqL (allL ku) (allL ku)) := eqj_flists (n := 19) (SqL.of zE) (SqL.of hd8) (allL_flat ku) (allL_flat ku)
   rw [eqL_self (allL_flat ku)] at ee
   refine ⟨_, rfl, _, ee, _, rfl, iteF ?_⟩
   obtain ⟨JF, ef, df⟩ : ∃ J : MethJ P w K mg base CX0 4 (cls A ku) "fits", J.sp = uFX A ku ∧ J.dvs = [] := ⟨JX T ku g, jx_sp T ku g⟩
   have hp8 := hp.same (s24.trans (s5.trans s58))
   refine ⟨_, rfl, p, cls A ku, dx, fs, JF, rfl, hi8, hfl.no (by symm), ?_⟩
   show JF.sp (_ :: ([V.bl true] ++ JF.dvs)) _ _ _
   rw [ef, df]
   refine ⟨p, isYn ku, _, rfl, hp8, .inl ⟨rfl, rfl⟩, fun H9 s9 => ?_⟩
   have at0 : atI (allL ku) ((0 : Nat) : Int) = some (.bl (isYn ku)) := atI_nat rfl
   refine ⟨_, rfl, _, _, _, _, rfl, rfl, .old (.bl _), T.i_bool_bool, _, rfl, iteT ?_⟩
   refine ⟨_, rfl, _, rfl, pd, _, _, _, rfl, rfl, SqL.of (s9 _ _ hd8), at0, rfl, _, rfl, iteY (decide_eq_true rfl) ?_⟩
   refine ⟨_, rfl, p, cls A ku, dx, fs, JF, rfl, s9 _ _ hi8, hfl.no (by symm), ?_⟩
   show JF.sp (_ :: ([V.str (Str.ofString "a-")] ++ JF.dvs)) _ _ _
   rw [ef, df]
   refine ⟨p, false, _, rfl, hp8.same s9, .inr ⟨rfl, rfl⟩, fun H10 s10 => ?_⟩
   exact ⟨_, _, rfl, rfl, q _ (s14.trans (s5.trans (s58.trans (s9.trans s10))))⟩
theorem ok_law_told (T : Txt K mg A) : FnOk P w K mg base CX0 8 A.f_law_told A.d_law_told ["_law_text", "_law_low_here", "_law_high"] uLTold := by
 refine ⟨fun vs H Q E h => ?_, fun A' outer s H args us vs Q E hr he hb hv hs => ?_⟩
 · obtain ⟨ku, hk, h⟩ := h
   exact (ok_law_told1 (P := P) (w := w) (base := base) T hk).len vs H Q E h
 · obtain ⟨ku, hk, h⟩ := hs
   exact (ok_law_told1 (P := P) (w := w) (base := base) T hk).run A' outer s H args us vs Q E hr he hb hv h
theorem ok_law (T : Txt K mg A) : FnOk P w K mg base CX0 30 A.f_law A.d_law ["_law_script"] (sp_law K) := by
 have G_law_refused := ok_law_refused (P := P) (w := w) (base := base) T
 have G_law_bad := ok_law_bad (P := P) (w := w) (base := base) T
 have G_law_good := ok_law_good (P := P) (w := w) (base := base) T
 have G_law_told := ok_law_told (P := P) (w := w) (base := base) T
 refine T.F_law.ok sc_law (fun vs H Q E h => ?_) (fun cdv A0 outer s H vs Q E hr h => ?_)
 · obtain ⟨a, ns, rfl, _⟩ := h
   rfl
 obtain ⟨a, ns, rfl, hS, hlen, hbits, q⟩ := h
 refine ⟨_, (zF (ps_forR PassesOwn.never rfl (pi_list (pe_slice sl_list (pv 0) po_none (po_some zD))) (pg_name (i := 1) sc_law.nd rfl (by first | exact Or.inl rfl | exact Or.inr rfl)) (zC (ps_if (pt_cmpR op_eq (zK op_mod (pv 1) zD) zD (nomark _)) (zC (ps_if (pt_not (pt_val (zL G_law_refused (hr.mono (by first | decide | omega)) rfl T.m_law_refused T.k_law_refused T.b_law_refused .nil zN (zA (zL G_law_bad (hr.mono (by first | decide | omega)) rfl T.m_law_bad T.k_law_bad T.b_law_bad .nil zN (zA (zK op_fdiv (pv 1) zD) zB)) zB)))) (zC (zH pe_bl)) pss_nil)) (zF (ps_asg (zL G_law_good (hr.mono (by first | decide | omega)) rfl T.m_law_good T.k_law_good T.b_law_good .nil zN (zA (zK op_add (zK op_fdiv (pv 1) zD) (zK op_mod (pv 1) zD)) zB)) (pg_tup rfl (pgs_cons (pg_name (i := 2) sc_law.nd rfl (by first | exact Or.inl rfl | exact Or.inr rfl)) (pgs_cons (pg_name (i := 3) sc_law.nd rfl (by first | exact Or.inl rfl | exact Or.inr rfl)) (pgs_cons (pg_name (i := 4) sc_law.nd rfl (by first | exact Or.inl rfl | exact Or.inr rfl)) pgs_nil)))))
     (zC (ps_if (pt_not (pt_val (zL G_law_told (hr.mono (by first | decide | omega)) rfl T.m_law_told T.k_law_told T.b_law_told .nil zN (zA (pv 2) (zA (pv 3) (zA (pv 4) zB)))))) (zC (zH pe_bl)) pss_nil))))))
     (zC (zH (pe_and (zL G_law_told (hr.mono (by first | decide | omega)) rfl T.m_law_told T.k_law_told T.b_law_told .nil zN (zA zG (zA zD (zA zD zB)))) (pe_and (zL G_law_refused (hr.mono (by first | decide | omega)) rfl T.m_law_refused T.k_law_refused T.b_law_refused .nil zN (zA zG zB)) (pe_one (zL G_law_told (hr.mono (by first | decide | omega)) rfl T.m_law_told T.k_law_told T.b_law_told .nil zN (zA zG (zA zD (zA zD zB)))))))))), ?_⟩
 refine ⟨_, rfl, _, rfl, a, _, rfl, hS, fun pc hpc => ?_⟩
 obtain ⟨ms, em, hm, hml⟩ := cutV_map V.int ns none (some 62)
 rw [em]
 have sc := zJ hpc (.lst (ms.map V.int))
 refine ⟨pc, rfl, ⟨_, SqL.of zE⟩, ?_⟩
 refine for_listR (xs := ms.map V.int) (fun i σ H' => (∃ u1 u2 u3 u4, σ = [some (.ref a), u1, u2, u3, u4]) ∧ H' pc = some (.lst (ms.map V.int))) ⟨⟨_, _, _, _, rfl⟩, zE⟩ (fun i σ H' _ hh => SqL.of hh.2) (fun i x σ H' hx hh => ?_) (fun σ H' hh => ?_)
 · obtain ⟨⟨u1, u2, u3, u4, rfl⟩, hpc'⟩ := hh
   obtain ⟨c, hci, rfl⟩ := map_get hx
   have hc := hbits c (hm c (List.mem_of_getElem? hci))
   refine ⟨_, rfl, _, _, rfl, rfl, (by show (0 : Int) < 3; decide), rfl, _, rfl, ite2 (fun _ => ?_) (fun _ => ?_)⟩
   · refine ⟨_, rfl, _, _, rfl, rfl, ⟨by decide, by decide⟩, c / 3, rfl, ib_div (by decide) hc, fun x H1 s1 hx1 => ?_⟩
     exact ⟨x, rfl, hx1, fun H2 s2 => ⟨_, rfl, iteF ⟨⟨_, _, _, _, rfl⟩, (s1.trans s2) _ _ hpc'⟩⟩⟩
   · refine ⟨_, rfl, _, _, rfl, rfl, ⟨by decide, by decide⟩, _, rfl, _, _, rfl, rfl, (by show (0 : Int) < 3; decide), _, _, rfl, rfl, c / 3 + c % 3, rfl, ib_abs hc (by omega), fun ku t H1 s1 hk ht => ?_⟩
     refine ⟨t, _, rfl, SqT.of ht, rfl, _, _, rfl, _, _, rfl, _, _, rfl, rfl, ?_⟩
     exact ⟨_, rfl, _, rfl, _, rfl, ku, hk, rfl, fun H2 s2 => ⟨_, rfl, iteF ⟨⟨_, _, _, _, rfl⟩, (s1.trans s2) _ _ hpc'⟩⟩⟩
 · obtain ⟨⟨u1, u2, u3, u4, rfl⟩, hpc'⟩ := hh
   have e6 : Str.ofString "names 6" = S (tld (.nm 6)) := by symm
   have ey : Str.ofString "yesno" = S (tld .yn) := by symm
   refine ⟨.nm 6, ⟨by decide, by decide⟩, by rw [e6]; rfl, fun H1 s1 => ⟨_, rfl, iteT ?_⟩⟩
   refine ⟨_, rfl, .inl ⟨_, rfl, bad_of (odd_bad (Str.ofString "") (by symm))⟩, fun H2 s2 => ⟨_, rfl, iteT ?_⟩⟩
   exact ⟨.yn, trivial, by rw [ey]; rfl, fun H3 s3 => q _⟩
end
end K07
set_option maxHeartbeats 4000000
namespace K07
open PySem L2
theorem txt_mk {K : W.Frag} {h : Heap} {mg : Str → Option Value} (X : K.In h) (G : h.Ns mainGlobals mg)
{f0 f1 f2 f3 f4 f5 dT5 f6 f7 f8 f9 f10 f11 f12 f13 f14 f15 f16 f17 f18 f19 f20 f21 f22 f23 f24 f25 f26 f27 f28 f29 f30 f31 f32 f33 f34 f35 dT35 f36 f37 f38 f39 f40 f41 f42 f43 f44 f45 f46 f47 f48 f49 f50 f51 f52 f53 f54 f55 f56 f57 f58 f59 f60 f61 f62 f63 f64 ga7 ga8 : Addr} {od0 an0 od1 an1 od2 an2 od3 an3 od4 an4 od5 an5 dD5 od6 an6 od7 an7 od8 an8 od9 an9 od10 an10 od11 an11 od12 an12 od13 an13 od14 an14 od15 an15 od16 an16 od17 an17 od18 an18 od19 an19 od20 an20 od21 an21 od22 an22 od23 an23 od24 an24 od25 an25 od26 an26 od27 an27 od28 an28 od29 an29 od30 an30 od31 an31 od32 an32 od33 an33 od34 an34 od35 an35 dD35 od36 an36 od37 an37 od38 an38 od39 an39 od40 an40 od41 an41 od42 an42 od43 an43 od44 an44 od45 an45 od46 an46 od47 an47 od48 an48 od49 an49 od50 an50 od51 an51 od52 an52 od53 an53 od54 an54 od55 an55 od56 an56 od57 an57 od58 an58 od59 an59 od60 an60 od61 an61 od62 an62 od63 an63 od64 an64 gd7 gd8 : Option Addr} {sl0 sl1 sl2 sl3 sl4 sl5 dS5 sl6 sl7 sl8 sl9 sl10 sl11 sl12 sl13 sl14 sl15 sl16 sl17 sl18 sl19 sl20 sl21 sl22 sl23 sl24 sl25 sl26 sl27 sl28 sl29 sl30 sl31 sl32 sl33 sl34 sl35 dS35 sl36 sl37 sl38 sl39 sl40 sl41 sl42 sl43 sl44 sl45 sl46 sl47 sl48 sl49 sl50 sl51 sl52 sl53 sl54 sl55 sl56 sl57 sl58 sl59 sl60 sl61 sl62 sl63 sl64 gs7 gs8 : Array (Option Value)} {oc0 kV0 dc0 pm0 cd0 ct0 oc1 kV1 dc1 pm1 cd1 ct1 oc2 kV2 dc2 pm2 cd2 ct2 oc3 kV3 dc3 pm3 cd3 ct3 oc4 kV4 dc4 pm4 cd4 ct4 oc5 kV5 dc5 pm5 cd5 ct5 oc6 kV6 dc6 pm6 cd6 ct6 oc7 kV7 dc7 pm7 cd7 ct7 oc8 kV8 dc8 pm8 cd8 ct8 oc9 kV9 dc9 pm9 cd9 ct9 oc10 kV10 dc10 pm10 cd10 ct10 oc11 kV11 dc11 pm11 cd11 ct11 oc12 kV12 dc12 pm12 cd12 ct12 oc13 kV13 dc13 pm13 cd13 ct13 oc14 kV14 dc14 pm14 cd14 ct14 oc15 kV15 dc15 pm15 cd15 ct15 oc16 kV16 dc16 pm16 cd16 ct16 oc17 kV17 dc17 pm17 cd17 ct17 oc18 kV18 dc18 pm18 cd18 ct18 oc19 kV19 dc19 pm19 cd19 ct19 oc20 kV20 dc20 pm20 cd20 ct20 oc21 kV21 dc21 pm21 cd21 ct21 oc22 kV22 dc22 pm22 cd22 ct22 oc23 kV23 dc23 pm23 cd23 ct23 oc24 kV24 dc24 pm24 cd24 ct24 oc25 kV25 dc25 pm25 cd25 ct25 oc26 kV26 dc26 pm26 cd26 ct26 oc27 kV27 dc27 pm27 cd27 ct27 oc28 kV28 dc28 pm28 cd28 ct28 oc29 kV29 dc29 pm29 cd29 ct29 oc30 kV30 dc30 pm30 cd30 ct30 oc31 kV31 dc31 pm31 cd31 ct31 oc32 kV32 dc32 pm32 cd32 ct32 oc33 kV33 dc33 pm33 cd33 ct33 oc34 kV34 dc34 pm34 cd34 ct34 oc35 kV35 dc35 pm35 cd35 ct35 oc36 kV36 dc36 pm36 cd36 ct36 oc37 kV37 dc37 pm37 cd37 ct37 oc38 kV38 dc38 pm38 cd38 ct38 oc39 kV39 dc39 pm39 cd39 ct39 oc40 kV40 dc40 pm40 cd40 ct40 oc41 kV41 dc41 pm41 cd41 ct41 oc42 kV42 dc42 pm42 cd42 ct42 oc43 kV43 dc43 pm43 cd43 ct43 oc44 kV44 dc44 pm44 cd44 ct44 oc45 kV45 dc45 pm45 cd45 ct45 oc46 kV46 dc46 pm46 cd46 ct46 oc47 kV47 dc47 pm47 cd47 ct47 oc48 kV48 dc48 pm48 cd48 ct48 oc49 kV49 dc49 pm49 cd49 ct49 oc50 kV50 dc50 pm50 cd50 ct50 oc51 kV51 dc51 pm51 cd51 ct51 oc52 kV52 dc52 pm52 cd52 ct52 oc53 kV53 dc53 pm53 cd53 ct53 oc54 kV54 dc54 pm54 cd54 ct54 oc55 kV55 dc55 pm55 cd55 ct55 oc56 kV56 dc56 pm56 cd56 ct56 oc57 kV57 dc57 pm57 cd57 ct57 oc58 kV58 dc58 pm58 cd58 ct58 oc59 kV59 dc59 pm59 cd59 ct59 oc60 kV60 dc60 pm60 cd60 ct60 oc61 kV61 dc61 pm61 cd61 ct61 oc62 kV62 dc62 pm62 cd62 ct62 oc63 kV63 dc63 pm63 cd63 ct63 oc64 kV64 dc64 pm64 cd64 ct64 go7 go8 : Value} {dN5 dN35 gn7 gn8 : Nat} {dt5_0 dt35_0 gt0 gt1 gt2 gt3 gt4 gt5 gt6 : Tok} {gi7 gi8 : Array Value}
 {ga9 : Addr} {go9 : Value} {gd9 : Option Addr} {gn9 : Nat} {ge9 : Array DictEntry} {gs9 : Array (Option Value)}
{k_AskError k_Kind k_Money k_Names k_NoAnswer k_NoKind k_NoLeft k_NoLine k_NoNumber k_NoRow k_NoSay k_NoSaying k_NoSum k_NoWay k_NotCome k_NotYet k_Nowhere k_OutOfReach k_Pick k_Ring k_Twice k_Unknown k_Whole k_WrongKind k_YesNo : Addr} {kd_AskError kd_Kind kd_Money kd_Names kd_NoAnswer kd_NoKind kd_NoLeft kd_NoLine kd_NoNumber kd_NoRow kd_NoSay kd_NoSaying kd_NoSum kd_NoWay kd_NotCome kd_NotYet kd_Nowhere kd_OutOfReach kd_Pick kd_Ring kd_Twice kd_Unknown kd_Whole kd_WrongKind kd_YesNo : ClassData}
 (na_AskError : W.nsIn K mainGlobals "AskError" = some (some (.ref k_AskError)))
 (na_Kind : W.nsIn K mainGlobals "Kind" = some (some (.ref k_Kind)))
 (na_Money : W.nsIn K mainGlobals "Money" = some (some (.ref k_Money)))
 (na_Names : W.nsIn K mainGlobals "Names" = some (some (.ref k_Names)))
 (na_NoAnswer : W.nsIn K mainGlobals "NoAnswer" = some (some (.ref k_NoAnswer)))
 (na_NoKind : W.nsIn K mainGlobals "NoKind" = some (some (.ref k_NoKind)))
 (na_NoLeft : W.nsIn K mainGlobals "NoLeft" = some (some (.ref k_NoLeft)))
 (na_NoLine : W.nsIn K mainGlobals "NoLine" = some (some (.ref k_NoLine)))
 (na_NoNumber : W.nsIn K mainGlobals "NoNumber" = some (some (.ref k_NoNumber)))
 (na_NoRow : W.nsIn K mainGlobals "NoRow" = some (some (.ref k_NoRow)))
 (na_NoSay : W.nsIn K mainGlobals "NoSay" = some (some (.ref k_NoSay)))
 (na_NoSaying : W.nsIn K mainGlobals "NoSaying" = some (some (.ref k_NoSaying)))
 (na_NoSum : W.nsIn K mainGlobals "NoSum" = some (some (.ref k_NoSum)))
 (na_NoWay : W.nsIn K mainGlobals "NoWay" = some (some (.ref k_NoWay)))
 (na_NotCome : W.nsIn K mainGlobals "NotCome" = some (some (.ref k_NotCome)))
 (na_NotYet : W.nsIn K mainGlobals "NotYet" = some (some (.ref k_NotYet)))
 (na_Nowhere : W.nsIn K mainGlobals "Nowhere" = some (some (.ref k_Nowhere)))
 (na_OutOfReach : W.nsIn K mainGlobals "OutOfReach" = some (some (.ref k_OutOfReach)))
 (na_Pick : W.nsIn K mainGlobals "Pick" = some (some (.ref k_Pick)))
 (na_Ring : W.nsIn K mainGlobals "Ring" = some (some (.ref k_Ring)))
 (na_Twice : W.nsIn K mainGlobals "Twice" = some (some (.ref k_Twice)))
 (na_Unknown : W.nsIn K mainGlobals "Unknown" = some (some (.ref k_Unknown)))
 (na_Whole : W.nsIn K mainGlobals "Whole" = some (some (.ref k_Whole)))
 (na_WrongKind : W.nsIn K mainGlobals "WrongKind" = some (some (.ref k_WrongKind)))
 (na_YesNo : W.nsIn K mainGlobals "YesNo" = some (some (.ref k_YesNo)))
 (a0 : W.nsIn K mainGlobals "is_whole" = some (some (.ref f0)))
 (l0 : K.lookup f0 = some ⟨oc0, od0, .func (W.fnOf "is_whole" "is_whole" (defArgs s_is_whole) (defBody s_is_whole) (defScope s_is_whole) .none kV0 dc0 pm0 an0 cd0 ct0), sl0⟩)
 (c0 : W.codeIn K cd0 "is_whole" = true)
 (k0 : W.keepIn K (.ref f0) = true)
 (a1 : W.nsIn K mainGlobals "is_name" = some (some (.ref f1)))
 (l1 : K.lookup f1 = some ⟨oc1, od1, .func (W.fnOf "is_name" "is_name" (defArgs s_is_name) (defBody s_is_name) (defScope s_is_name) .none kV1 dc1 pm1 an1 cd1 ct1), sl1⟩)
 (c1 : W.codeIn K cd1 "is_name" = true)
 (k1 : W.keepIn K (.ref f1) = true)
 (a2 : W.nsIn K mainGlobals "are_unlike_names" = some (some (.ref f2)))
 (l2 : K.lookup f2 = some ⟨oc2, od2, .func (W.fnOf "are_unlike_names" "are_unlike_names" (defArgs s_are_unlike_names) (defBody s_are_unlike_names) (defScope s_are_unlike_names) .none kV2 dc2 pm2 an2 cd2 ct2), sl2⟩)
 (c2 : W.codeIn K cd2 "are_unlike_names" = true)
 (k2 : W.keepIn K (.ref f2) = true)
 (a3 : W.nsIn K mainGlobals "are_figures" = some (some (.ref f3)))
 (l3 : K.lookup f3 = some ⟨oc3, od3, .func (W.fnOf "are_figures" "are_figures" (defArgs s_are_figures) (defBody s_are_figures) (defScope s_are_figures) .none kV3 dc3 pm3 an3 cd3 ct3), sl3⟩)
 (c3 : W.codeIn K cd3 "are_figures" = true)
 (k3 : W.keepIn K (.ref f3) = true)
 (a4 : W.nsIn K mainGlobals "figures_worth" = some (some (.ref f4)))
 (l4 : K.lookup f4 = some ⟨oc4, od4, .func (W.fnOf "figures_worth" "figures_worth" (defArgs s_figures_worth) (defBody s_figures_worth) (defScope s_figures_worth) .none kV4 dc4 pm4 an4 cd4 ct4), sl4⟩)
 (c4 : W.codeIn K cd4 "figures_worth" = true)
 (k4 : W.keepIn K (.ref f4) = true)
 (a5 : W.nsIn K mainGlobals "number_of" = some (some (.ref f5)))
 (l5 : K.lookup f5 = some ⟨oc5, od5, .func (W.fnOf "number_of" "number_of" (defArgs s_number_of) (defBody s_number_of) (defScope s_number_of) (.ref dT5) kV5 dc5 pm5 an5 cd5 ct5), sl5⟩)
 (c5 : W.codeIn K cd5 "number_of" = true)
 (k5 : W.keepIn K (.ref f5) = true)
 (dl5 : K.lookup dT5 = some ⟨.type "tuple", dD5, .seq ([(.int 60 dt5_0)] : List Value).toArray dN5, dS5⟩)
 (a6 : W.nsIn K mainGlobals "number_or_none" = some (some (.ref f6)))
 (l6 : K.lookup f6 = some ⟨oc6, od6, .func (W.fnOf "number_or_none" "number_or_none" (defArgs s_number_or_none) (defBody s_number_or_none) (defScope s_number_or_none) .none kV6 dc6 pm6 an6 cd6 ct6), sl6⟩)
 (c6 : W.codeIn K cd6 "number_or_none" = true)
 (k6 : W.keepIn K (.ref f6) = true)
 (a7 : W.nsIn K mainGlobals "money_shown" = some (some (.ref f7)))
 (l7 : K.lookup f7 = some ⟨oc7, od7, .func (W.fnOf "money_shown" "money_shown" (defArgs s_money_shown) (defBody s_money_shown) (defScope s_money_shown) .none kV7 dc7 pm7 an7 cd7 ct7), sl7⟩)
 (c7 : W.codeIn K cd7 "money_shown" = true)
 (k7 : W.keepIn K (.ref f7) = true)
 (a8 : W.nsIn K mainGlobals "money_or_none" = some (some (.ref f8)))
 (l8 : K.lookup f8 = some ⟨oc8, od8, .func (W.fnOf "money_or_none" "money_or_none" (defArgs s_money_or_none) (defBody s_money_or_none) (defScope s_money_or_none) .none kV8 dc8 pm8 an8 cd8 ct8), sl8⟩)
 (c8 : W.codeIn K cd8 "money_or_none" = true)
 (k8 : W.keepIn K (.ref f8) = true)
 (a9 : W.findIn K (.ref k_Kind) "__init__" = some (some (.ref f9)))
 (l9 : K.lookup f9 = some ⟨oc9, od9, .func (W.fnOf "__init__" "Kind.__init__" (defArgs s_c_Kind___init) (defBody s_c_Kind___init) (defScope s_c_Kind___init) .none kV9 dc9 pm9 an9 cd9 ct9), sl9⟩)
 (c9 : W.codeIn K cd9 "Kind.__init__" = true)
 (k9 : W.keepIn K (.ref f9) = true)
 (a10 : W.findIn K (.ref k_Kind) "read" = some (some (.ref f10)))
 (l10 : K.lookup f10 = some ⟨oc10, od10, .func (W.fnOf "read" "Kind.read" (defArgs s_c_Kind_read) (defBody s_c_Kind_read) (defScope s_c_Kind_read) .none kV10 dc10 pm10 an10 cd10 ct10), sl10⟩)
 (c10 : W.codeIn K cd10 "Kind.read" = true)
 (k10 : W.keepIn K (.ref f10) = true)
 (a11 : W.findIn K (.ref k_YesNo) "__init__" = some (some (.ref f11)))
 (l11 : K.lookup f11 = some ⟨oc11, od11, .func (W.fnOf "__init__" "YesNo.__init__" (defArgs s_c_YesNo___init) (defBody s_c_YesNo___init) (defScope s_c_YesNo___init) .none kV11 dc11 pm11 an11 cd11 ct11), sl11⟩)
 (c11 : W.codeIn K cd11 "YesNo.__init__" = true)
 (k11 : W.keepIn K (.ref f11) = true)
 (a12 : W.findIn K (.ref k_YesNo) "fits" = some (some (.ref f12)))
 (l12 : K.lookup f12 = some ⟨oc12, od12, .func (W.fnOf "fits" "YesNo.fits" (defArgs s_c_YesNo_fits) (defBody s_c_YesNo_fits) (defScope s_c_YesNo_fits) .none kV12 dc12 pm12 an12 cd12 ct12), sl12⟩)
 (c12 : W.codeIn K cd12 "YesNo.fits" = true)
 (k12 : W.keepIn K (.ref f12) = true)
 (a13 : W.findIn K (.ref k_YesNo) "answer_of" = some (some (.ref f13)))
 (l13 : K.lookup f13 = some ⟨oc13, od13, .func (W.fnOf "answer_of" "YesNo.answer_of" (defArgs s_c_YesNo_answer_of) (defBody s_c_YesNo_answer_of) (defScope s_c_YesNo_answer_of) .none kV13 dc13 pm13 an13 cd13 ct13), sl13⟩)
 (c13 : W.codeIn K cd13 "YesNo.answer_of" = true)
 (k13 : W.keepIn K (.ref f13) = true)
 (a14 : W.findIn K (.ref k_YesNo) "shown" = some (some (.ref f14)))
 (l14 : K.lookup f14 = some ⟨oc14, od14, .func (W.fnOf "shown" "YesNo.shown" (defArgs s_c_YesNo_shown) (defBody s_c_YesNo_shown) (defScope s_c_YesNo_shown) .none kV14 dc14 pm14 an14 cd14 ct14), sl14⟩)
 (c14 : W.codeIn K cd14 "YesNo.shown" = true)
 (k14 : W.keepIn K (.ref f14) = true)
 (a15 : W.findIn K (.ref k_YesNo) "rank" = some (some (.ref f15)))
 (l15 : K.lookup f15 = some ⟨oc15, od15, .func (W.fnOf "rank" "YesNo.rank" (defArgs s_c_YesNo_rank) (defBody s_c_YesNo_rank) (defScope s_c_YesNo_rank) .none kV15 dc15 pm15 an15 cd15 ct15), sl15⟩)
 (c15 : W.codeIn K cd15 "YesNo.rank" = true)
 (k15 : W.keepIn K (.ref f15) = true)
 (a16 : W.findIn K (.ref k_YesNo) "sample" = some (some (.ref f16)))
 (l16 : K.lookup f16 = some ⟨oc16, od16, .func (W.fnOf "sample" "YesNo.sample" (defArgs s_c_YesNo_sample) (defBody s_c_YesNo_sample) (defScope s_c_YesNo_sample) .none kV16 dc16 pm16 an16 cd16 ct16), sl16⟩)
 (c16 : W.codeIn K cd16 "YesNo.sample" = true)
 (k16 : W.keepIn K (.ref f16) = true)
 (a17 : W.findIn K (.ref k_YesNo) "told" = some (some (.ref f17)))
 (l17 : K.lookup f17 = some ⟨oc17, od17, .func (W.fnOf "told" "YesNo.told" (defArgs s_c_YesNo_told) (defBody s_c_YesNo_told) (defScope s_c_YesNo_told) .none kV17 dc17 pm17 an17 cd17 ct17), sl17⟩)
 (c17 : W.codeIn K cd17 "YesNo.told" = true)
 (k17 : W.keepIn K (.ref f17) = true)
 (a18 : W.findIn K (.ref k_Whole) "fits" = some (some (.ref f18)))
 (l18 : K.lookup f18 = some ⟨oc18, od18, .func (W.fnOf "fits" "Whole.fits" (defArgs s_c_Whole_fits) (defBody s_c_Whole_fits) (defScope s_c_Whole_fits) .none kV18 dc18 pm18 an18 cd18 ct18), sl18⟩)
 (c18 : W.codeIn K cd18 "Whole.fits" = true)
 (k18 : W.keepIn K (.ref f18) = true)
 (a19 : W.findIn K (.ref k_Whole) "answer_of" = some (some (.ref f19)))
 (l19 : K.lookup f19 = some ⟨oc19, od19, .func (W.fnOf "answer_of" "Whole.answer_of" (defArgs s_c_Whole_answer_of) (defBody s_c_Whole_answer_of) (defScope s_c_Whole_answer_of) .none kV19 dc19 pm19 an19 cd19 ct19), sl19⟩)
 (c19 : W.codeIn K cd19 "Whole.answer_of" = true)
 (k19 : W.keepIn K (.ref f19) = true)
 (a20 : W.findIn K (.ref k_Whole) "shown" = some (some (.ref f20)))
 (l20 : K.lookup f20 = some ⟨oc20, od20, .func (W.fnOf "shown" "Whole.shown" (defArgs s_c_Whole_shown) (defBody s_c_Whole_shown) (defScope s_c_Whole_shown) .none kV20 dc20 pm20 an20 cd20 ct20), sl20⟩)
 (c20 : W.codeIn K cd20 "Whole.shown" = true)
 (k20 : W.keepIn K (.ref f20) = true)
 (a21 : W.findIn K (.ref k_Whole) "rank" = some (some (.ref f21)))
 (l21 : K.lookup f21 = some ⟨oc21, od21, .func (W.fnOf "rank" "Whole.rank" (defArgs s_c_Whole_rank) (defBody s_c_Whole_rank) (defScope s_c_Whole_rank) .none kV21 dc21 pm21 an21 cd21 ct21), sl21⟩)
 (c21 : W.codeIn K cd21 "Whole.rank" = true)
 (k21 : W.keepIn K (.ref f21) = true)
 (a22 : W.findIn K (.ref k_Whole) "sample" = some (some (.ref f22)))
 (l22 : K.lookup f22 = some ⟨oc22, od22, .func (W.fnOf "sample" "Whole.sample" (defArgs s_c_Whole_sample) (defBody s_c_Whole_sample) (defScope s_c_Whole_sample) .none kV22 dc22 pm22 an22 cd22 ct22), sl22⟩)
 (c22 : W.codeIn K cd22 "Whole.sample" = true)
 (k22 : W.keepIn K (.ref f22) = true)
 (a23 : W.findIn K (.ref k_Whole) "bounds" = some (some (.ref f23)))
 (l23 : K.lookup f23 = some ⟨oc23, od23, .func (W.fnOf "bounds" "Whole.bounds" (defArgs s_c_Whole_bounds) (defBody s_c_Whole_bounds) (defScope s_c_Whole_bounds) .none kV23 dc23 pm23 an23 cd23 ct23), sl23⟩)
 (c23 : W.codeIn K cd23 "Whole.bounds" = true)
 (k23 : W.keepIn K (.ref f23) = true)
 (a24 : W.findIn K (.ref k_Whole) "told" = some (some (.ref f24)))
 (l24 : K.lookup f24 = some ⟨oc24, od24, .func (W.fnOf "told" "Whole.told" (defArgs s_c_Whole_told) (defBody s_c_Whole_told) (defScope s_c_Whole_told) .none kV24 dc24 pm24 an24 cd24 ct24), sl24⟩)
 (c24 : W.codeIn K cd24 "Whole.told" = true)
 (k24 : W.keepIn K (.ref f24) = true)
 (a25 : W.findIn K (.ref k_Money) "answer_of" = some (some (.ref f25)))
 (l25 : K.lookup f25 = some ⟨oc25, od25, .func (W.fnOf "answer_of" "Money.answer_of" (defArgs s_c_Money_answer_of) (defBody s_c_Money_answer_of) (defScope s_c_Money_answer_of) .none kV25 dc25 pm25 an25 cd25 ct25), sl25⟩)
 (c25 : W.codeIn K cd25 "Money.answer_of" = true)
 (k25 : W.keepIn K (.ref f25) = true)
 (a26 : W.findIn K (.ref k_Money) "shown" = some (some (.ref f26)))
 (l26 : K.lookup f26 = some ⟨oc26, od26, .func (W.fnOf "shown" "Money.shown" (defArgs s_c_Money_shown) (defBody s_c_Money_shown) (defScope s_c_Money_shown) .none kV26 dc26 pm26 an26 cd26 ct26), sl26⟩)
 (c26 : W.codeIn K cd26 "Money.shown" = true)
 (k26 : W.keepIn K (.ref f26) = true)
 (a27 : W.findIn K (.ref k_Money) "told" = some (some (.ref f27)))
 (l27 : K.lookup f27 = some ⟨oc27, od27, .func (W.fnOf "told" "Money.told" (defArgs s_c_Money_told) (defBody s_c_Money_told) (defScope s_c_Money_told) .none kV27 dc27 pm27 an27 cd27 ct27), sl27⟩)
 (c27 : W.codeIn K cd27 "Money.told" = true)
 (k27 : W.keepIn K (.ref f27) = true)
 (a28 : W.findIn K (.ref k_Pick) "__init__" = some (some (.ref f28)))
 (l28 : K.lookup f28 = some ⟨oc28, od28, .func (W.fnOf "__init__" "Pick.__init__" (defArgs s_c_Pick___init) (defBody s_c_Pick___init) (defScope s_c_Pick___init) .none kV28 dc28 pm28 an28 cd28 ct28), sl28⟩)
 (c28 : W.codeIn K cd28 "Pick.__init__" = true)
 (k28 : W.keepIn K (.ref f28) = true)
 (a29 : W.findIn K (.ref k_Pick) "fits" = some (some (.ref f29)))
 (l29 : K.lookup f29 = some ⟨oc29, od29, .func (W.fnOf "fits" "Pick.fits" (defArgs s_c_Pick_fits) (defBody s_c_Pick_fits) (defScope s_c_Pick_fits) .none kV29 dc29 pm29 an29 cd29 ct29), sl29⟩)
 (c29 : W.codeIn K cd29 "Pick.fits" = true)
 (k29 : W.keepIn K (.ref f29) = true)
 (a30 : W.findIn K (.ref k_Pick) "answer_of" = some (some (.ref f30)))
 (l30 : K.lookup f30 = some ⟨oc30, od30, .func (W.fnOf "answer_of" "Pick.answer_of" (defArgs s_c_Pick_answer_of) (defBody s_c_Pick_answer_of) (defScope s_c_Pick_answer_of) .none kV30 dc30 pm30 an30 cd30 ct30), sl30⟩)
 (c30 : W.codeIn K cd30 "Pick.answer_of" = true)
 (k30 : W.keepIn K (.ref f30) = true)
 (a31 : W.findIn K (.ref k_Pick) "shown" = some (some (.ref f31)))
 (l31 : K.lookup f31 = some ⟨oc31, od31, .func (W.fnOf "shown" "Pick.shown" (defArgs s_c_Pick_shown) (defBody s_c_Pick_shown) (defScope s_c_Pick_shown) .none kV31 dc31 pm31 an31 cd31 ct31), sl31⟩)
 (c31 : W.codeIn K cd31 "Pick.shown" = true)
 (k31 : W.keepIn K (.ref f31) = true)
 (a32 : W.findIn K (.ref k_Pick) "rank" = some (some (.ref f32)))
 (l32 : K.lookup f32 = some ⟨oc32, od32, .func (W.fnOf "rank" "Pick.rank" (defArgs s_c_Pick_rank) (defBody s_c_Pick_rank) (defScope s_c_Pick_rank) .none kV32 dc32 pm32 an32 cd32 ct32), sl32⟩)
 (c32 : W.codeIn K cd32 "Pick.rank" = true)
 (k32 : W.keepIn K (.ref f32) = true)
 (a33 : W.findIn K (.ref k_Pick) "sample" = some (some (.ref f33)))
 (l33 : K.lookup f33 = some ⟨oc33, od33, .func (W.fnOf "sample" "Pick.sample" (defArgs s_c_Pick_sample) (defBody s_c_Pick_sample) (defScope s_c_Pick_sample) .none kV33 dc33 pm33 an33 cd33 ct33), sl33⟩)
 (c33 : W.codeIn K cd33 "Pick.sample" = true)
 (k33 : W.keepIn K (.ref f33) = true)
 (a34 : W.findIn K (.ref k_Pick) "told" = some (some (.ref f34)))
 (l34 : K.lookup f34 = some ⟨oc34, od34, .func (W.fnOf "told" "Pick.told" (defArgs s_c_Pick_told) (defBody s_c_Pick_told) (defScope s_c_Pick_told) .none kV34 dc34 pm34 an34 cd34 ct34), sl34⟩)
 (c34 : W.codeIn K cd34 "Pick.told" = true)
 (k34 : W.keepIn K (.ref f34) = true)
 (a35 : W.findIn K (.ref k_Names) "__init__" = some (some (.ref f35)))
 (l35 : K.lookup f35 = some ⟨oc35, od35, .func (W.fnOf "__init__" "Names.__init__" (defArgs s_c_Names___init) (defBody s_c_Names___init) (defScope s_c_Names___init) (.ref dT35) kV35 dc35 pm35 an35 cd35 ct35), sl35⟩)
 (c35 : W.codeIn K cd35 "Names.__init__" = true)
 (k35 : W.keepIn K (.ref f35) = true)
 (dl35 : K.lookup dT35 = some ⟨.type "tuple", dD35, .seq ([(.int 3 dt35_0)] : List Value).toArray dN35, dS35⟩)
 (a36 : W.findIn K (.ref k_Names) "fits" = some (some (.ref f36)))
 (l36 : K.lookup f36 = some ⟨oc36, od36, .func (W.fnOf "fits" "Names.fits" (defArgs s_c_Names_fits) (defBody s_c_Names_fits) (defScope s_c_Names_fits) .none kV36 dc36 pm36 an36 cd36 ct36), sl36⟩)
 (c36 : W.codeIn K cd36 "Names.fits" = true)
 (k36 : W.keepIn K (.ref f36) = true)
 (a37 : W.findIn K (.ref k_Names) "answer_of" = some (some (.ref f37)))
 (l37 : K.lookup f37 = some ⟨oc37, od37, .func (W.fnOf "answer_of" "Names.answer_of" (defArgs s_c_Names_answer_of) (defBody s_c_Names_answer_of) (defScope s_c_Names_answer_of) .none kV37 dc37 pm37 an37 cd37 ct37), sl37⟩)
 (c37 : W.codeIn K cd37 "Names.answer_of" = true)
 (k37 : W.keepIn K (.ref f37) = true)
 (a38 : W.findIn K (.ref k_Names) "shown" = some (some (.ref f38)))
 (l38 : K.lookup f38 = some ⟨oc38, od38, .func (W.fnOf "shown" "Names.shown" (defArgs s_c_Names_shown) (defBody s_c_Names_shown) (defScope s_c_Names_shown) .none kV38 dc38 pm38 an38 cd38 ct38), sl38⟩)
 (c38 : W.codeIn K cd38 "Names.shown" = true)
 (k38 : W.keepIn K (.ref f38) = true)
 (a39 : W.findIn K (.ref k_Names) "rank" = some (some (.ref f39)))
 (l39 : K.lookup f39 = some ⟨oc39, od39, .func (W.fnOf "rank" "Names.rank" (defArgs s_c_Names_rank) (defBody s_c_Names_rank) (defScope s_c_Names_rank) .none kV39 dc39 pm39 an39 cd39 ct39), sl39⟩)
 (c39 : W.codeIn K cd39 "Names.rank" = true)
 (k39 : W.keepIn K (.ref f39) = true)
 (a40 : W.findIn K (.ref k_Names) "sample" = some (some (.ref f40)))
 (l40 : K.lookup f40 = some ⟨oc40, od40, .func (W.fnOf "sample" "Names.sample" (defArgs s_c_Names_sample) (defBody s_c_Names_sample) (defScope s_c_Names_sample) .none kV40 dc40 pm40 an40 cd40 ct40), sl40⟩)
 (c40 : W.codeIn K cd40 "Names.sample" = true)
 (k40 : W.keepIn K (.ref f40) = true)
 (a41 : W.findIn K (.ref k_Names) "told" = some (some (.ref f41)))
 (l41 : K.lookup f41 = some ⟨oc41, od41, .func (W.fnOf "told" "Names.told" (defArgs s_c_Names_told) (defBody s_c_Names_told) (defScope s_c_Names_told) .none kV41 dc41 pm41 an41 cd41 ct41), sl41⟩)
 (c41 : W.codeIn K cd41 "Names.told" = true)
 (k41 : W.keepIn K (.ref f41) = true)
 (a42 : W.nsIn K mainGlobals "are_bounds" = some (some (.ref f42)))
 (l42 : K.lookup f42 = some ⟨oc42, od42, .func (W.fnOf "are_bounds" "are_bounds" (defArgs s_are_bounds) (defBody s_are_bounds) (defScope s_are_bounds) .none kV42 dc42 pm42 an42 cd42 ct42), sl42⟩)
 (c42 : W.codeIn K cd42 "are_bounds" = true)
 (k42 : W.keepIn K (.ref f42) = true)
 (a43 : W.nsIn K mainGlobals "whole_or_none" = some (some (.ref f43)))
 (l43 : K.lookup f43 = some ⟨oc43, od43, .func (W.fnOf "whole_or_none" "whole_or_none" (defArgs s_whole_or_none) (defBody s_whole_or_none) (defScope s_whole_or_none) .none kV43 dc43 pm43 an43 cd43 ct43), sl43⟩)
 (c43 : W.codeIn K cd43 "whole_or_none" = true)
 (k43 : W.keepIn K (.ref f43) = true)
 (a44 : W.nsIn K mainGlobals "money_kind_or_none" = some (some (.ref f44)))
 (l44 : K.lookup f44 = some ⟨oc44, od44, .func (W.fnOf "money_kind_or_none" "money_kind_or_none" (defArgs s_money_kind_or_none) (defBody s_money_kind_or_none) (defScope s_money_kind_or_none) .none kV44 dc44 pm44 an44 cd44 ct44), sl44⟩)
 (c44 : W.codeIn K cd44 "money_kind_or_none" = true)
 (k44 : W.keepIn K (.ref f44) = true)
 (a45 : W.nsIn K mainGlobals "pick_or_none" = some (some (.ref f45)))
 (l45 : K.lookup f45 = some ⟨oc45, od45, .func (W.fnOf "pick_or_none" "pick_or_none" (defArgs s_pick_or_none) (defBody s_pick_or_none) (defScope s_pick_or_none) .none kV45 dc45 pm45 an45 cd45 ct45), sl45⟩)
 (c45 : W.codeIn K cd45 "pick_or_none" = true)
 (k45 : W.keepIn K (.ref f45) = true)
 (a46 : W.nsIn K mainGlobals "names_or_none" = some (some (.ref f46)))
 (l46 : K.lookup f46 = some ⟨oc46, od46, .func (W.fnOf "names_or_none" "names_or_none" (defArgs s_names_or_none) (defBody s_names_or_none) (defScope s_names_or_none) .none kV46 dc46 pm46 an46 cd46 ct46), sl46⟩)
 (c46 : W.codeIn K cd46 "names_or_none" = true)
 (k46 : W.keepIn K (.ref f46) = true)
 (a47 : W.nsIn K mainGlobals "kind_or_none" = some (some (.ref f47)))
 (l47 : K.lookup f47 = some ⟨oc47, od47, .func (W.fnOf "kind_or_none" "kind_or_none" (defArgs s_kind_or_none) (defBody s_kind_or_none) (defScope s_kind_or_none) .none kV47 dc47 pm47 an47 cd47 ct47), sl47⟩)
 (c47 : W.codeIn K cd47 "kind_or_none" = true)
 (k47 : W.keepIn K (.ref f47) = true)
 (a48 : W.nsIn K mainGlobals "kind_of" = some (some (.ref f48)))
 (l48 : K.lookup f48 = some ⟨oc48, od48, .func (W.fnOf "kind_of" "kind_of" (defArgs s_kind_of) (defBody s_kind_of) (defScope s_kind_of) .none kV48 dc48 pm48 an48 cd48 ct48), sl48⟩)
 (c48 : W.codeIn K cd48 "kind_of" = true)
 (k48 : W.keepIn K (.ref f48) = true)
 (a49 : W.nsIn K mainGlobals "_law_whole" = some (some (.ref f49)))
 (l49 : K.lookup f49 = some ⟨oc49, od49, .func (W.fnOf "_law_whole" "_law_whole" (defArgs s_law_whole) (defBody s_law_whole) (defScope s_law_whole) .none kV49 dc49 pm49 an49 cd49 ct49), sl49⟩)
 (c49 : W.codeIn K cd49 "_law_whole" = true)
 (k49 : W.keepIn K (.ref f49) = true)
 (a50 : W.nsIn K mainGlobals "_law_letter" = some (some (.ref f50)))
 (l50 : K.lookup f50 = some ⟨oc50, od50, .func (W.fnOf "_law_letter" "_law_letter" (defArgs s_law_letter) (defBody s_law_letter) (defScope s_law_letter) .none kV50 dc50 pm50 an50 cd50 ct50), sl50⟩)
 (c50 : W.codeIn K cd50 "_law_letter" = true)
 (k50 : W.keepIn K (.ref f50) = true)
 (a51 : W.nsIn K mainGlobals "_law_wide" = some (some (.ref f51)))
 (l51 : K.lookup f51 = some ⟨oc51, od51, .func (W.fnOf "_law_wide" "_law_wide" (defArgs s_law_wide) (defBody s_law_wide) (defScope s_law_wide) .none kV51 dc51 pm51 an51 cd51 ct51), sl51⟩)
 (c51 : W.codeIn K cd51 "_law_wide" = true)
 (k51 : W.keepIn K (.ref f51) = true)
 (a52 : W.nsIn K mainGlobals "_law_low" = some (some (.ref f52)))
 (l52 : K.lookup f52 = some ⟨oc52, od52, .func (W.fnOf "_law_low" "_law_low" (defArgs s_law_low) (defBody s_law_low) (defScope s_law_low) .none kV52 dc52 pm52 an52 cd52 ct52), sl52⟩)
 (c52 : W.codeIn K cd52 "_law_low" = true)
 (k52 : W.keepIn K (.ref f52) = true)
 (a53 : W.nsIn K mainGlobals "_law_size" = some (some (.ref f53)))
 (l53 : K.lookup f53 = some ⟨oc53, od53, .func (W.fnOf "_law_size" "_law_size" (defArgs s_law_size) (defBody s_law_size) (defScope s_law_size) .none kV53 dc53 pm53 an53 cd53 ct53), sl53⟩)
 (c53 : W.codeIn K cd53 "_law_size" = true)
 (k53 : W.keepIn K (.ref f53) = true)
 (a54 : W.nsIn K mainGlobals "_law_money" = some (some (.ref f54)))
 (l54 : K.lookup f54 = some ⟨oc54, od54, .func (W.fnOf "_law_money" "_law_money" (defArgs s_law_money) (defBody s_law_money) (defScope s_law_money) .none kV54 dc54 pm54 an54 cd54 ct54), sl54⟩)
 (c54 : W.codeIn K cd54 "_law_money" = true)
 (k54 : W.keepIn K (.ref f54) = true)
 (a55 : W.nsIn K mainGlobals "_law_words" = some (some (.ref f55)))
 (l55 : K.lookup f55 = some ⟨oc55, od55, .func (W.fnOf "_law_words" "_law_words" (defArgs s_law_words) (defBody s_law_words) (defScope s_law_words) .none kV55 dc55 pm55 an55 cd55 ct55), sl55⟩)
 (c55 : W.codeIn K cd55 "_law_words" = true)
 (k55 : W.keepIn K (.ref f55) = true)
 (a56 : W.nsIn K mainGlobals "_law_numbers" = some (some (.ref f56)))
 (l56 : K.lookup f56 = some ⟨oc56, od56, .func (W.fnOf "_law_numbers" "_law_numbers" (defArgs s_law_numbers) (defBody s_law_numbers) (defScope s_law_numbers) .none kV56 dc56 pm56 an56 cd56 ct56), sl56⟩)
 (c56 : W.codeIn K cd56 "_law_numbers" = true)
 (k56 : W.keepIn K (.ref f56) = true)
 (a57 : W.nsIn K mainGlobals "_law_good" = some (some (.ref f57)))
 (l57 : K.lookup f57 = some ⟨oc57, od57, .func (W.fnOf "_law_good" "_law_good" (defArgs s_law_good) (defBody s_law_good) (defScope s_law_good) .none kV57 dc57 pm57 an57 cd57 ct57), sl57⟩)
 (c57 : W.codeIn K cd57 "_law_good" = true)
 (k57 : W.keepIn K (.ref f57) = true)
 (a58 : W.nsIn K mainGlobals "_law_odd" = some (some (.ref f58)))
 (l58 : K.lookup f58 = some ⟨oc58, od58, .func (W.fnOf "_law_odd" "_law_odd" (defArgs s_law_odd) (defBody s_law_odd) (defScope s_law_odd) .none kV58 dc58 pm58 an58 cd58 ct58), sl58⟩)
 (c58 : W.codeIn K cd58 "_law_odd" = true)
 (k58 : W.keepIn K (.ref f58) = true)
 (a59 : W.nsIn K mainGlobals "_law_bad" = some (some (.ref f59)))
 (l59 : K.lookup f59 = some ⟨oc59, od59, .func (W.fnOf "_law_bad" "_law_bad" (defArgs s_law_bad) (defBody s_law_bad) (defScope s_law_bad) .none kV59 dc59 pm59 an59 cd59 ct59), sl59⟩)
 (c59 : W.codeIn K cd59 "_law_bad" = true)
 (k59 : W.keepIn K (.ref f59) = true)
 (a60 : W.nsIn K mainGlobals "_law_only" = some (some (.ref f60)))
 (l60 : K.lookup f60 = some ⟨oc60, od60, .func (W.fnOf "_law_only" "_law_only" (defArgs s_law_only) (defBody s_law_only) (defScope s_law_only) .none kV60 dc60 pm60 an60 cd60 ct60), sl60⟩)
 (c60 : W.codeIn K cd60 "_law_only" = true)
 (k60 : W.keepIn K (.ref f60) = true)
 (a61 : W.nsIn K mainGlobals "_law_refused" = some (some (.ref f61)))
 (l61 : K.lookup f61 = some ⟨oc61, od61, .func (W.fnOf "_law_refused" "_law_refused" (defArgs s_law_refused) (defBody s_law_refused) (defScope s_law_refused) .none kV61 dc61 pm61 an61 cd61 ct61), sl61⟩)
 (c61 : W.codeIn K cd61 "_law_refused" = true)
 (k61 : W.keepIn K (.ref f61) = true)
 (a62 : W.nsIn K mainGlobals "_law_sample" = some (some (.ref f62)))
 (l62 : K.lookup f62 = some ⟨oc62, od62, .func (W.fnOf "_law_sample" "_law_sample" (defArgs s_law_sample) (defBody s_law_sample) (defScope s_law_sample) .none kV62 dc62 pm62 an62 cd62 ct62), sl62⟩)
 (c62 : W.codeIn K cd62 "_law_sample" = true)
 (k62 : W.keepIn K (.ref f62) = true)
 (a63 : W.nsIn K mainGlobals "_law_told" = some (some (.ref f63)))
 (l63 : K.lookup f63 = some ⟨oc63, od63, .func (W.fnOf "_law_told" "_law_told" (defArgs s_law_told) (defBody s_law_told) (defScope s_law_told) .none kV63 dc63 pm63 an63 cd63 ct63), sl63⟩)
 (c63 : W.codeIn K cd63 "_law_told" = true)
 (k63 : W.keepIn K (.ref f63) = true)
 (a64 : W.nsIn K mainGlobals "law" = some (some (.ref f64)))
 (l64 : K.lookup f64 = some ⟨oc64, od64, .func (W.fnOf "law" "law" (defArgs s_law) (defBody s_law) (defScope s_law) .none kV64 dc64 pm64 an64 cd64 ct64), sl64⟩)
 (c64 : W.codeIn K cd64 "law" = true)
 (k64 : W.keepIn K (.ref f64) = true)
 (g0 : W.nsIn K mainGlobals "FEWEST_WORDS" = some (some (.int 2 gt0)))
 (g1 : W.nsIn K mainGlobals "FIGURES" = some (some (.str "0123456789" gt1)))
 (g2 : W.nsIn K mainGlobals "LETTERS" = some (some (.str "abcdefghijklmnopqrstuvwxyz" gt2)))
 (g3 : W.nsIn K mainGlobals "LONGEST_NAME" = some (some (.int 12 gt3)))
 (g4 : W.nsIn K mainGlobals "MOST_FIGURES" = some (some (.int 60 gt4)))
 (g5 : W.nsIn K mainGlobals "MOST_NAMES" = some (some (.int 6 gt5)))
 (g6 : W.nsIn K mainGlobals "MOST_WORDS" = some (some (.int 6 gt6)))
 (g7 : W.nsIn K mainGlobals "NO_NAMES" = some (some (.ref ga7)))
 (gl7 : K.lookup ga7 = some ⟨go7, gd7, .seq gi7 gn7, gs7⟩)
 (gc7 : go7 = .type "tuple")
 (gz7 : gi7.size ≤ sizeLine)
 (gv7 : Vals [(.str "and"), (.str "each"), (.str "end"), (.str "is"), (.str "not"), (.str "or"), (.str "unless"), (.str "when")] gi7.toList)
 (g8 : W.nsIn K mainGlobals "SAMPLE_NAMES" = some (some (.ref ga8)))
 (gl8 : K.lookup ga8 = some ⟨go8, gd8, .seq gi8 gn8, gs8⟩)
 (gc8 : go8 = .type "tuple")
 (gz8 : gi8.size ≤ sizeLine)
 (gv8 : Vals [(.str "a"), (.str "b"), (.str "c"), (.str "d"), (.str "e"), (.str "f")] gi8.toList)
 (g9 : W.nsIn K mainGlobals "WRITTEN_TRUTHS" = some (some (.ref ga9)))
 (gl9 : K.lookup ga9 = some ⟨go9, gd9, .dict ge9 gn9, gs9⟩)
 (gy9 : (ga9 == sysModules) = false)
 (gc9 : go9 = .type "dict")
 (gq9 : gd9 = none)
 (gz9 : gs9 = #[])
 (gv9 : PyProof.Rows.KTD.Rows (fun (b : Bool) (v : Value) => v = .bool b) ge9.toList [("yes", true), ("no", false)])
 (z_ValueError : W.nsIn K mainGlobals "ValueError" = some none)
 (z_abs : W.nsIn K mainGlobals "abs" = some none)
 (z_all : W.nsIn K mainGlobals "all" = some none)
 (z_bool : W.nsIn K mainGlobals "bool" = some none)
 (z_int : W.nsIn K mainGlobals "int" = some none)
 (z_isinstance : W.nsIn K mainGlobals "isinstance" = some none)
 (z_len : W.nsIn K mainGlobals "len" = some none)
 (z_list : W.nsIn K mainGlobals "list" = some none)
 (z_range : W.nsIn K mainGlobals "range" = some none)
 (z_set : W.nsIn K mainGlobals "set" = some none)
 (z_str : W.nsIn K mainGlobals "str" = some none)
 (z_tuple : W.nsIn K mainGlobals "tuple" = some none)
 (kc_AskError : W.clsIn K k_AskError = some kd_AskError)
 (kt_AskError : W.typeIn K (.ref k_AskError) = some (.type "type"))
 (kc_Kind : W.clsIn K k_Kind = some kd_Kind)
 (kt_Kind : W.typeIn K (.ref k_Kind) = some (.type "type"))
 (kc_Money : W.clsIn K k_Money = some kd_Money)
 (kt_Money : W.typeIn K (.ref k_Money) = some (.type "type"))
 (kc_Names : W.clsIn K k_Names = some kd_Names)
 (kt_Names : W.typeIn K (.ref k_Names) = some (.type "type"))
 (kc_NoAnswer : W.clsIn K k_NoAnswer = some kd_NoAnswer)
 (kt_NoAnswer : W.typeIn K (.ref k_NoAnswer) = some (.type "type"))
 (kc_NoKind : W.clsIn K k_NoKind = some kd_NoKind)
 (kt_NoKind : W.typeIn K (.ref k_NoKind) = some (.type "type"))
 (kc_NoLeft : W.clsIn K k_NoLeft = some kd_NoLeft)
 (kt_NoLeft : W.typeIn K (.ref k_NoLeft) = some (.type "type"))
 (kc_NoLine : W.clsIn K k_NoLine = some kd_NoLine)
 (kt_NoLine : W.typeIn K (.ref k_NoLine) = some (.type "type"))
 (kc_NoNumber : W.clsIn K k_NoNumber = some kd_NoNumber)
 (kt_NoNumber : W.typeIn K (.ref k_NoNumber) = some (.type "type"))
 (kc_NoRow : W.clsIn K k_NoRow = some kd_NoRow)
 (kt_NoRow : W.typeIn K (.ref k_NoRow) = some (.type "type"))
 (kc_NoSay : W.clsIn K k_NoSay = some kd_NoSay)
 (kt_NoSay : W.typeIn K (.ref k_NoSay) = some (.type "type"))
 (kc_NoSaying : W.clsIn K k_NoSaying = some kd_NoSaying)
 (kt_NoSaying : W.typeIn K (.ref k_NoSaying) = some (.type "type"))
 (kc_NoSum : W.clsIn K k_NoSum = some kd_NoSum)
 (kt_NoSum : W.typeIn K (.ref k_NoSum) = some (.type "type"))
 (kc_NoWay : W.clsIn K k_NoWay = some kd_NoWay)
 (kt_NoWay : W.typeIn K (.ref k_NoWay) = some (.type "type"))
 (kc_NotCome : W.clsIn K k_NotCome = some kd_NotCome)
 (kt_NotCome : W.typeIn K (.ref k_NotCome) = some (.type "type"))
 (kc_NotYet : W.clsIn K k_NotYet = some kd_NotYet)
 (kt_NotYet : W.typeIn K (.ref k_NotYet) = some (.type "type"))
 (kc_Nowhere : W.clsIn K k_Nowhere = some kd_Nowhere)
 (kt_Nowhere : W.typeIn K (.ref k_Nowhere) = some (.type "type"))
 (kc_OutOfReach : W.clsIn K k_OutOfReach = some kd_OutOfReach)
 (kt_OutOfReach : W.typeIn K (.ref k_OutOfReach) = some (.type "type"))
 (kc_Pick : W.clsIn K k_Pick = some kd_Pick)
 (kt_Pick : W.typeIn K (.ref k_Pick) = some (.type "type"))
 (kc_Ring : W.clsIn K k_Ring = some kd_Ring)
 (kt_Ring : W.typeIn K (.ref k_Ring) = some (.type "type"))
 (kc_Twice : W.clsIn K k_Twice = some kd_Twice)
 (kt_Twice : W.typeIn K (.ref k_Twice) = some (.type "type"))
 (kc_Unknown : W.clsIn K k_Unknown = some kd_Unknown)
 (kt_Unknown : W.typeIn K (.ref k_Unknown) = some (.type "type"))
 (kc_Whole : W.clsIn K k_Whole = some kd_Whole)
 (kt_Whole : W.typeIn K (.ref k_Whole) = some (.type "type"))
 (kc_WrongKind : W.clsIn K k_WrongKind = some kd_WrongKind)
 (kt_WrongKind : W.typeIn K (.ref k_WrongKind) = some (.type "type"))
 (kc_YesNo : W.clsIn K k_YesNo = some kd_YesNo)
 (kt_YesNo : W.typeIn K (.ref k_YesNo) = some (.type "type"))
 (xx_NoAnswer : W.excIn K k_NoAnswer mroVE "ValueError.__new__" = true)
 (pg_NoAnswer : W.findIn K (.ref k_NoAnswer) "__getattribute__" = some (some (.builtin "BaseException.__getattribute__")))
 (pk_NoAnswer : W.findIn K (.ref k_NoAnswer) "__getattr__" = some none)
 (ha_NoAnswer : W.findIn K (.ref k_NoAnswer) "__class__" = some (some (.builtin "object.__class__")))
 (hn_NoAnswer : W.specialIn K (.builtin "object.__class__") "__get__" = some (some (.builtin "getset_descriptor.__get__")))
 (tk_NoAnswer : W.takesIn K (.builtin "object.__class__") = some true)
 (mo_NoAnswer : W.mroIn K k_NoAnswer (.type "object") = some true)
 (mb_NoAnswer : W.mroIn K k_NoAnswer (.type "BaseException") = some true)
 (xx_NoKind : W.excIn K k_NoKind mroVE "ValueError.__new__" = true)
 (pg_NoKind : W.findIn K (.ref k_NoKind) "__getattribute__" = some (some (.builtin "BaseException.__getattribute__")))
 (pk_NoKind : W.findIn K (.ref k_NoKind) "__getattr__" = some none)
 (ha_NoKind : W.findIn K (.ref k_NoKind) "__class__" = some (some (.builtin "object.__class__")))
 (hn_NoKind : W.specialIn K (.builtin "object.__class__") "__get__" = some (some (.builtin "getset_descriptor.__get__")))
 (tk_NoKind : W.takesIn K (.builtin "object.__class__") = some true)
 (mo_NoKind : W.mroIn K k_NoKind (.type "object") = some true)
 (mb_NoKind : W.mroIn K k_NoKind (.type "BaseException") = some true)
 (xx_NoNumber : W.excIn K k_NoNumber mroVE "ValueError.__new__" = true)
 (pg_NoNumber : W.findIn K (.ref k_NoNumber) "__getattribute__" = some (some (.builtin "BaseException.__getattribute__")))
 (pk_NoNumber : W.findIn K (.ref k_NoNumber) "__getattr__" = some none)
 (ha_NoNumber : W.findIn K (.ref k_NoNumber) "__class__" = some (some (.builtin "object.__class__")))
 (hn_NoNumber : W.specialIn K (.builtin "object.__class__") "__get__" = some (some (.builtin "getset_descriptor.__get__")))
 (tk_NoNumber : W.takesIn K (.builtin "object.__class__") = some true)
 (mo_NoNumber : W.mroIn K k_NoNumber (.type "object") = some true)
 (mb_NoNumber : W.mroIn K k_NoNumber (.type "BaseException") = some true)
 (sb_NoNumber_NoNumber : W.subIn K (.ref k_NoNumber) (.type "BaseException") = some true)
 (em_NoNumber_NoNumber : W.mroIn K k_NoNumber (.ref k_NoNumber) = some true)
 (sb_NoAnswer_NoAnswer : W.subIn K (.ref k_NoAnswer) (.type "BaseException") = some true)
 (em_NoAnswer_NoAnswer : W.mroIn K k_NoAnswer (.ref k_NoAnswer) = some true)
 (sb_NoKind_AskError : W.subIn K (.ref k_AskError) (.type "BaseException") = some true)
 (em_NoKind_AskError : W.mroIn K k_NoKind (.ref k_AskError) = some true)
 (mr_NoKind_NoAnswer : W.mroIn K k_NoKind (.ref k_NoAnswer) = some false)
 (ne_NoKind_NoAnswer : (Value.ref k_NoKind == Value.ref k_NoAnswer) = false)
 (mr_NoKind_NoLeft : W.mroIn K k_NoKind (.ref k_NoLeft) = some false)
 (ne_NoKind_NoLeft : (Value.ref k_NoKind == Value.ref k_NoLeft) = false)
 (mr_NoKind_NoLine : W.mroIn K k_NoKind (.ref k_NoLine) = some false)
 (ne_NoKind_NoLine : (Value.ref k_NoKind == Value.ref k_NoLine) = false)
 (mr_NoKind_NoNumber : W.mroIn K k_NoKind (.ref k_NoNumber) = some false)
 (ne_NoKind_NoNumber : (Value.ref k_NoKind == Value.ref k_NoNumber) = false)
 (mr_NoKind_NoRow : W.mroIn K k_NoKind (.ref k_NoRow) = some false)
 (ne_NoKind_NoRow : (Value.ref k_NoKind == Value.ref k_NoRow) = false)
 (mr_NoKind_NoSay : W.mroIn K k_NoKind (.ref k_NoSay) = some false)
 (ne_NoKind_NoSay : (Value.ref k_NoKind == Value.ref k_NoSay) = false)
 (mr_NoKind_NoSaying : W.mroIn K k_NoKind (.ref k_NoSaying) = some false)
 (ne_NoKind_NoSaying : (Value.ref k_NoKind == Value.ref k_NoSaying) = false)
 (mr_NoKind_NoSum : W.mroIn K k_NoKind (.ref k_NoSum) = some false)
 (ne_NoKind_NoSum : (Value.ref k_NoKind == Value.ref k_NoSum) = false)
 (mr_NoKind_NoWay : W.mroIn K k_NoKind (.ref k_NoWay) = some false)
 (ne_NoKind_NoWay : (Value.ref k_NoKind == Value.ref k_NoWay) = false)
 (mr_NoKind_NotCome : W.mroIn K k_NoKind (.ref k_NotCome) = some false)
 (ne_NoKind_NotCome : (Value.ref k_NoKind == Value.ref k_NotCome) = false)
 (mr_NoKind_NotYet : W.mroIn K k_NoKind (.ref k_NotYet) = some false)
 (ne_NoKind_NotYet : (Value.ref k_NoKind == Value.ref k_NotYet) = false)
 (mr_NoKind_Nowhere : W.mroIn K k_NoKind (.ref k_Nowhere) = some false)
 (ne_NoKind_Nowhere : (Value.ref k_NoKind == Value.ref k_Nowhere) = false)
 (mr_NoKind_OutOfReach : W.mroIn K k_NoKind (.ref k_OutOfReach) = some false)
 (ne_NoKind_OutOfReach : (Value.ref k_NoKind == Value.ref k_OutOfReach) = false)
 (mr_NoKind_Ring : W.mroIn K k_NoKind (.ref k_Ring) = some false)
 (ne_NoKind_Ring : (Value.ref k_NoKind == Value.ref k_Ring) = false)
 (mr_NoKind_Twice : W.mroIn K k_NoKind (.ref k_Twice) = some false)
 (ne_NoKind_Twice : (Value.ref k_NoKind == Value.ref k_Twice) = false)
 (mr_NoKind_Unknown : W.mroIn K k_NoKind (.ref k_Unknown) = some false)
 (ne_NoKind_Unknown : (Value.ref k_NoKind == Value.ref k_Unknown) = false)
 (mr_NoKind_WrongKind : W.mroIn K k_NoKind (.ref k_WrongKind) = some false)
 (ne_NoKind_WrongKind : (Value.ref k_NoKind == Value.ref k_WrongKind) = false)
 (mr_YesNo_Whole : W.mroIn K k_YesNo (.ref k_Whole) = some false)
 (ne_YesNo_Whole : (Value.ref k_YesNo == Value.ref k_Whole) = false)
 (mr_YesNo_Money : W.mroIn K k_YesNo (.ref k_Money) = some false)
 (ne_YesNo_Money : (Value.ref k_YesNo == Value.ref k_Money) = false)
 (mr_YesNo_Pick : W.mroIn K k_YesNo (.ref k_Pick) = some false)
 (ne_YesNo_Pick : (Value.ref k_YesNo == Value.ref k_Pick) = false)
 (mr_YesNo_Names : W.mroIn K k_YesNo (.ref k_Names) = some false)
 (ne_YesNo_Names : (Value.ref k_YesNo == Value.ref k_Names) = false)
 (mr_Whole_YesNo : W.mroIn K k_Whole (.ref k_YesNo) = some false)
 (ne_Whole_YesNo : (Value.ref k_Whole == Value.ref k_YesNo) = false)
 (mr_Whole_Money : W.mroIn K k_Whole (.ref k_Money) = some false)
 (ne_Whole_Money : (Value.ref k_Whole == Value.ref k_Money) = false)
 (mr_Whole_Pick : W.mroIn K k_Whole (.ref k_Pick) = some false)
 (ne_Whole_Pick : (Value.ref k_Whole == Value.ref k_Pick) = false)
 (mr_Whole_Names : W.mroIn K k_Whole (.ref k_Names) = some false)
 (ne_Whole_Names : (Value.ref k_Whole == Value.ref k_Names) = false)
 (mr_Money_YesNo : W.mroIn K k_Money (.ref k_YesNo) = some false)
 (ne_Money_YesNo : (Value.ref k_Money == Value.ref k_YesNo) = false)
 (mr_Money_Whole : W.mroIn K k_Money (.ref k_Whole) = some true)
 (ne_Money_Whole : (Value.ref k_Money == Value.ref k_Whole) = false)
 (mr_Money_Pick : W.mroIn K k_Money (.ref k_Pick) = some false)
 (ne_Money_Pick : (Value.ref k_Money == Value.ref k_Pick) = false)
 (mr_Money_Names : W.mroIn K k_Money (.ref k_Names) = some false)
 (ne_Money_Names : (Value.ref k_Money == Value.ref k_Names) = false)
 (mr_Pick_YesNo : W.mroIn K k_Pick (.ref k_YesNo) = some false)
 (ne_Pick_YesNo : (Value.ref k_Pick == Value.ref k_YesNo) = false)
 (mr_Pick_Whole : W.mroIn K k_Pick (.ref k_Whole) = some false)
 (ne_Pick_Whole : (Value.ref k_Pick == Value.ref k_Whole) = false)
 (mr_Pick_Money : W.mroIn K k_Pick (.ref k_Money) = some false)
 (ne_Pick_Money : (Value.ref k_Pick == Value.ref k_Money) = false)
 (mr_Pick_Names : W.mroIn K k_Pick (.ref k_Names) = some false)
 (ne_Pick_Names : (Value.ref k_Pick == Value.ref k_Names) = false)
 (mr_Names_YesNo : W.mroIn K k_Names (.ref k_YesNo) = some false)
 (ne_Names_YesNo : (Value.ref k_Names == Value.ref k_YesNo) = false)
 (mr_Names_Whole : W.mroIn K k_Names (.ref k_Whole) = some false)
 (ne_Names_Whole : (Value.ref k_Names == Value.ref k_Whole) = false)
 (mr_Names_Money : W.mroIn K k_Names (.ref k_Money) = some false)
 (ne_Names_Money : (Value.ref k_Names == Value.ref k_Money) = false)
 (mr_Names_Pick : W.mroIn K k_Names (.ref k_Pick) = some false)
 (ne_Names_Pick : (Value.ref k_Names == Value.ref k_Pick) = false)
 (mr_YesNo_Kind : W.mroIn K k_YesNo (.ref k_Kind) = some true)
 (ne_YesNo_Kind : (Value.ref k_YesNo == Value.ref k_Kind) = false)
 (mr_Whole_Kind : W.mroIn K k_Whole (.ref k_Kind) = some true)
 (ne_Whole_Kind : (Value.ref k_Whole == Value.ref k_Kind) = false)
 (mr_Money_Kind : W.mroIn K k_Money (.ref k_Kind) = some true)
 (ne_Money_Kind : (Value.ref k_Money == Value.ref k_Kind) = false)
 (mr_Pick_Kind : W.mroIn K k_Pick (.ref k_Kind) = some true)
 (ne_Pick_Kind : (Value.ref k_Pick == Value.ref k_Kind) = false)
 (mr_Names_Kind : W.mroIn K k_Names (.ref k_Kind) = some true)
 (ne_Names_Kind : (Value.ref k_Names == Value.ref k_Kind) = false)
 (mt_NoKind_ValueError : W.mroIn K k_NoKind (.type "ValueError") = some true)
 (cpg_YesNo : W.plainGet K k_YesNo Str.empty = true)
 (chd_YesNo : W.hasDictIn K k_YesNo = true)
 (cpo_YesNo : W.plainOver K k_YesNo = true)
 (csa_YesNo : W.findIn K (.ref k_YesNo) "__setattr__" = some (some (.builtin "object.__setattr__")))
 (cha_YesNo : W.findIn K (.ref k_YesNo) "__class__" = some (some (.builtin "object.__class__")))
 (chn_YesNo : W.specialIn K (.builtin "object.__class__") "__get__" = some (some (.builtin "getset_descriptor.__get__")))
 (ctk_YesNo : W.takesIn K (.builtin "object.__class__") = some true)
 (cmo_YesNo : W.mroIn K k_YesNo (.type "object") = some true)
 (mkm_YesNo : W.makesIn K k_YesNo = true)
 (mki_YesNo : W.findIn K (.ref k_YesNo) "__init__" = some (some (.ref f11)))
 (mkf_YesNo : W.isFn K (.ref f11) = true)
 (mkk_YesNo : W.keepIn K (.ref k_YesNo) = true)
 (mea_YesNo_fits : W.findIn K (.ref k_YesNo) "fits" = some (some (.ref f12)))
 (mef_YesNo_fits : W.isFn K (.ref f12) = true)
 (mea_YesNo_answer_of : W.findIn K (.ref k_YesNo) "answer_of" = some (some (.ref f13)))
 (mef_YesNo_answer_of : W.isFn K (.ref f13) = true)
 (mea_YesNo_shown : W.findIn K (.ref k_YesNo) "shown" = some (some (.ref f14)))
 (mef_YesNo_shown : W.isFn K (.ref f14) = true)
 (mea_YesNo_rank : W.findIn K (.ref k_YesNo) "rank" = some (some (.ref f15)))
 (mef_YesNo_rank : W.isFn K (.ref f15) = true)
 (mea_YesNo_sample : W.findIn K (.ref k_YesNo) "sample" = some (some (.ref f16)))
 (mef_YesNo_sample : W.isFn K (.ref f16) = true)
 (mea_YesNo_read : W.findIn K (.ref k_YesNo) "read" = some (some (.ref f10)))
 (mef_YesNo_read : W.isFn K (.ref f10) = true)
 (mea_YesNo_told : W.findIn K (.ref k_YesNo) "told" = some (some (.ref f17)))
 (mef_YesNo_told : W.isFn K (.ref f17) = true)
 (noa_YesNo_low : W.findIn K (.ref k_YesNo) "low" = some none)
 (noa_YesNo_high : W.findIn K (.ref k_YesNo) "high" = some none)
 (cpg_Whole : W.plainGet K k_Whole Str.empty = true)
 (chd_Whole : W.hasDictIn K k_Whole = true)
 (cpo_Whole : W.plainOver K k_Whole = true)
 (csa_Whole : W.findIn K (.ref k_Whole) "__setattr__" = some (some (.builtin "object.__setattr__")))
 (cha_Whole : W.findIn K (.ref k_Whole) "__class__" = some (some (.builtin "object.__class__")))
 (chn_Whole : W.specialIn K (.builtin "object.__class__") "__get__" = some (some (.builtin "getset_descriptor.__get__")))
 (ctk_Whole : W.takesIn K (.builtin "object.__class__") = some true)
 (cmo_Whole : W.mroIn K k_Whole (.type "object") = some true)
 (mkm_Whole : W.makesIn K k_Whole = true)
 (mki_Whole : W.findIn K (.ref k_Whole) "__init__" = some (some (.ref f9)))
 (mkf_Whole : W.isFn K (.ref f9) = true)
 (mkk_Whole : W.keepIn K (.ref k_Whole) = true)
 (mea_Whole_fits : W.findIn K (.ref k_Whole) "fits" = some (some (.ref f18)))
 (mef_Whole_fits : W.isFn K (.ref f18) = true)
 (mea_Whole_answer_of : W.findIn K (.ref k_Whole) "answer_of" = some (some (.ref f19)))
 (mef_Whole_answer_of : W.isFn K (.ref f19) = true)
 (mea_Whole_shown : W.findIn K (.ref k_Whole) "shown" = some (some (.ref f20)))
 (mef_Whole_shown : W.isFn K (.ref f20) = true)
 (mea_Whole_rank : W.findIn K (.ref k_Whole) "rank" = some (some (.ref f21)))
 (mef_Whole_rank : W.isFn K (.ref f21) = true)
 (mea_Whole_sample : W.findIn K (.ref k_Whole) "sample" = some (some (.ref f22)))
 (mef_Whole_sample : W.isFn K (.ref f22) = true)
 (mea_Whole_read : W.findIn K (.ref k_Whole) "read" = some (some (.ref f10)))
 (mef_Whole_read : W.isFn K (.ref f10) = true)
 (mea_Whole_told : W.findIn K (.ref k_Whole) "told" = some (some (.ref f24)))
 (mef_Whole_told : W.isFn K (.ref f24) = true)
 (mea_Whole_bounds : W.findIn K (.ref k_Whole) "bounds" = some (some (.ref f23)))
 (mef_Whole_bounds : W.isFn K (.ref f23) = true)
 (noa_Whole_low : W.findIn K (.ref k_Whole) "low" = some none)
 (noa_Whole_high : W.findIn K (.ref k_Whole) "high" = some none)
 (cpg_Money : W.plainGet K k_Money Str.empty = true)
 (chd_Money : W.hasDictIn K k_Money = true)
 (cpo_Money : W.plainOver K k_Money = true)
 (csa_Money : W.findIn K (.ref k_Money) "__setattr__" = some (some (.builtin "object.__setattr__")))
 (cha_Money : W.findIn K (.ref k_Money) "__class__" = some (some (.builtin "object.__class__")))
 (chn_Money : W.specialIn K (.builtin "object.__class__") "__get__" = some (some (.builtin "getset_descriptor.__get__")))
 (ctk_Money : W.takesIn K (.builtin "object.__class__") = some true)
 (cmo_Money : W.mroIn K k_Money (.type "object") = some true)
 (mkm_Money : W.makesIn K k_Money = true)
 (mki_Money : W.findIn K (.ref k_Money) "__init__" = some (some (.ref f9)))
 (mkf_Money : W.isFn K (.ref f9) = true)
 (mkk_Money : W.keepIn K (.ref k_Money) = true)
 (mea_Money_fits : W.findIn K (.ref k_Money) "fits" = some (some (.ref f18)))
 (mef_Money_fits : W.isFn K (.ref f18) = true)
 (mea_Money_answer_of : W.findIn K (.ref k_Money) "answer_of" = some (some (.ref f25)))
 (mef_Money_answer_of : W.isFn K (.ref f25) = true)
 (mea_Money_shown : W.findIn K (.ref k_Money) "shown" = some (some (.ref f26)))
 (mef_Money_shown : W.isFn K (.ref f26) = true)
 (mea_Money_rank : W.findIn K (.ref k_Money) "rank" = some (some (.ref f21)))
 (mef_Money_rank : W.isFn K (.ref f21) = true)
 (mea_Money_sample : W.findIn K (.ref k_Money) "sample" = some (some (.ref f22)))
 (mef_Money_sample : W.isFn K (.ref f22) = true)
 (mea_Money_read : W.findIn K (.ref k_Money) "read" = some (some (.ref f10)))
 (mef_Money_read : W.isFn K (.ref f10) = true)
 (mea_Money_told : W.findIn K (.ref k_Money) "told" = some (some (.ref f27)))
 (mef_Money_told : W.isFn K (.ref f27) = true)
 (mea_Money_bounds : W.findIn K (.ref k_Money) "bounds" = some (some (.ref f23)))
 (mef_Money_bounds : W.isFn K (.ref f23) = true)
 (noa_Money_low : W.findIn K (.ref k_Money) "low" = some none)
 (noa_Money_high : W.findIn K (.ref k_Money) "high" = some none)
 (cpg_Pick : W.plainGet K k_Pick Str.empty = true)
 (chd_Pick : W.hasDictIn K k_Pick = true)
 (cpo_Pick : W.plainOver K k_Pick = true)
 (csa_Pick : W.findIn K (.ref k_Pick) "__setattr__" = some (some (.builtin "object.__setattr__")))
 (cha_Pick : W.findIn K (.ref k_Pick) "__class__" = some (some (.builtin "object.__class__")))
 (chn_Pick : W.specialIn K (.builtin "object.__class__") "__get__" = some (some (.builtin "getset_descriptor.__get__")))
 (ctk_Pick : W.takesIn K (.builtin "object.__class__") = some true)
 (cmo_Pick : W.mroIn K k_Pick (.type "object") = some true)
 (mkm_Pick : W.makesIn K k_Pick = true)
 (mki_Pick : W.findIn K (.ref k_Pick) "__init__" = some (some (.ref f28)))
 (mkf_Pick : W.isFn K (.ref f28) = true)
 (mkk_Pick : W.keepIn K (.ref k_Pick) = true)
 (mea_Pick_fits : W.findIn K (.ref k_Pick) "fits" = some (some (.ref f29)))
 (mef_Pick_fits : W.isFn K (.ref f29) = true)
 (mea_Pick_answer_of : W.findIn K (.ref k_Pick) "answer_of" = some (some (.ref f30)))
 (mef_Pick_answer_of : W.isFn K (.ref f30) = true)
 (mea_Pick_shown : W.findIn K (.ref k_Pick) "shown" = some (some (.ref f31)))
 (mef_Pick_shown : W.isFn K (.ref f31) = true)
 (mea_Pick_rank : W.findIn K (.ref k_Pick) "rank" = some (some (.ref f32)))
 (mef_Pick_rank : W.isFn K (.ref f32) = true)
 (mea_Pick_sample : W.findIn K (.ref k_Pick) "sample" = some (some (.ref f33)))
 (mef_Pick_sample : W.isFn K (.ref f33) = true)
 (mea_Pick_read : W.findIn K (.ref k_Pick) "read" = some (some (.ref f10)))
 (mef_Pick_read : W.isFn K (.ref f10) = true)
 (mea_Pick_told : W.findIn K (.ref k_Pick) "told" = some (some (.ref f34)))
 (mef_Pick_told : W.isFn K (.ref f34) = true)
 (noa_Pick_low : W.findIn K (.ref k_Pick) "low" = some none)
 (noa_Pick_high : W.findIn K (.ref k_Pick) "high" = some none)
 (noa_Pick_words : W.findIn K (.ref k_Pick) "words" = some none)
 (cpg_Names : W.plainGet K k_Names Str.empty = true)
 (chd_Names : W.hasDictIn K k_Names = true)
 (cpo_Names : W.plainOver K k_Names = true)
 (csa_Names : W.findIn K (.ref k_Names) "__setattr__" = some (some (.builtin "object.__setattr__")))
 (cha_Names : W.findIn K (.ref k_Names) "__class__" = some (some (.builtin "object.__class__")))
 (chn_Names : W.specialIn K (.builtin "object.__class__") "__get__" = some (some (.builtin "getset_descriptor.__get__")))
 (ctk_Names : W.takesIn K (.builtin "object.__class__") = some true)
 (cmo_Names : W.mroIn K k_Names (.type "object") = some true)
 (mkm_Names : W.makesIn K k_Names = true)
 (mki_Names : W.findIn K (.ref k_Names) "__init__" = some (some (.ref f35)))
 (mkf_Names : W.isFn K (.ref f35) = true)
 (mkk_Names : W.keepIn K (.ref k_Names) = true)
 (mea_Names_fits : W.findIn K (.ref k_Names) "fits" = some (some (.ref f36)))
 (mef_Names_fits : W.isFn K (.ref f36) = true)
 (mea_Names_answer_of : W.findIn K (.ref k_Names) "answer_of" = some (some (.ref f37)))
 (mef_Names_answer_of : W.isFn K (.ref f37) = true)
 (mea_Names_shown : W.findIn K (.ref k_Names) "shown" = some (some (.ref f38)))
 (mef_Names_shown : W.isFn K (.ref f38) = true)
 (mea_Names_rank : W.findIn K (.ref k_Names) "rank" = some (some (.ref f39)))
 (mef_Names_rank : W.isFn K (.ref f39) = true)
 (mea_Names_sample : W.findIn K (.ref k_Names) "sample" = some (some (.ref f40)))
 (mef_Names_sample : W.isFn K (.ref f40) = true)
 (mea_Names_read : W.findIn K (.ref k_Names) "read" = some (some (.ref f10)))
 (mef_Names_read : W.isFn K (.ref f10) = true)
 (mea_Names_told : W.findIn K (.ref k_Names) "told" = some (some (.ref f41)))
 (mef_Names_told : W.isFn K (.ref f41) = true)
 (noa_Names_low : W.findIn K (.ref k_Names) "low" = some none)
 (noa_Names_high : W.findIn K (.ref k_Names) "high" = some none)
 (cfr_Kind_init : W.readsIn K k_Kind (.type "type") = true)
 (cfa_Kind_init : W.findCls K (.ref k_Kind) (.type "type") "__init__" = some (.val (.ref f9)))
 (cfs_Kind_init : W.specialIn K (.ref k_Kind) "__getattribute__" = some (some (.builtin "type.__getattribute__"))) :
 ∃ A : Adr, Txt K mg A :=
 ⟨⟨f0,
   W.fnOf "is_whole" "is_whole" (defArgs s_is_whole) (defBody s_is_whole) (defScope s_is_whole) .none kV0 dc0 pm0 an0 cd0 ct0,
   f1,
   W.fnOf "is_name" "is_name" (defArgs s_is_name) (defBody s_is_name) (defScope s_is_name) .none kV1 dc1 pm1 an1 cd1 ct1,
   f2,
   W.fnOf "are_unlike_names" "are_unlike_names" (defArgs s_are_unlike_names) (defBody s_are_unlike_names) (defScope s_are_unlike_names) .none kV2 dc2 pm2 an2 cd2 ct2,
   f3,
   W.fnOf "are_figures" "are_figures" (defArgs s_are_figures) (defBody s_are_figures) (defScope s_are_figures) .none kV3 dc3 pm3 an3 cd3 ct3,
   f4,
   W.fnOf "figures_worth" "figures_worth" (defArgs s_figures_worth) (defBody s_figures_worth) (defScope s_figures_worth) .none kV4 dc4 pm4 an4 cd4 ct4,
   f5,
   W.fnOf "number_of" "number_of" (defArgs s_number_of) (defBody s_number_of) (defScope s_number_of) (.ref dT5) kV5 dc5 pm5 an5 cd5 ct5,
   [(.int 60 dt5_0)],
   f6,
   W.fnOf "number_or_none" "number_or_none" (defArgs s_number_or_none) (defBody s_number_or_none) (defScope s_number_or_none) .none kV6 dc6 pm6 an6 cd6 ct6,
   f7,
   W.fnOf "money_shown" "money_shown" (defArgs s_money_shown) (defBody s_money_shown) (defScope s_money_shown) .none kV7 dc7 pm7 an7 cd7 ct7,
   f8,
   W.fnOf "money_or_none" "money_or_none" (defArgs s_money_or_none) (defBody s_money_or_none) (defScope s_money_or_none) .none kV8 dc8 pm8 an8 cd8 ct8,
   f9,
   W.fnOf "__init__" "Kind.__init__" (defArgs s_c_Kind___init) (defBody s_c_Kind___init) (defScope s_c_Kind___init) .none kV9 dc9 pm9 an9 cd9 ct9,
   f10,
   W.fnOf "read" "Kind.read" (defArgs s_c_Kind_read) (defBody s_c_Kind_read) (defScope s_c_Kind_read) .none kV10 dc10 pm10 an10 cd10 ct10,
   f11,
   W.fnOf "__init__" "YesNo.__init__" (defArgs s_c_YesNo___init) (defBody s_c_YesNo___init) (defScope s_c_YesNo___init) .none kV11 dc11 pm11 an11 cd11 ct11,
   f12,
   W.fnOf "fits" "YesNo.fits" (defArgs s_c_YesNo_fits) (defBody s_c_YesNo_fits) (defScope s_c_YesNo_fits) .none kV12 dc12 pm12 an12 cd12 ct12,
   f13,
   W.fnOf "answer_of" "YesNo.answer_of" (defArgs s_c_YesNo_answer_of) (defBody s_c_YesNo_answer_of) (defScope s_c_YesNo_answer_of) .none kV13 dc13 pm13 an13 cd13 ct13,
   f14,
   W.fnOf "shown" "YesNo.shown" (defArgs s_c_YesNo_shown) (defBody s_c_YesNo_shown) (defScope s_c_YesNo_shown) .none kV14 dc14 pm14 an14 cd14 ct14,
   f15,
   W.fnOf "rank" "YesNo.rank" (defArgs s_c_YesNo_rank) (defBody s_c_YesNo_rank) (defScope s_c_YesNo_rank) .none kV15 dc15 pm15 an15 cd15 ct15,
   f16,
   W.fnOf "sample" "YesNo.sample" (defArgs s_c_YesNo_sample) (defBody s_c_YesNo_sample) (defScope s_c_YesNo_sample) .none kV16 dc16 pm16 an16 cd16 ct16,
   f17,
   W.fnOf "told" "YesNo.told" (defArgs s_c_YesNo_told) (defBody s_c_YesNo_told) (defScope s_c_YesNo_told) .none kV17 dc17 pm17 an17 cd17 ct17,
   f18,
   W.fnOf "fits" "Whole.fits" (defArgs s_c_Whole_fits) (defBody s_c_Whole_fits) (defScope s_c_Whole_fits) .none kV18 dc18 pm18 an18 cd18 ct18,
   f19,
   W.fnOf "answer_of" "Whole.answer_of" (defArgs s_c_Whole_answer_of) (defBody s_c_Whole_answer_of) (defScope s_c_Whole_answer_of) .none kV19 dc19 pm19 an19 cd19 ct19,
   f20,
   W.fnOf "shown" "Whole.shown" (defArgs s_c_Whole_shown) (defBody s_c_Whole_shown) (defScope s_c_Whole_shown) .none kV20 dc20 pm20 an20 cd20 ct20,
   f21,
   W.fnOf "rank" "Whole.rank" (defArgs s_c_Whole_rank) (defBody s_c_Whole_rank) (defScope s_c_Whole_rank) .none kV21 dc21 pm21 an21 cd21 ct21,
   f22,
   W.fnOf "sample" "Whole.sample" (defArgs s_c_Whole_sample) (defBody s_c_Whole_sample) (defScope s_c_Whole_sample) .none kV22 dc22 pm22 an22 cd22 ct22,
   f23,
   W.fnOf "bounds" "Whole.bounds" (defArgs s_c_Whole_bounds) (defBody s_c_Whole_bounds) (defScope s_c_Whole_bounds) .none kV23 dc23 pm23 an23 cd23 ct23,
   f24,
   W.fnOf "told" "Whole.told" (defArgs s_c_Whole_told) (defBody s_c_Whole_told) (defScope s_c_Whole_told) .none kV24 dc24 pm24 an24 cd24 ct24,
   f25,
   W.fnOf "answer_of" "Money.answer_of" (defArgs s_c_Money_answer_of) (defBody s_c_Money_answer_of) (defScope s_c_Money_answer_of) .none kV25 dc25 pm25 an25 cd25 ct25,
   f26,
   W.fnOf "shown" "Money.shown" (defArgs s_c_Money_shown) (defBody s_c_Money_shown) (defScope s_c_Money_shown) .none kV26 dc26 pm26 an26 cd26 ct26,
   f27,
   W.fnOf "told" "Money.told" (defArgs s_c_Money_told) (defBody s_c_Money_told) (defScope s_c_Money_told) .none kV27 dc27 pm27 an27 cd27 ct27,
   f28,
   W.fnOf "__init__" "Pick.__init__" (defArgs s_c_Pick___init) (defBody s_c_Pick___init) (defScope s_c_Pick___init) .none kV28 dc28 pm28 an28 cd28 ct28,
   f29,
   W.fnOf "fits" "Pick.fits" (defArgs s_c_Pick_fits) (defBody s_c_Pick_fits) (defScope s_c_Pick_fits) .none kV29 dc29 pm29 an29 cd29 ct29,
   f30,
   W.fnOf "answer_of" "Pick.answer_of" (defArgs s_c_Pick_answer_of) (defBody s_c_Pick_answer_of) (defScope s_c_Pick_answer_of) .none kV30 dc30 pm30 an30 cd30 ct30,
   f31,
   W.fnOf "shown" "Pick.shown" (defArgs s_c_Pick_shown) (defBody s_c_Pick_shown) (defScope s_c_Pick_shown) .none kV31 dc31 pm31 an31 cd31 ct31,
   f32,
   W.fnOf "rank" "Pick.rank" (defArgs s_c_Pick_rank) (defBody s_c_Pick_rank) (defScope s_c_Pick_rank) .none kV32 dc32 pm32 an32 cd32 ct32,
   f33,
   W.fnOf "sample" "Pick.sample" (defArgs s_c_Pick_sample) (defBody s_c_Pick_sample) (defScope s_c_Pick_sample) .none kV33 dc33 pm33 an33 cd33 ct33,
   f34,
   W.fnOf "told" "Pick.told" (defArgs s_c_Pick_told) (defBody s_c_Pick_told) (defScope s_c_Pick_told) .none kV34 dc34 pm34 an34 cd34 ct34,
   f35,
   W.fnOf "__init__" "Names.__init__" (defArgs s_c_Names___init) (defBody s_c_Names___init) (defScope s_c_Names___init) (.ref dT35) kV35 dc35 pm35 an35 cd35 ct35,
   [(.int 3 dt35_0)],
   f36,
   W.fnOf "fits" "Names.fits" (defArgs s_c_Names_fits) (defBody s_c_Names_fits) (defScope s_c_Names_fits) .none kV36 dc36 pm36 an36 cd36 ct36,
   f37,
   W.fnOf "answer_of" "Names.answer_of" (defArgs s_c_Names_answer_of) (defBody s_c_Names_answer_of) (defScope s_c_Names_answer_of) .none kV37 dc37 pm37 an37 cd37 ct37,
   f38,
   W.fnOf "shown" "Names.shown" (defArgs s_c_Names_shown) (defBody s_c_Names_shown) (defScope s_c_Names_shown) .none kV38 dc38 pm38 an38 cd38 ct38,
   f39,
   W.fnOf "rank" "Names.rank" (defArgs s_c_Names_rank) (defBody s_c_Names_rank) (defScope s_c_Names_rank) .none kV39 dc39 pm39 an39 cd39 ct39,
   f40,
   W.fnOf "sample" "Names.sample" (defArgs s_c_Names_sample) (defBody s_c_Names_sample) (defScope s_c_Names_sample) .none kV40 dc40 pm40 an40 cd40 ct40,
   f41,
   W.fnOf "told" "Names.told" (defArgs s_c_Names_told) (defBody s_c_Names_told) (defScope s_c_Names_told) .none kV41 dc41 pm41 an41 cd41 ct41,
   f42,
   W.fnOf "are_bounds" "are_bounds" (defArgs s_are_bounds) (defBody s_are_bounds) (defScope s_are_bounds) .none kV42 dc42 pm42 an42 cd42 ct42,
   f43,
   W.fnOf "whole_or_none" "whole_or_none" (defArgs s_whole_or_none) (defBody s_whole_or_none) (defScope s_whole_or_none) .none kV43 dc43 pm43 an43 cd43 ct43,
   f44,
   W.fnOf "money_kind_or_none" "money_kind_or_none" (defArgs s_money_kind_or_none) (defBody s_money_kind_or_none) (defScope s_money_kind_or_none) .none kV44 dc44 pm44 an44 cd44 ct44,
   f45,
   W.fnOf "pick_or_none" "pick_or_none" (defArgs s_pick_or_none) (defBody s_pick_or_none) (defScope s_pick_or_none) .none kV45 dc45 pm45 an45 cd45 ct45,
   f46,
   W.fnOf "names_or_none" "names_or_none" (defArgs s_names_or_none) (defBody s_names_or_none) (defScope s_names_or_none) .none kV46 dc46 pm46 an46 cd46 ct46,
   f47,
   W.fnOf "kind_or_none" "kind_or_none" (defArgs s_kind_or_none) (defBody s_kind_or_none) (defScope s_kind_or_none) .none kV47 dc47 pm47 an47 cd47 ct47,
   f48,
   W.fnOf "kind_of" "kind_of" (defArgs s_kind_of) (defBody s_kind_of) (defScope s_kind_of) .none kV48 dc48 pm48 an48 cd48 ct48,
   f49,
   W.fnOf "_law_whole" "_law_whole" (defArgs s_law_whole) (defBody s_law_whole) (defScope s_law_whole) .none kV49 dc49 pm49 an49 cd49 ct49,
   f50,
   W.fnOf "_law_letter" "_law_letter" (defArgs s_law_letter) (defBody s_law_letter) (defScope s_law_letter) .none kV50 dc50 pm50 an50 cd50 ct50,
   f51,
   W.fnOf "_law_wide" "_law_wide" (defArgs s_law_wide) (defBody s_law_wide) (defScope s_law_wide) .none kV51 dc51 pm51 an51 cd51 ct51,
   f52,
   W.fnOf "_law_low" "_law_low" (defArgs s_law_low) (defBody s_law_low) (defScope s_law_low) .none kV52 dc52 pm52 an52 cd52 ct52,
   f53,
   W.fnOf "_law_size" "_law_size" (defArgs s_law_size) (defBody s_law_size) (defScope s_law_size) .none kV53 dc53 pm53 an53 cd53 ct53,
   f54,
   W.fnOf "_law_money" "_law_money" (defArgs s_law_money) (defBody s_law_money) (defScope s_law_money) .none kV54 dc54 pm54 an54 cd54 ct54,
   f55,
   W.fnOf "_law_words" "_law_words" (defArgs s_law_words) (defBody s_law_words) (defScope s_law_words) .none kV55 dc55 pm55 an55 cd55 ct55,
   f56,
   W.fnOf "_law_numbers" "_law_numbers" (defArgs s_law_numbers) (defBody s_law_numbers) (defScope s_law_numbers) .none kV56 dc56 pm56 an56 cd56 ct56,
   f57,
   W.fnOf "_law_good" "_law_good" (defArgs s_law_good) (defBody s_law_good) (defScope s_law_good) .none kV57 dc57 pm57 an57 cd57 ct57,
   f58,
   W.fnOf "_law_odd" "_law_odd" (defArgs s_law_odd) (defBody s_law_odd) (defScope s_law_odd) .none kV58 dc58 pm58 an58 cd58 ct58,
   f59,
   W.fnOf "_law_bad" "_law_bad" (defArgs s_law_bad) (defBody s_law_bad) (defScope s_law_bad) .none kV59 dc59 pm59 an59 cd59 ct59,
   f60,
   W.fnOf "_law_only" "_law_only" (defArgs s_law_only) (defBody s_law_only) (defScope s_law_only) .none kV60 dc60 pm60 an60 cd60 ct60,
   f61,
   W.fnOf "_law_refused" "_law_refused" (defArgs s_law_refused) (defBody s_law_refused) (defScope s_law_refused) .none kV61 dc61 pm61 an61 cd61 ct61,
   f62,
   W.fnOf "_law_sample" "_law_sample" (defArgs s_law_sample) (defBody s_law_sample) (defScope s_law_sample) .none kV62 dc62 pm62 an62 cd62 ct62,
   f63,
   W.fnOf "_law_told" "_law_told" (defArgs s_law_told) (defBody s_law_told) (defScope s_law_told) .none kV63 dc63 pm63 an63 cd63 ct63,
   f64,
   W.fnOf "law" "law" (defArgs s_law) (defBody s_law) (defScope s_law) .none kV64 dc64 pm64 an64 cd64 ct64,
   ga7,
   ga8,
   ga9,
   k_AskError,
   k_Kind,
   k_Money,
   k_Names,
   k_NoAnswer,
   k_NoKind,
   k_NoLeft,
   k_NoLine,
   k_NoNumber,
   k_NoRow,
   k_NoSay,
   k_NoSaying,
   k_NoSum,
   k_NoWay,
   k_NotCome,
   k_NotYet,
   k_Nowhere,
   k_OutOfReach,
   k_Pick,
   k_Ring,
   k_Twice,
   k_Unknown,
   k_Whole,
   k_WrongKind,
   k_YesNo⟩, ⟨fun_mk (st := s_is_whole) l0 c0 k0,
   (fun_mk (st := s_is_whole) l0 c0 k0).binds (ps := ["thing"]) (fun _ _ _ _ _ _ us hl => match us, hl with | [_], _ => rfl),
   k0,
   W.mg_of X G a0,
   fun_mk (st := s_is_name) l1 c1 k1,
   (fun_mk (st := s_is_name) l1 c1 k1).binds (ps := ["thing"]) (fun _ _ _ _ _ _ us hl => match us, hl with | [_], _ => rfl),
   k1,
   W.mg_of X G a1,
   fun_mk (st := s_are_unlike_names) l2 c2 k2,
   (fun_mk (st := s_are_unlike_names) l2 c2 k2).binds (ps := ["words"]) (fun _ _ _ _ _ _ us hl => match us, hl with | [_], _ => rfl),
   k2,
   W.mg_of X G a2,
   fun_mk (st := s_are_figures) l3 c3 k3,
   (fun_mk (st := s_are_figures) l3 c3 k3).binds (ps := ["text"]) (fun _ _ _ _ _ _ us hl => match us, hl with | [_], _ => rfl),
   k3,
   W.mg_of X G a3,
   fun_mk (st := s_figures_worth) l4 c4 k4,
   (fun_mk (st := s_figures_worth) l4 c4 k4).binds (ps := ["figures"]) (fun _ _ _ _ _ _ us hl => match us, hl with | [_], _ => rfl),
   k4,
   W.mg_of X G a4,
   (funD_mk (st := s_number_of) l5 c5 k5 dl5),
   (funD_mk (st := s_number_of) l5 c5 k5 dl5).binds (es := []) (fun T _ _ _ _ _ _ us M A E Q s to n ht hc hd hl hq => match us, hl with | [_, _], _ => BindsTo.of_defaults rfl ht hd rfl rfl M A E Q hq),
   (funD_mk (st := s_number_of) l5 c5 k5 dl5).binds (fun T _ _ _ _ _ _ us M A E Q s to n ht hc hd hl hq => match us, app_len (m := 1) hl rfl with | [_], _ => BindsTo.of_defaults rfl ht hd rfl rfl M A E Q hq),
   .cons ⟨_, rfl⟩ (.nil),
   k5,
   W.mg_of X G a5,
   fun_mk (st := s_number_or_none) l6 c6 k6,
   (fun_mk (st := s_number_or_none) l6 c6 k6).binds (ps := ["text"]) (fun _ _ _ _ _ _ us hl => match us, hl with | [_], _ => rfl),
   k6,
   W.mg_of X G a6,
   fun_mk (st := s_money_shown) l7 c7 k7,
   (fun_mk (st := s_money_shown) l7 c7 k7).binds (ps := ["hundredths"]) (fun _ _ _ _ _ _ us hl => match us, hl with | [_], _ => rfl),
   k7,
   W.mg_of X G a7,
   fun_mk (st := s_money_or_none) l8 c8 k8,
   (fun_mk (st := s_money_or_none) l8 c8 k8).binds (ps := ["text"]) (fun _ _ _ _ _ _ us hl => match us, hl with | [_], _ => rfl),
   k8,
   W.mg_of X G a8,
   fun_mk (st := s_c_Kind___init) l9 c9 k9,
   (fun_mk (st := s_c_Kind___init) l9 c9 k9).binds (ps := ["self", "low", "high"]) (fun _ _ _ _ _ _ us hl => match us, hl with | [_, _, _], _ => rfl),
   k9,
   fun_mk (st := s_c_Kind_read) l10 c10 k10,
   (fun_mk (st := s_c_Kind_read) l10 c10 k10).binds (ps := ["self", "text"]) (fun _ _ _ _ _ _ us hl => match us, hl with | [_, _], _ => rfl),
   k10,
   fun_mk (st := s_c_YesNo___init) l11 c11 k11,
   (fun_mk (st := s_c_YesNo___init) l11 c11 k11).binds (ps := ["self"]) (fun _ _ _ _ _ _ us hl => match us, hl with | [_], _ => rfl),
   k11,
   fun_mk (st := s_c_YesNo_fits) l12 c12 k12,
   (fun_mk (st := s_c_YesNo_fits) l12 c12 k12).binds (ps := ["self", "thing"]) (fun _ _ _ _ _ _ us hl => match us, hl with | [_, _], _ => rfl),
   k12,
   fun_mk (st := s_c_YesNo_answer_of) l13 c13 k13,
   (fun_mk (st := s_c_YesNo_answer_of) l13 c13 k13).binds (ps := ["self", "text"]) (fun _ _ _ _ _ _ us hl => match us, hl with | [_, _], _ => rfl),
   k13,
   fun_mk (st := s_c_YesNo_shown) l14 c14 k14,
   (fun_mk (st := s_c_YesNo_shown) l14 c14 k14).binds (ps := ["self", "answer"]) (fun _ _ _ _ _ _ us hl => match us, hl with | [_, _], _ => rfl),
   k14,
   fun_mk (st := s_c_YesNo_rank) l15 c15 k15,
   (fun_mk (st := s_c_YesNo_rank) l15 c15 k15).binds (ps := ["self", "answer"]) (fun _ _ _ _ _ _ us hl => match us, hl with | [_, _], _ => rfl),
   k15,
   fun_mk (st := s_c_YesNo_sample) l16 c16 k16,
   (fun_mk (st := s_c_YesNo_sample) l16 c16 k16).binds (ps := ["self", "rank"]) (fun _ _ _ _ _ _ us hl => match us, hl with | [_, _], _ => rfl),
   k16,
   fun_mk (st := s_c_YesNo_told) l17 c17 k17,
   (fun_mk (st := s_c_YesNo_told) l17 c17 k17).binds (ps := ["self"]) (fun _ _ _ _ _ _ us hl => match us, hl with | [_], _ => rfl),
   k17,
   fun_mk (st := s_c_Whole_fits) l18 c18 k18,
   (fun_mk (st := s_c_Whole_fits) l18 c18 k18).binds (ps := ["self", "thing"]) (fun _ _ _ _ _ _ us hl => match us, hl with | [_, _], _ => rfl),
   k18,
   fun_mk (st := s_c_Whole_answer_of) l19 c19 k19,
   (fun_mk (st := s_c_Whole_answer_of) l19 c19 k19).binds (ps := ["self", "text"]) (fun _ _ _ _ _ _ us hl => match us, hl with | [_, _], _ => rfl),
   k19,
   fun_mk (st := s_c_Whole_shown) l20 c20 k20,
   (fun_mk (st := s_c_Whole_shown) l20 c20 k20).binds (ps := ["self", "answer"]) (fun _ _ _ _ _ _ us hl => match us, hl with | [_, _], _ => rfl),
   k20,
   fun_mk (st := s_c_Whole_rank) l21 c21 k21,
   (fun_mk (st := s_c_Whole_rank) l21 c21 k21).binds (ps := ["self", "answer"]) (fun _ _ _ _ _ _ us hl => match us, hl with | [_, _], _ => rfl),
   k21,
   fun_mk (st := s_c_Whole_sample) l22 c22 k22,
   (fun_mk (st := s_c_Whole_sample) l22 c22 k22).binds (ps := ["self", "rank"]) (fun _ _ _ _ _ _ us hl => match us, hl with | [_, _], _ => rfl),
   k22,
   fun_mk (st := s_c_Whole_bounds) l23 c23 k23,
   (fun_mk (st := s_c_Whole_bounds) l23 c23 k23).binds (ps := ["self"]) (fun _ _ _ _ _ _ us hl => match us, hl with | [_], _ => rfl),
   k23,
   fun_mk (st := s_c_Whole_told) l24 c24 k24,
   (fun_mk (st := s_c_Whole_told) l24 c24 k24).binds (ps := ["self"]) (fun _ _ _ _ _ _ us hl => match us, hl with | [_], _ => rfl),
   k24,
   fun_mk (st := s_c_Money_answer_of) l25 c25 k25,
   (fun_mk (st := s_c_Money_answer_of) l25 c25 k25).binds (ps := ["self", "text"]) (fun _ _ _ _ _ _ us hl => match us, hl with | [_, _], _ => rfl),
   k25,
   fun_mk (st := s_c_Money_shown) l26 c26 k26,
   (fun_mk (st := s_c_Money_shown) l26 c26 k26).binds (ps := ["self", "answer"]) (fun _ _ _ _ _ _ us hl => match us, hl with | [_, _], _ => rfl),
   k26,
   fun_mk (st := s_c_Money_told) l27 c27 k27,
   (fun_mk (st := s_c_Money_told) l27 c27 k27).binds (ps := ["self"]) (fun _ _ _ _ _ _ us hl => match us, hl with | [_], _ => rfl),
   k27,
   fun_mk (st := s_c_Pick___init) l28 c28 k28,
   (fun_mk (st := s_c_Pick___init) l28 c28 k28).binds (ps := ["self", "words"]) (fun _ _ _ _ _ _ us hl => match us, hl with | [_, _], _ => rfl),
   k28,
   fun_mk (st := s_c_Pick_fits) l29 c29 k29,
   (fun_mk (st := s_c_Pick_fits) l29 c29 k29).binds (ps := ["self", "thing"]) (fun _ _ _ _ _ _ us hl => match us, hl with | [_, _], _ => rfl),
   k29,
   fun_mk (st := s_c_Pick_answer_of) l30 c30 k30,
   (fun_mk (st := s_c_Pick_answer_of) l30 c30 k30).binds (ps := ["self", "text"]) (fun _ _ _ _ _ _ us hl => match us, hl with | [_, _], _ => rfl),
   k30,
   fun_mk (st := s_c_Pick_shown) l31 c31 k31,
   (fun_mk (st := s_c_Pick_shown) l31 c31 k31).binds (ps := ["self", "answer"]) (fun _ _ _ _ _ _ us hl => match us, hl with | [_, _], _ => rfl),
   k31,
   fun_mk (st := s_c_Pick_rank) l32 c32 k32,
   (fun_mk (st := s_c_Pick_rank) l32 c32 k32).binds (ps := ["self", "answer"]) (fun _ _ _ _ _ _ us hl => match us, hl with | [_, _], _ => rfl),
   k32,
   fun_mk (st := s_c_Pick_sample) l33 c33 k33,
   (fun_mk (st := s_c_Pick_sample) l33 c33 k33).binds (ps := ["self", "rank"]) (fun _ _ _ _ _ _ us hl => match us, hl with | [_, _], _ => rfl),
   k33,
   fun_mk (st := s_c_Pick_told) l34 c34 k34,
   (fun_mk (st := s_c_Pick_told) l34 c34 k34).binds (ps := ["self"]) (fun _ _ _ _ _ _ us hl => match us, hl with | [_], _ => rfl),
   k34,
   (funD_mk (st := s_c_Names___init) l35 c35 k35 dl35),
   (funD_mk (st := s_c_Names___init) l35 c35 k35 dl35).binds (es := []) (fun T _ _ _ _ _ _ us M A E Q s to n ht hc hd hl hq => match us, hl with | [_, _], _ => BindsTo.of_defaults rfl ht hd rfl rfl M A E Q hq),
   (funD_mk (st := s_c_Names___init) l35 c35 k35 dl35).binds (fun T _ _ _ _ _ _ us M A E Q s to n ht hc hd hl hq => match us, app_len (m := 1) hl rfl with | [_], _ => BindsTo.of_defaults rfl ht hd rfl rfl M A E Q hq),
   .cons ⟨_, rfl⟩ (.nil),
   k35,
   fun_mk (st := s_c_Names_fits) l36 c36 k36,
   (fun_mk (st := s_c_Names_fits) l36 c36 k36).binds (ps := ["self", "thing"]) (fun _ _ _ _ _ _ us hl => match us, hl with | [_, _], _ => rfl),
   k36,
   fun_mk (st := s_c_Names_answer_of) l37 c37 k37,
   (fun_mk (st := s_c_Names_answer_of) l37 c37 k37).binds (ps := ["self", "text"]) (fun _ _ _ _ _ _ us hl => match us, hl with | [_, _], _ => rfl),
   k37,
   fun_mk (st := s_c_Names_shown) l38 c38 k38,
   (fun_mk (st := s_c_Names_shown) l38 c38 k38).binds (ps := ["self", "answer"]) (fun _ _ _ _ _ _ us hl => match us, hl with | [_, _], _ => rfl),
   k38,
   fun_mk (st := s_c_Names_rank) l39 c39 k39,
   (fun_mk (st := s_c_Names_rank) l39 c39 k39).binds (ps := ["self", "answer"]) (fun _ _ _ _ _ _ us hl => match us, hl with | [_, _], _ => rfl),
   k39,
   fun_mk (st := s_c_Names_sample) l40 c40 k40,
   (fun_mk (st := s_c_Names_sample) l40 c40 k40).binds (ps := ["self", "rank"]) (fun _ _ _ _ _ _ us hl => match us, hl with | [_, _], _ => rfl),
   k40,
   fun_mk (st := s_c_Names_told) l41 c41 k41,
   (fun_mk (st := s_c_Names_told) l41 c41 k41).binds (ps := ["self"]) (fun _ _ _ _ _ _ us hl => match us, hl with | [_], _ => rfl),
   k41,
   fun_mk (st := s_are_bounds) l42 c42 k42,
   (fun_mk (st := s_are_bounds) l42 c42 k42).binds (ps := ["numbers"]) (fun _ _ _ _ _ _ us hl => match us, hl with | [_], _ => rfl),
   k42,
   W.mg_of X G a42,
   fun_mk (st := s_whole_or_none) l43 c43 k43,
   (fun_mk (st := s_whole_or_none) l43 c43 k43).binds (ps := ["words"]) (fun _ _ _ _ _ _ us hl => match us, hl with | [_], _ => rfl),
   k43,
   W.mg_of X G a43,
   fun_mk (st := s_money_kind_or_none) l44 c44 k44,
   (fun_mk (st := s_money_kind_or_none) l44 c44 k44).binds (ps := ["words"]) (fun _ _ _ _ _ _ us hl => match us, hl with | [_], _ => rfl),
   k44,
   W.mg_of X G a44,
   fun_mk (st := s_pick_or_none) l45 c45 k45,
   (fun_mk (st := s_pick_or_none) l45 c45 k45).binds (ps := ["words"]) (fun _ _ _ _ _ _ us hl => match us, hl with | [_], _ => rfl),
   k45,
   W.mg_of X G a45,
   fun_mk (st := s_names_or_none) l46 c46 k46,
   (fun_mk (st := s_names_or_none) l46 c46 k46).binds (ps := ["words"]) (fun _ _ _ _ _ _ us hl => match us, hl with | [_], _ => rfl),
   k46,
   W.mg_of X G a46,
   fun_mk (st := s_kind_or_none) l47 c47 k47,
   (fun_mk (st := s_kind_or_none) l47 c47 k47).binds (ps := ["first", "words"]) (fun _ _ _ _ _ _ us hl => match us, hl with | [_, _], _ => rfl),
   k47,
   W.mg_of X G a47,
   fun_mk (st := s_kind_of) l48 c48 k48,
   (fun_mk (st := s_kind_of) l48 c48 k48).binds (ps := ["text"]) (fun _ _ _ _ _ _ us hl => match us, hl with | [_], _ => rfl),
   k48,
   W.mg_of X G a48,
   fun_mk (st := s_law_whole) l49 c49 k49,
   (fun_mk (st := s_law_whole) l49 c49 k49).binds (ps := ["_law_found"]) (fun _ _ _ _ _ _ us hl => match us, hl with | [_], _ => rfl),
   k49,
   W.mg_of X G a49,
   fun_mk (st := s_law_letter) l50 c50 k50,
   (fun_mk (st := s_law_letter) l50 c50 k50).binds (ps := ["_law_number"]) (fun _ _ _ _ _ _ us hl => match us, hl with | [_], _ => rfl),
   k50,
   W.mg_of X G a50,
   fun_mk (st := s_law_wide) l51 c51 k51,
   (fun_mk (st := s_law_wide) l51 c51 k51).binds (ps := ["_law_cell"]) (fun _ _ _ _ _ _ us hl => match us, hl with | [_], _ => rfl),
   k51,
   W.mg_of X G a51,
   fun_mk (st := s_law_low) l52 c52 k52,
   (fun_mk (st := s_law_low) l52 c52 k52).binds (ps := ["_law_cell"]) (fun _ _ _ _ _ _ us hl => match us, hl with | [_], _ => rfl),
   k52,
   W.mg_of X G a52,
   fun_mk (st := s_law_size) l53 c53 k53,
   (fun_mk (st := s_law_size) l53 c53 k53).binds (ps := ["_law_cell"]) (fun _ _ _ _ _ _ us hl => match us, hl with | [_], _ => rfl),
   k53,
   W.mg_of X G a53,
   fun_mk (st := s_law_money) l54 c54 k54,
   (fun_mk (st := s_law_money) l54 c54 k54).binds (ps := ["_law_number"]) (fun _ _ _ _ _ _ us hl => match us, hl with | [_], _ => rfl),
   k54,
   W.mg_of X G a54,
   fun_mk (st := s_law_words) l55 c55 k55,
   (fun_mk (st := s_law_words) l55 c55 k55).binds (ps := ["_law_cell", "_law_many"]) (fun _ _ _ _ _ _ us hl => match us, hl with | [_, _], _ => rfl),
   k55,
   W.mg_of X G a55,
   fun_mk (st := s_law_numbers) l56 c56 k56,
   (fun_mk (st := s_law_numbers) l56 c56 k56).binds (ps := ["_law_head", "_law_low_here", "_law_high"]) (fun _ _ _ _ _ _ us hl => match us, hl with | [_, _, _], _ => rfl),
   k56,
   W.mg_of X G a56,
   fun_mk (st := s_law_good) l57 c57 k57,
   (fun_mk (st := s_law_good) l57 c57 k57).binds (ps := ["_law_cell"]) (fun _ _ _ _ _ _ us hl => match us, hl with | [_], _ => rfl),
   k57,
   W.mg_of X G a57,
   fun_mk (st := s_law_odd) l58 c58 k58,
   (fun_mk (st := s_law_odd) l58 c58 k58).binds (ps := ["_law_cell"]) (fun _ _ _ _ _ _ us hl => match us, hl with | [_], _ => rfl),
   k58,
   W.mg_of X G a58,
   fun_mk (st := s_law_bad) l59 c59 k59,
   (fun_mk (st := s_law_bad) l59 c59 k59).binds (ps := ["_law_cell"]) (fun _ _ _ _ _ _ us hl => match us, hl with | [_], _ => rfl),
   k59,
   W.mg_of X G a59,
   fun_mk (st := s_law_only) l60 c60 k60,
   (fun_mk (st := s_law_only) l60 c60 k60).binds (ps := ["_law_kept"]) (fun _ _ _ _ _ _ us hl => match us, hl with | [_], _ => rfl),
   k60,
   W.mg_of X G a60,
   fun_mk (st := s_law_refused) l61 c61 k61,
   (fun_mk (st := s_law_refused) l61 c61 k61).binds (ps := ["_law_thing"]) (fun _ _ _ _ _ _ us hl => match us, hl with | [_], _ => rfl),
   k61,
   W.mg_of X G a61,
   fun_mk (st := s_law_sample) l62 c62 k62,
   (fun_mk (st := s_law_sample) l62 c62 k62).binds (ps := ["_law_kind", "_law_rank"]) (fun _ _ _ _ _ _ us hl => match us, hl with | [_, _], _ => rfl),
   k62,
   W.mg_of X G a62,
   fun_mk (st := s_law_told) l63 c63 k63,
   (fun_mk (st := s_law_told) l63 c63 k63).binds (ps := ["_law_text", "_law_low_here", "_law_high"]) (fun _ _ _ _ _ _ us hl => match us, hl with | [_, _, _], _ => rfl),
   k63,
   W.mg_of X G a63,
   fun_mk (st := s_law) l64 c64 k64,
   (fun_mk (st := s_law) l64 c64 k64).binds (ps := ["_law_script"]) (fun _ _ _ _ _ _ us hl => match us, hl with | [_], _ => rfl),
   k64,
   W.mg_of X G a64,
   ⟨_, W.mg_of X G g0, _, rfl⟩,
   ⟨_, W.mg_of X G g1, _, rfl⟩,
   ⟨_, W.mg_of X G g2, _, rfl⟩,
   ⟨_, W.mg_of X G g3, _, rfl⟩,
   ⟨_, W.mg_of X G g4, _, rfl⟩,
   ⟨_, W.mg_of X G g5, _, rfl⟩,
   ⟨_, W.mg_of X G g6, _, rfl⟩,
   ⟨_, W.mg_of X G g7, rfl⟩,
   SqT.mod gl7 gc7 gz7 gv7,
   ⟨_, W.mg_of X G g8, rfl⟩,
   SqT.mod gl8 gc8 gz8 gv8,
   W.mg_of X G g9,
   tabK_mk gl9 gy9 gc9 gq9 gz9 gv9,
   W.mg_none_of X G z_ValueError,
   W.mg_none_of X G z_abs,
   W.mg_none_of X G z_all,
   W.mg_none_of X G z_bool,
   W.mg_none_of X G z_int,
   W.mg_none_of X G z_isinstance,
   W.mg_none_of X G z_len,
   W.mg_none_of X G z_list,
   W.mg_none_of X G z_range,
   W.mg_none_of X G z_set,
   W.mg_none_of X G z_str,
   W.mg_none_of X G z_tuple,
   L2.kit_ty (by symm),
   L2.kit_ty (by symm),
   L2.kit_ty (by symm),
   L2.kit_ty (by symm),
   L2.kit_ty (by symm),
   L2.kit_ty (by symm),
   L2.kit_ty (by symm),
   L2.kit_ty (by symm),
   L2.kit_ty (by symm),
   L2.kit_ty (by symm),
   L2.kit_ty (by symm),
   L2.kit_ty (by symm),
   L2.kit_ty (by symm),
   L2.kit_ty (by symm),
   L2.kit_ty (by symm),
   L2.kit_ty (by symm),
   L2.kit_ty (by symm),
   L2.kit_ty (by symm),
   L2.kit_ty (by symm),
   L2.kit_ty (by symm),
   L2.kit_ty (by symm),
   L2.kit_ty (by symm),
   L2.kit_ty (by symm),
   L2.kit_ty (by symm),
   L2.kit_ty (by symm),
   L2.kit_ty (by symm),
   L2.kit_ty (by symm),
   L2.kit_ty (by symm),
   W.mg_of X G na_AskError,
   ⟨_, W.mg_of X G na_AskError, rfl⟩,
   W.mg_of X G na_Kind,
   ⟨_, W.mg_of X G na_Kind, rfl⟩,
   W.mg_of X G na_Money,
   ⟨_, W.mg_of X G na_Money, rfl⟩,
   W.mg_of X G na_Names,
   ⟨_, W.mg_of X G na_Names, rfl⟩,
   W.mg_of X G na_NoAnswer,
   ⟨_, W.mg_of X G na_NoAnswer, rfl⟩,
   W.mg_of X G na_NoKind,
   ⟨_, W.mg_of X G na_NoKind, rfl⟩,
   W.mg_of X G na_NoLeft,
   ⟨_, W.mg_of X G na_NoLeft, rfl⟩,
   W.mg_of X G na_NoLine,
   ⟨_, W.mg_of X G na_NoLine, rfl⟩,
   W.mg_of X G na_NoNumber,
   ⟨_, W.mg_of X G na_NoNumber, rfl⟩,
   W.mg_of X G na_NoRow,
   ⟨_, W.mg_of X G na_NoRow, rfl⟩,
   W.mg_of X G na_NoSay,
   ⟨_, W.mg_of X G na_NoSay, rfl⟩,
   W.mg_of X G na_NoSaying,
   ⟨_, W.mg_of X G na_NoSaying, rfl⟩,
   W.mg_of X G na_NoSum,
   ⟨_, W.mg_of X G na_NoSum, rfl⟩,
   W.mg_of X G na_NoWay,
   ⟨_, W.mg_of X G na_NoWay, rfl⟩,
   W.mg_of X G na_NotCome,
   ⟨_, W.mg_of X G na_NotCome, rfl⟩,
   W.mg_of X G na_NotYet,
   ⟨_, W.mg_of X G na_NotYet, rfl⟩,
   W.mg_of X G na_Nowhere,
   ⟨_, W.mg_of X G na_Nowhere, rfl⟩,
   W.mg_of X G na_OutOfReach,
   ⟨_, W.mg_of X G na_OutOfReach, rfl⟩,
   W.mg_of X G na_Pick,
   ⟨_, W.mg_of X G na_Pick, rfl⟩,
   W.mg_of X G na_Ring,
   ⟨_, W.mg_of X G na_Ring, rfl⟩,
   W.mg_of X G na_Twice,
   ⟨_, W.mg_of X G na_Twice, rfl⟩,
   W.mg_of X G na_Unknown,
   ⟨_, W.mg_of X G na_Unknown, rfl⟩,
   W.mg_of X G na_Whole,
   ⟨_, W.mg_of X G na_Whole, rfl⟩,
   W.mg_of X G na_WrongKind,
   ⟨_, W.mg_of X G na_WrongKind, rfl⟩,
   W.mg_of X G na_YesNo,
   ⟨_, W.mg_of X G na_YesNo, rfl⟩,
   xx_NoAnswer,
   excCls_mk pg_NoAnswer pk_NoAnswer kc_NoAnswer ha_NoAnswer hn_NoAnswer tk_NoAnswer mo_NoAnswer mb_NoAnswer,
   xx_NoKind,
   excCls_mk pg_NoKind pk_NoKind kc_NoKind ha_NoKind hn_NoKind tk_NoKind mo_NoKind mb_NoKind,
   xx_NoNumber,
   excCls_mk pg_NoNumber pk_NoNumber kc_NoNumber ha_NoNumber hn_NoNumber tk_NoNumber mo_NoNumber mb_NoNumber,
   exm_ref sb_NoNumber_NoNumber kc_NoNumber kt_NoNumber em_NoNumber_NoNumber,
   exm_ref sb_NoAnswer_NoAnswer kc_NoAnswer kt_NoAnswer em_NoAnswer_NoAnswer,
   exm_ref sb_NoKind_AskError kc_AskError kt_AskError em_NoKind_AskError,
   kit_ref kc_NoAnswer kt_NoAnswer mr_NoKind_NoAnswer ne_NoKind_NoAnswer,
   kit_ref kc_NoLeft kt_NoLeft mr_NoKind_NoLeft ne_NoKind_NoLeft,
   kit_ref kc_NoLine kt_NoLine mr_NoKind_NoLine ne_NoKind_NoLine,
   kit_ref kc_NoNumber kt_NoNumber mr_NoKind_NoNumber ne_NoKind_NoNumber,
   kit_ref kc_NoRow kt_NoRow mr_NoKind_NoRow ne_NoKind_NoRow,
   kit_ref kc_NoSay kt_NoSay mr_NoKind_NoSay ne_NoKind_NoSay,
   kit_ref kc_NoSaying kt_NoSaying mr_NoKind_NoSaying ne_NoKind_NoSaying,
   kit_ref kc_NoSum kt_NoSum mr_NoKind_NoSum ne_NoKind_NoSum,
   kit_ref kc_NoWay kt_NoWay mr_NoKind_NoWay ne_NoKind_NoWay,
   kit_ref kc_NotCome kt_NotCome mr_NoKind_NotCome ne_NoKind_NotCome,
   kit_ref kc_NotYet kt_NotYet mr_NoKind_NotYet ne_NoKind_NotYet,
   kit_ref kc_Nowhere kt_Nowhere mr_NoKind_Nowhere ne_NoKind_Nowhere,
   kit_ref kc_OutOfReach kt_OutOfReach mr_NoKind_OutOfReach ne_NoKind_OutOfReach,
   kit_ref kc_Ring kt_Ring mr_NoKind_Ring ne_NoKind_Ring,
   kit_ref kc_Twice kt_Twice mr_NoKind_Twice ne_NoKind_Twice,
   kit_ref kc_Unknown kt_Unknown mr_NoKind_Unknown ne_NoKind_Unknown,
   kit_ref kc_WrongKind kt_WrongKind mr_NoKind_WrongKind ne_NoKind_WrongKind,
   kit_self,
   kit_self,
   kit_ref kc_Whole kt_Whole mr_YesNo_Whole ne_YesNo_Whole,
   kit_ref kc_Money kt_Money mr_YesNo_Money ne_YesNo_Money,
   kit_ref kc_Pick kt_Pick mr_YesNo_Pick ne_YesNo_Pick,
   kit_ref kc_Names kt_Names mr_YesNo_Names ne_YesNo_Names,
   kit_ref kc_YesNo kt_YesNo mr_Whole_YesNo ne_Whole_YesNo,
   kit_self,
   kit_ref kc_Money kt_Money mr_Whole_Money ne_Whole_Money,
   kit_ref kc_Pick kt_Pick mr_Whole_Pick ne_Whole_Pick,
   kit_ref kc_Names kt_Names mr_Whole_Names ne_Whole_Names,
   kit_ref kc_YesNo kt_YesNo mr_Money_YesNo ne_Money_YesNo,
   kit_ref kc_Whole kt_Whole mr_Money_Whole ne_Money_Whole,
   kit_self,
   kit_ref kc_Pick kt_Pick mr_Money_Pick ne_Money_Pick,
   kit_ref kc_Names kt_Names mr_Money_Names ne_Money_Names,
   kit_ref kc_YesNo kt_YesNo mr_Pick_YesNo ne_Pick_YesNo,
   kit_ref kc_Whole kt_Whole mr_Pick_Whole ne_Pick_Whole,
   kit_ref kc_Money kt_Money mr_Pick_Money ne_Pick_Money,
   kit_self,
   kit_ref kc_Names kt_Names mr_Pick_Names ne_Pick_Names,
   kit_ref kc_YesNo kt_YesNo mr_Names_YesNo ne_Names_YesNo,
   kit_ref kc_Whole kt_Whole mr_Names_Whole ne_Names_Whole,
   kit_ref kc_Money kt_Money mr_Names_Money ne_Names_Money,
   kit_ref kc_Pick kt_Pick mr_Names_Pick ne_Names_Pick,
   kit_self,
   kit_ref kc_Kind kt_Kind mr_YesNo_Kind ne_YesNo_Kind,
   kit_ref kc_Kind kt_Kind mr_Whole_Kind ne_Whole_Kind,
   kit_ref kc_Kind kt_Kind mr_Money_Kind ne_Money_Kind,
   kit_ref kc_Kind kt_Kind mr_Pick_Kind ne_Pick_Kind,
   kit_ref kc_Kind kt_Kind mr_Names_Kind ne_Names_Kind,
   kit_rty (by symm) mt_NoKind_ValueError,
   ⟨cpg_YesNo, chd_YesNo, cpo_YesNo, csa_YesNo⟩,
   fun _ _ _ _ e => .ins e ⟨cpg_YesNo, chd_YesNo, cpo_YesNo, csa_YesNo⟩ cha_YesNo chn_YesNo ctk_YesNo cmo_YesNo,
   ⟨mkm_YesNo, mki_YesNo, mkf_YesNo, mkk_YesNo⟩,
   ⟨mea_YesNo_fits, mef_YesNo_fits, k12⟩,
   ⟨mea_YesNo_answer_of, mef_YesNo_answer_of, k13⟩,
   ⟨mea_YesNo_shown, mef_YesNo_shown, k14⟩,
   ⟨mea_YesNo_rank, mef_YesNo_rank, k15⟩,
   ⟨mea_YesNo_sample, mef_YesNo_sample, k16⟩,
   ⟨mea_YesNo_read, mef_YesNo_read, k10⟩,
   ⟨mea_YesNo_told, mef_YesNo_told, k17⟩,
   noa_YesNo_low,
   noa_YesNo_high,
   ⟨cpg_Whole, chd_Whole, cpo_Whole, csa_Whole⟩,
   fun _ _ _ _ e => .ins e ⟨cpg_Whole, chd_Whole, cpo_Whole, csa_Whole⟩ cha_Whole chn_Whole ctk_Whole cmo_Whole,
   ⟨mkm_Whole, mki_Whole, mkf_Whole, mkk_Whole⟩,
   ⟨mea_Whole_fits, mef_Whole_fits, k18⟩,
   ⟨mea_Whole_answer_of, mef_Whole_answer_of, k19⟩,
   ⟨mea_Whole_shown, mef_Whole_shown, k20⟩,
   ⟨mea_Whole_rank, mef_Whole_rank, k21⟩,
   ⟨mea_Whole_sample, mef_Whole_sample, k22⟩,
   ⟨mea_Whole_read, mef_Whole_read, k10⟩,
   ⟨mea_Whole_told, mef_Whole_told, k24⟩,
   ⟨mea_Whole_bounds, mef_Whole_bounds, k23⟩,
   noa_Whole_low,
   noa_Whole_high,
   ⟨cpg_Money, chd_Money, cpo_Money, csa_Money⟩,
   fun _ _ _ _ e => .ins e ⟨cpg_Money, chd_Money, cpo_Money, csa_Money⟩ cha_Money chn_Money ctk_Money cmo_Money,
   ⟨mkm_Money, mki_Money, mkf_Money, mkk_Money⟩,
   ⟨mea_Money_fits, mef_Money_fits, k18⟩,
   ⟨mea_Money_answer_of, mef_Money_answer_of, k25⟩,
   ⟨mea_Money_shown, mef_Money_shown, k26⟩,
   ⟨mea_Money_rank, mef_Money_rank, k21⟩,
   ⟨mea_Money_sample, mef_Money_sample, k22⟩,
   ⟨mea_Money_read, mef_Money_read, k10⟩,
   ⟨mea_Money_told, mef_Money_told, k27⟩,
   ⟨mea_Money_bounds, mef_Money_bounds, k23⟩,
   noa_Money_low,
   noa_Money_high,
   ⟨cpg_Pick, chd_Pick, cpo_Pick, csa_Pick⟩,
   fun _ _ _ _ e => .ins e ⟨cpg_Pick, chd_Pick, cpo_Pick, csa_Pick⟩ cha_Pick chn_Pick ctk_Pick cmo_Pick,
   ⟨mkm_Pick, mki_Pick, mkf_Pick, mkk_Pick⟩,
   ⟨mea_Pick_fits, mef_Pick_fits, k29⟩,
   ⟨mea_Pick_answer_of, mef_Pick_answer_of, k30⟩,
   ⟨mea_Pick_shown, mef_Pick_shown, k31⟩,
   ⟨mea_Pick_rank, mef_Pick_rank, k32⟩,
   ⟨mea_Pick_sample, mef_Pick_sample, k33⟩,
   ⟨mea_Pick_read, mef_Pick_read, k10⟩,
   ⟨mea_Pick_told, mef_Pick_told, k34⟩,
   noa_Pick_low,
   noa_Pick_high,
   noa_Pick_words,
   ⟨cpg_Names, chd_Names, cpo_Names, csa_Names⟩,
   fun _ _ _ _ e => .ins e ⟨cpg_Names, chd_Names, cpo_Names, csa_Names⟩ cha_Names chn_Names ctk_Names cmo_Names,
   ⟨mkm_Names, mki_Names, mkf_Names, mkk_Names⟩,
   ⟨mea_Names_fits, mef_Names_fits, k36⟩,
   ⟨mea_Names_answer_of, mef_Names_answer_of, k37⟩,
   ⟨mea_Names_shown, mef_Names_shown, k38⟩,
   ⟨mea_Names_rank, mef_Names_rank, k39⟩,
   ⟨mea_Names_sample, mef_Names_sample, k40⟩,
   ⟨mea_Names_read, mef_Names_read, k10⟩,
   ⟨mea_Names_told, mef_Names_told, k41⟩,
   noa_Names_low,
   noa_Names_high,
   ⟨cfr_Kind_init, cfa_Kind_init, cfs_Kind_init, k9⟩⟩⟩
theorem walk {l : W.OpenLaw} {q : Program} {loose : List Str} {XP : (Str → Option Value) → Heap → Prop} {YP : World → Heap → Prop} {d : DefRec} {K : Params → W.Frag} (hn : l.most = some 63) (hdf : d.params.defaults = []) (hnm : d.name = "law")
   (hY : ∀ (w : World) (h : Heap), YP w h → (K w.params).In h)
   (F : ∀ (w : World) (mg : Str → Option Value) (h : Heap), (K w.params).In h → h.Ns mainGlobals mg → ∃ A : Adr, Txt (K w.params) mg A) :
   W.WalkO q loose XP YP l.row.toRowW d [] (fun f vs => PySem.call f vs) := by
 refine L2.walk_ofB (n := 63) (k := 30) (x := "_law_script") (CX := fun _ => CX0) (sp := fun w => sp_law (K w.params)) hn (by decide) hdf ⟨rfl, by decide, by decide⟩ hY (fun w mg fa h KX G hmg => ?_) (fun w H a ns hl hb _ hS => ⟨a, ns, rfl, hS, hl, hb, fun _ => rfl⟩) fun _ _ _ _ _ z => z
 obtain ⟨A, T⟩ := F w mg h KX G
 rw [hnm] at hmg
 have e := hmg.symm.trans T.m_law
 cases e
 obtain ⟨oc, od, kV, doc, pm, an, cdv, ct, osl, efd, lk, hcd⟩ := id T.F_law.ex
 exact ⟨A.d_law, fun s v => by rw [efd]; exact .of_eq rfl, fun base _ _ => ok_law T⟩
end K07
def PySem.W.Fast.tw10684041315814228995 : Unit := ()
def PySem.W.Fast.tw10988184211814340843 : Unit := ()
def PySem.W.Fast.tw14869753165134723855 : Unit := ()
def PySem.W.Fast.tw17745563534229780130 : Unit := ()
def PySem.W.Fast.tw5212216049019915887 : Unit := ()
def PySem.W.Fast.tw804973545130216249 : Unit := ()
def PySem.W.Fast.tw13359733955508371721 : Unit := ()
def PySem.W.Fast.tw9514059816587854746 : Unit := ()
def PySem.W.Fast.tw4490751428564334958 : Unit := ()
def PySem.W.Fast.tw1000564364054694035 : Unit := ()
def PySem.W.Fast.tw9688013410551221998 : Unit := ()
def PySem.W.Fast.tw6925658476572550068 : Unit := ()
def PySem.W.Fast.tw16211252247346678942 : Unit := ()
def PySem.W.Fast.tw3714030005954111639 : Unit := ()
def PySem.W.Fast.tw11545925029911323903 : Unit := ()
def PySem.W.Fast.tw6744406795250899676 : Unit := ()
def PySem.W.Fast.tw5682202711310138161 : Unit := ()
def PySem.W.Fast.tw8122845628576587580 : Unit := ()
def PySem.W.Fast.tw5372212858698129239 : Unit := ()
def PySem.W.Fast.tw3736385727039046052 : Unit := ()
def PySem.W.Fast.tw6828489079976001460 : Unit := ()
def PySem.W.Fast.tw18361967189757784340 : Unit := ()
def PySem.W.Fast.tw10116330545738570569 : Unit := ()
def PySem.W.Fast.tw10292997740715745133 : Unit := ()
def PySem.W.Fast.tw14708996803432741903 : Unit := ()
def PySem.W.Fast.tw12556899556940256465 : Unit := ()
def PySem.W.Fast.tw6445474863859679924 : Unit := ()
def PySem.W.Fast.tw2873096027086391322 : Unit := ()
def PySem.W.Fast.tw13841759183530045807 : Unit := ()
def PySem.W.Fast.tw2355387712596209928 : Unit := ()
def PySem.W.Fast.tw10273025504190824732 : Unit := ()
def PySem.W.Fast.tw7364281571606500548 : Unit := ()
def PySem.W.Fast.tw7057595083711707647 : Unit := ()
def PySem.W.Fast.tw9755185453713755334 : Unit := ()
def PySem.W.Fast.tw17988141442739722050 : Unit := ()
def PySem.W.Fast.tw15000485412266350462 : Unit := ()
def PySem.W.Fast.tw13833801577126688419 : Unit := ()
def PySem.W.Fast.tw5513077249294460464 : Unit := ()
def PySem.W.Fast.tw4648227800741203126 : Unit := ()
def PySem.W.Fast.tw7369743293538724780 : Unit := ()
def PySem.W.Fast.tw5658958547216922889 : Unit := ()
def PySem.W.Fast.tw14631819972564884905 : Unit := ()
def PySem.W.Fast.tw7923081265430813464 : Unit := ()
def PySem.W.Fast.tw18023041648419278368 : Unit := ()
def PySem.W.Fast.tw10080755482483129131 : Unit := ()
def PySem.W.Fast.tw3049154615117458934 : Unit := ()
def PySem.W.Fast.tw12535032019451299314 : Unit := ()
def PySem.W.Fast.tw3223269133510696024 : Unit := ()
def PySem.W.Fast.tw17115065935862384813 : Unit := ()
def PySem.W.Fast.tw423672597071238931 : Unit := ()
def PySem.W.Fast.tw4507604736877915271 : Unit := ()
def PySem.W.Fast.tw5749212589987384879 : Unit := ()
def PySem.W.Fast.tw3259285949749100702 : Unit := ()
def PySem.W.Fast.tw411424564736064860 : Unit := ()
def PySem.W.Fast.tw10215672841722967199 : Unit := ()
def PySem.W.Fast.tw11139003705372955141 : Unit := ()
open PySem PySem.W PyProof.Rows
set_option maxRecDepth 100000 in
set_option maxHeartbeats 0 in
theorem PySem.Challenge.cw_askpaper_k07_kinds_written_holds : PySem.Challenge.rw_askpaper_k07_kinds_written.Holds := by
 w_on; o_law; k_head; (case hw => w_witness2)
 k_fill
 refine K07.walk (l := PySem.Challenge.rw_askpaper_k07_kinds_written) rfl rfl rfl (fun w h Y => W.kIn_of Y) ?F
 case F =>
   intro w mg h KX G
   have T : ∃ A : K07.Adr, K07.Txt (L2.KOf KX) mg A := by
     dsimp only [L2.KOf]
     refine' K07.txt_mk KX G ?zzna_AskError ?zzna_Kind ?zzna_Money ?zzna_Names ?zzna_NoAnswer ?zzna_NoKind ?zzna_NoLeft ?zzna_NoLine ?zzna_NoNumber ?zzna_NoRow ?zzna_NoSay ?zzna_NoSaying ?zzna_NoSum ?zzna_NoWay ?zzna_NotCome ?zzna_NotYet ?zzna_Nowhere ?zzna_OutOfReach ?zzna_Pick ?zzna_Ring ?zzna_Twice ?zzna_Unknown ?zzna_Whole ?zzna_WrongKind ?zzna_YesNo ?zza0 ?zzl0 ?zzc0 ?zzk0 ?zza1 ?zzl1 ?zzc1 ?zzk1 ?zza2 ?zzl2 ?zzc2 ?zzk2 ?zza3 ?zzl3 ?zzc3 ?zzk3 ?zza4 ?zzl4 ?zzc4 ?zzk4 ?zza5 ?zzl5 ?zzc5 ?zzk5 ?zzdl5 ?zza6 ?zzl6 ?zzc6 ?zzk6 ?zza7 ?zzl7 ?zzc7 ?zzk7 ?zza8 ?zzl8 ?zzc8 ?zzk8 ?zza9 ?zzl9 ?zzc9 ?zzk9 ?zza10 ?zzl10 ?zzc10 ?zzk10 ?zza11 ?zzl11 ?zzc11 ?zzk11 ?zza12 ?zzl12 ?zzc12 ?zzk12 ?zza13 ?zzl13 ?zzc13 ?zzk13 ?zza14 ?zzl14 ?zzc14 ?zzk14 ?zza15 ?zzl15 ?zzc15 ?zzk15 ?zza16 ?zzl16 ?zzc16 ?zzk16 ?zza17 ?zzl17 ?zzc17 ?zzk17 ?zza18 ?zzl18 ?zzc18 ?zzk18 ?zza19 ?zzl19 ?zzc19 ?zzk19 ?zza20 ?zzl20 ?zzc20 ?zzk20 ?zza21 ?zzl21 ?zzc21 ?zzk21 ?zza22 ?zzl22 ?zzc22 ?zzk22 ?zza23 ?zzl23 ?zzc23 ?zzk23 ?zza24 ?zzl24 ?zzc24 ?zzk24 ?zza25 ?zzl25 ?zzc25 ?zzk25 ?zza26 ?zzl26 ?zzc26 ?zzk26 ?zza27 ?zzl27 ?zzc27 ?zzk27 ?zza28 ?zzl28 ?zzc28 ?zzk28 ?zza29 ?zzl29 ?zzc29 ?zzk29 ?zza30 ?zzl30 ?zzc30 ?zzk30 ?zza31 ?zzl31 ?zzc31 ?zzk31 ?zza32 ?zzl32 ?zzc32 ?zzk32 ?zza33 ?zzl33 ?zzc33 ?zzk33 ?zza34 ?zzl34 ?zzc34 ?zzk34 ?zza35 ?zzl35 ?zzc35 ?zzk35 ?zzdl35 ?zza36 ?zzl36 ?zzc36 ?zzk36 ?zza37 ?zzl37 ?zzc37 ?zzk37 ?zza38 ?zzl38 ?zzc38 ?zzk38 ?zza39 ?zzl39 ?zzc39 ?zzk39 ?zza40 ?zzl40 ?zzc40 ?zzk40 ?zza41 ?zzl41 ?zzc41 ?zzk41 ?zza42 ?zzl42 ?zzc42 ?zzk42 ?zza43 ?zzl43 ?zzc43 ?zzk43 ?zza44 ?zzl44 ?zzc44 ?zzk44 ?zza45 ?zzl45 ?zzc45 ?zzk45 ?zza46 ?zzl46 ?zzc46 ?zzk46 ?zza47 ?zzl47 ?zzc47 ?zzk47 ?zza48 ?zzl48 ?zzc48 ?zzk48 ?zza49 ?zzl49 ?zzc49 ?zzk49 ?zza50 ?zzl50 ?zzc50 ?zzk50 ?zza51 ?zzl51 ?zzc51 ?zzk51 ?zza52 ?zzl52 ?zzc52 ?zzk52 ?zza53 ?zzl53 ?zzc53 ?zzk53 ?zza54 ?zzl54 ?zzc54 ?zzk54 ?zza55 ?zzl55 ?zzc55 ?zzk55 ?zza56 ?zzl56 ?zzc56 ?zzk56 ?zza57 ?zzl57 ?zzc57 ?zzk57 ?zza58 ?zzl58 ?zzc58 ?zzk58 ?zza59 ?zzl59 ?zzc59 ?zzk59 ?zza60 ?zzl60 ?zzc60 ?zzk60 ?zza61 ?zzl61 ?zzc61 ?zzk61 ?zza62 ?zzl62 ?zzc62 ?zzk62 ?zza63 ?zzl63 ?zzc63 ?zzk63 ?zza64 ?zzl64 ?zzc64 ?zzk64 ?zzg0 ?zzg1 ?zzg2 ?zzg3 ?zzg4 ?zzg5 ?zzg6 ?zzg7 ?zzgl7 ?zzgc7 ?zzgz7 ?zzgv7 ?zzg8 ?zzgl8 ?zzgc8 ?zzgz8 ?zzgv8 ?zzg9 ?zzgl9 ?zzgy9 ?zzgc9 ?zzgq9 ?zzgz9 ?zzgv9 ?zzz_ValueError ?zzz_abs ?zzz_all ?zzz_bool ?zzz_int ?zzz_isinstance ?zzz_len ?zzz_list ?zzz_range ?zzz_set ?zzz_str ?zzz_tuple ?zzkc_AskError ?zzkt_AskError ?zzkc_Kind ?zzkt_Kind ?zzkc_Money ?zzkt_Money ?zzkc_Names ?zzkt_Names ?zzkc_NoAnswer ?zzkt_NoAnswer ?zzkc_NoKind ?zzkt_NoKind ?zzkc_NoLeft ?zzkt_NoLeft ?zzkc_NoLine ?zzkt_NoLine ?zzkc_NoNumber ?zzkt_NoNumber ?zzkc_NoRow ?zzkt_NoRow ?zzkc_NoSay ?zzkt_NoSay ?zzkc_NoSaying ?zzkt_NoSaying ?zzkc_NoSum ?zzkt_NoSum ?zzkc_NoWay ?zzkt_NoWay ?zzkc_NotCome ?zzkt_NotCome ?zzkc_NotYet ?zzkt_NotYet ?zzkc_Nowhere ?zzkt_Nowhere ?zzkc_OutOfReach ?zzkt_OutOfReach ?zzkc_Pick ?zzkt_Pick ?zzkc_Ring ?zzkt_Ring ?zzkc_Twice ?zzkt_Twice ?zzkc_Unknown ?zzkt_Unknown ?zzkc_Whole ?zzkt_Whole ?zzkc_WrongKind ?zzkt_WrongKind ?zzkc_YesNo ?zzkt_YesNo ?zzxx_NoAnswer ?zzpg_NoAnswer ?zzpk_NoAnswer ?zzha_NoAnswer ?zzhn_NoAnswer ?zztk_NoAnswer ?zzmo_NoAnswer ?zzmb_NoAnswer ?zzxx_NoKind ?zzpg_NoKind ?zzpk_NoKind ?zzha_NoKind ?zzhn_NoKind ?zztk_NoKind ?zzmo_NoKind ?zzmb_NoKind ?zzxx_NoNumber ?zzpg_NoNumber ?zzpk_NoNumber ?zzha_NoNumber ?zzhn_NoNumber ?zztk_NoNumber ?zzmo_NoNumber ?zzmb_NoNumber ?zzsb_NoNumber_NoNumber ?zzem_NoNumber_NoNumber ?zzsb_NoAnswer_NoAnswer ?zzem_NoAnswer_NoAnswer ?zzsb_NoKind_AskError ?zzem_NoKind_AskError ?zzmr_NoKind_NoAnswer ?zzne_NoKind_NoAnswer ?zzmr_NoKind_NoLeft ?zzne_NoKind_NoLeft ?zzmr_NoKind_NoLine ?zzne_NoKind_NoLine ?zzmr_NoKind_NoNumber ?zzne_NoKind_NoNumber ?zzmr_NoKind_NoRow ?zzne_NoKind_NoRow ?zzmr_NoKind_NoSay ?zzne_NoKind_NoSay ?zzmr_NoKind_NoSaying ?zzne_NoKind_NoSaying ?zzmr_NoKind_NoSum ?zzne_NoKind_NoSum ?zzmr_NoKind_NoWay ?zzne_NoKind_NoWay ?zzmr_NoKind_NotCome ?zzne_NoKind_NotCome ?zzmr_NoKind_NotYet ?zzne_NoKind_NotYet ?zzmr_NoKind_Nowhere ?zzne_NoKind_Nowhere ?zzmr_NoKind_OutOfReach ?zzne_NoKind_OutOfReach ?zzmr_NoKind_Ring ?zzne_NoKind_Ring ?zzmr_NoKind_Twice ?zzne_NoKind_Twice ?zzmr_NoKind_Unknown ?zzne_NoKind_Unknown ?zzmr_NoKind_WrongKind ?zzne_NoKind_WrongKind ?zzmr_YesNo_Whole ?zzne_YesNo_Whole ?zzmr_YesNo_Money ?zzne_YesNo_Money ?zzmr_YesNo_Pick ?zzne_YesNo_Pick ?zzmr_YesNo_Names ?zzne_YesNo_Names ?zzmr_Whole_YesNo ?zzne_Whole_YesNo ?zzmr_Whole_Money ?zzne_Whole_Money ?zzmr_Whole_Pick ?zzne_Whole_Pick ?zzmr_Whole_Names ?zzne_Whole_Names ?zzmr_Money_YesNo ?zzne_Money_YesNo ?zzmr_Money_Whole ?zzne_Money_Whole ?zzmr_Money_Pick ?zzne_Money_Pick ?zzmr_Money_Names ?zzne_Money_Names ?zzmr_Pick_YesNo ?zzne_Pick_YesNo ?zzmr_Pick_Whole ?zzne_Pick_Whole ?zzmr_Pick_Money ?zzne_Pick_Money ?zzmr_Pick_Names ?zzne_Pick_Names ?zzmr_Names_YesNo ?zzne_Names_YesNo ?zzmr_Names_Whole ?zzne_Names_Whole ?zzmr_Names_Money ?zzne_Names_Money ?zzmr_Names_Pick ?zzne_Names_Pick ?zzmr_YesNo_Kind ?zzne_YesNo_Kind ?zzmr_Whole_Kind ?zzne_Whole_Kind ?zzmr_Money_Kind ?zzne_Money_Kind ?zzmr_Pick_Kind ?zzne_Pick_Kind ?zzmr_Names_Kind ?zzne_Names_Kind ?zzmt_NoKind_ValueError ?zzcpg_YesNo ?zzchd_YesNo ?zzcpo_YesNo ?zzcsa_YesNo ?zzcha_YesNo ?zzchn_YesNo ?zzctk_YesNo ?zzcmo_YesNo ?zzmkm_YesNo ?zzmki_YesNo ?zzmkf_YesNo ?zzmkk_YesNo ?zzmea_YesNo_fits ?zzmef_YesNo_fits ?zzmea_YesNo_answer_of ?zzmef_YesNo_answer_of ?zzmea_YesNo_shown ?zzmef_YesNo_shown ?zzmea_YesNo_rank ?zzmef_YesNo_rank ?zzmea_YesNo_sample ?zzmef_YesNo_sample ?zzmea_YesNo_read ?zzmef_YesNo_read ?zzmea_YesNo_told ?zzmef_YesNo_told ?zznoa_YesNo_low ?zznoa_YesNo_high ?zzcpg_Whole ?zzchd_Whole ?zzcpo_Whole ?zzcsa_Whole ?zzcha_Whole ?zzchn_Whole ?zzctk_Whole ?zzcmo_Whole ?zzmkm_Whole ?zzmki_Whole ?zzmkf_Whole ?zzmkk_Whole ?zzmea_Whole_fits ?zzmef_Whole_fits ?zzmea_Whole_answer_of ?zzmef_Whole_answer_of ?zzmea_Whole_shown ?zzmef_Whole_shown ?zzmea_Whole_rank ?zzmef_Whole_rank ?zzmea_Whole_sample ?zzmef_Whole_sample ?zzmea_Whole_read ?zzmef_Whole_read ?zzmea_Whole_told ?zzmef_Whole_told ?zzmea_Whole_bounds ?zzmef_Whole_bounds ?zznoa_Whole_low ?zznoa_Whole_high ?zzcpg_Money ?zzchd_Money ?zzcpo_Money ?zzcsa_Money ?zzcha_Money ?zzchn_Money ?zzctk_Money ?zzcmo_Money ?zzmkm_Money ?zzmki_Money ?zzmkf_Money ?zzmkk_Money ?zzmea_Money_fits ?zzmef_Money_fits ?zzmea_Money_answer_of ?zzmef_Money_answer_of ?zzmea_Money_shown ?zzmef_Money_shown ?zzmea_Money_rank ?zzmef_Money_rank ?zzmea_Money_sample ?zzmef_Money_sample ?zzmea_Money_read ?zzmef_Money_read ?zzmea_Money_told ?zzmef_Money_told ?zzmea_Money_bounds ?zzmef_Money_bounds ?zznoa_Money_low ?zznoa_Money_high ?zzcpg_Pick ?zzchd_Pick ?zzcpo_Pick ?zzcsa_Pick ?zzcha_Pick ?zzchn_Pick ?zzctk_Pick ?zzcmo_Pick ?zzmkm_Pick ?zzmki_Pick ?zzmkf_Pick ?zzmkk_Pick ?zzmea_Pick_fits ?zzmef_Pick_fits ?zzmea_Pick_answer_of ?zzmef_Pick_answer_of ?zzmea_Pick_shown ?zzmef_Pick_shown ?zzmea_Pick_rank ?zzmef_Pick_rank ?zzmea_Pick_sample ?zzmef_Pick_sample ?zzmea_Pick_read ?zzmef_Pick_read ?zzmea_Pick_told ?zzmef_Pick_told ?zznoa_Pick_low ?zznoa_Pick_high ?zznoa_Pick_words ?zzcpg_Names ?zzchd_Names ?zzcpo_Names ?zzcsa_Names ?zzcha_Names ?zzchn_Names ?zzctk_Names ?zzcmo_Names ?zzmkm_Names ?zzmki_Names ?zzmkf_Names ?zzmkk_Names ?zzmea_Names_fits ?zzmef_Names_fits ?zzmea_Names_answer_of ?zzmef_Names_answer_of ?zzmea_Names_shown ?zzmef_Names_shown ?zzmea_Names_rank ?zzmef_Names_rank ?zzmea_Names_sample ?zzmef_Names_sample ?zzmea_Names_read ?zzmef_Names_read ?zzmea_Names_told ?zzmef_Names_told ?zznoa_Names_low ?zznoa_Names_high ?zzcfr_Kind_init ?zzcfa_Kind_init ?zzcfs_Kind_init
     (case zzna_AskError|zzna_Kind|zzna_Money|zzna_Names|zzna_NoAnswer|zzna_NoKind|zzna_NoLeft|zzna_NoLine|zzna_NoNumber|zzna_NoRow|zzna_NoSay|zzna_NoSaying|zzna_NoSum|zzna_NoWay|zzna_NotCome|zzna_NotYet|zzna_Nowhere|zzna_OutOfReach|zzna_Pick|zzna_Ring|zzna_Twice|zzna_Unknown|zzna_Whole|zzna_WrongKind|zzna_YesNo|zza0|zzl0|zzc0|zzk0|zza1|zzl1|zzc1|zzk1|zza2|zzl2|zzc2|zzk2|zza3|zzl3|zzc3|zzk3|zza4|zzl4|zzc4|zzk4|zza5|zzl5|zzc5|zzk5|zzdl5|zza6|zzl6|zzc6|zzk6|zza7|zzl7|zzc7|zzk7|zza8|zzl8|zzc8|zzk8|zza9|zzl9|zzc9|zzk9|zza10|zzl10|zzc10|zzk10|zza11|zzl11|zzc11|zzk11|zza12|zzl12|zzc12|zzk12|zza13|zzl13|zzc13|zzk13|zza14|zzl14|zzc14|zzk14|zza15|zzl15|zzc15|zzk15|zza16|zzl16|zzc16|zzk16|zza17|zzl17|zzc17|zzk17|zza18|zzl18|zzc18|zzk18|zza19|zzl19|zzc19|zzk19|zza20|zzl20|zzc20|zzk20|zza21|zzl21|zzc21|zzk21|zza22|zzl22|zzc22|zzk22|zza23|zzl23|zzc23|zzk23|zza24|zzl24|zzc24|zzk24|zza25|zzl25|zzc25|zzk25|zza26|zzl26|zzc26|zzk26|zza27|zzl27|zzc27|zzk27|zza28|zzl28|zzc28|zzk28|zza29|zzl29|zzc29|zzk29|zza30|zzl30|zzc30|zzk30|zza31|zzl31|zzc31|zzk31|zza32|zzl32|zzc32|zzk32|zza33|zzl33|zzc33|zzk33|zza34|zzl34|zzc34|zzk34|zza35|zzl35|zzc35|zzk35|zzdl35|zza36|zzl36|zzc36|zzk36|zza37|zzl37|zzc37|zzk37|zza38|zzl38|zzc38|zzk38|zza39|zzl39|zzc39|zzk39|zza40|zzl40|zzc40|zzk40|zza41|zzl41|zzc41|zzk41|zza42|zzl42|zzc42|zzk42|zza43|zzl43|zzc43|zzk43|zza44|zzl44|zzc44|zzk44|zza45|zzl45|zzc45|zzk45|zza46|zzl46|zzc46|zzk46|zza47|zzl47|zzc47|zzk47|zza48|zzl48|zzc48|zzk48|zza49|zzl49|zzc49|zzk49|zza50|zzl50|zzc50|zzk50|zza51|zzl51|zzc51|zzk51|zza52|zzl52|zzc52|zzk52|zza53|zzl53|zzc53|zzk53|zza54|zzl54|zzc54|zzk54|zza55|zzl55|zzc55|zzk55|zza56|zzl56|zzc56|zzk56|zza57|zzl57|zzc57|zzk57|zza58|zzl58|zzc58|zzk58|zza59|zzl59|zzc59|zzk59|zza60|zzl60|zzc60|zzk60|zza61|zzl61|zzc61|zzk61|zza62|zzl62|zzc62|zzk62|zza63|zzl63|zzc63|zzk63|zza64|zzl64|zzc64|zzk64|zzg0|zzg1|zzg2|zzg3|zzg4|zzg5|zzg6|zzg7|zzgl7 => k_is)
     (case zzgc7 => rfl)
     (case zzgz7 => exact Nat.le_of_ble_eq_true rfl)
     (case zzgv7 => exact .cons ⟨_, rfl⟩ (.cons ⟨_, rfl⟩ (.cons ⟨_, rfl⟩ (.cons ⟨_, rfl⟩ (.cons ⟨_, rfl⟩ (.cons ⟨_, rfl⟩ (.cons ⟨_, rfl⟩ (.cons ⟨_, rfl⟩ (.nil)))))))))
     (case zzg8|zzgl8 => k_is)
     (case zzgc8 => rfl)
     (case zzgz8 => exact Nat.le_of_ble_eq_true rfl)
     (case zzgv8 => exact .cons ⟨_, rfl⟩ (.cons ⟨_, rfl⟩ (.cons ⟨_, rfl⟩ (.cons ⟨_, rfl⟩ (.cons ⟨_, rfl⟩ (.cons ⟨_, rfl⟩ (.nil)))))))
     (case zzg9|zzgl9 => k_is)
     (case zzgy9 => rfl)
     (case zzgc9 => rfl)
     (case zzgq9 => rfl)
     (case zzgz9 => rfl)
     (case zzgv9 => exact .cons rfl rfl (.cons rfl rfl (.nil)))
     (case zzz_ValueError|zzz_abs|zzz_all|zzz_bool|zzz_int|zzz_isinstance|zzz_len|zzz_list|zzz_range|zzz_set|zzz_str|zzz_tuple|zzkc_AskError|zzkt_AskError|zzkc_Kind|zzkt_Kind|zzkc_Money|zzkt_Money|zzkc_Names|zzkt_Names|zzkc_NoAnswer|zzkt_NoAnswer|zzkc_NoKind|zzkt_NoKind|zzkc_NoLeft|zzkt_NoLeft|zzkc_NoLine|zzkt_NoLine|zzkc_NoNumber|zzkt_NoNumber|zzkc_NoRow|zzkt_NoRow|zzkc_NoSay|zzkt_NoSay|zzkc_NoSaying|zzkt_NoSaying|zzkc_NoSum|zzkt_NoSum|zzkc_NoWay|zzkt_NoWay|zzkc_NotCome|zzkt_NotCome|zzkc_NotYet|zzkt_NotYet|zzkc_Nowhere|zzkt_Nowhere|zzkc_OutOfReach|zzkt_OutOfReach|zzkc_Pick|zzkt_Pick|zzkc_Ring|zzkt_Ring|zzkc_Twice|zzkt_Twice|zzkc_Unknown|zzkt_Unknown|zzkc_Whole|zzkt_Whole|zzkc_WrongKind|zzkt_WrongKind|zzkc_YesNo|zzkt_YesNo => k_is)
     (case zzxx_NoAnswer => k_exc)
     (case zzpg_NoAnswer|zzpk_NoAnswer|zzha_NoAnswer|zzhn_NoAnswer|zztk_NoAnswer|zzmo_NoAnswer|zzmb_NoAnswer => k_is)
     (case zzxx_NoKind => k_exc)
     (case zzpg_NoKind|zzpk_NoKind|zzha_NoKind|zzhn_NoKind|zztk_NoKind|zzmo_NoKind|zzmb_NoKind => k_is)
     (case zzxx_NoNumber => k_exc)
     (case zzpg_NoNumber|zzpk_NoNumber|zzha_NoNumber|zzhn_NoNumber|zztk_NoNumber|zzmo_NoNumber|zzmb_NoNumber|zzsb_NoNumber_NoNumber|zzem_NoNumber_NoNumber|zzsb_NoAnswer_NoAnswer|zzem_NoAnswer_NoAnswer|zzsb_NoKind_AskError|zzem_NoKind_AskError|zzmr_NoKind_NoAnswer => k_is)
     (case zzne_NoKind_NoAnswer => rfl)
     (case zzmr_NoKind_NoLeft => k_is)
     (case zzne_NoKind_NoLeft => rfl)
     (case zzmr_NoKind_NoLine => k_is)
     (case zzne_NoKind_NoLine => rfl)
     (case zzmr_NoKind_NoNumber => k_is)
     (case zzne_NoKind_NoNumber => rfl)
     (case zzmr_NoKind_NoRow => k_is)
     (case zzne_NoKind_NoRow => rfl)
     (case zzmr_NoKind_NoSay => k_is)
     (case zzne_NoKind_NoSay => rfl)
     (case zzmr_NoKind_NoSaying => k_is)
     (case zzne_NoKind_NoSaying => rfl)
     (case zzmr_NoKind_NoSum => k_is)
     (case zzne_NoKind_NoSum => rfl)
     (case zzmr_NoKind_NoWay => k_is)
     (case zzne_NoKind_NoWay => rfl)
     (case zzmr_NoKind_NotCome => k_is)
     (case zzne_NoKind_NotCome => rfl)
     (case zzmr_NoKind_NotYet => k_is)
     (case zzne_NoKind_NotYet => rfl)
     (case zzmr_NoKind_Nowhere => k_is)
     (case zzne_NoKind_Nowhere => rfl)
     (case zzmr_NoKind_OutOfReach => k_is)
     (case zzne_NoKind_OutOfReach => rfl)
     (case zzmr_NoKind_Ring => k_is)
     (case zzne_NoKind_Ring => rfl)
     (case zzmr_NoKind_Twice => k_is)
     (case zzne_NoKind_Twice => rfl)
     (case zzmr_NoKind_Unknown => k_is)
     (case zzne_NoKind_Unknown => rfl)
     (case zzmr_NoKind_WrongKind => k_is)
     (case zzne_NoKind_WrongKind => rfl)
     (case zzmr_YesNo_Whole => k_is)
     (case zzne_YesNo_Whole => rfl)
     (case zzmr_YesNo_Money => k_is)
     (case zzne_YesNo_Money => rfl)
     (case zzmr_YesNo_Pick => k_is)
     (case zzne_YesNo_Pick => rfl)
     (case zzmr_YesNo_Names => k_is)
     (case zzne_YesNo_Names => rfl)
     (case zzmr_Whole_YesNo => k_is)
     (case zzne_Whole_YesNo => rfl)
     (case zzmr_Whole_Money => k_is)
     (case zzne_Whole_Money => rfl)
     (case zzmr_Whole_Pick => k_is)
     (case zzne_Whole_Pick => rfl)
     (case zzmr_Whole_Names => k_is)
     (case zzne_Whole_Names => rfl)
     (case zzmr_Money_YesNo => k_is)
     (case zzne_Money_YesNo => rfl)
     (case zzmr_Money_Whole => k_is)
     (case zzne_Money_Whole => rfl)
     (case zzmr_Money_Pick => k_is)
     (case zzne_Money_Pick => rfl)
     (case zzmr_Money_Names => k_is)
     (case zzne_Money_Names => rfl)
     (case zzmr_Pick_YesNo => k_is)
     (case zzne_Pick_YesNo => rfl)
     (case zzmr_Pick_Whole => k_is)
     (case zzne_Pick_Whole => rfl)
     (case zzmr_Pick_Money => k_is)
     (case zzne_Pick_Money => rfl)
     (case zzmr_Pick_Names => k_is)
     (case zzne_Pick_Names => rfl)
     (case zzmr_Names_YesNo => k_is)
     (case zzne_Names_YesNo => rfl)
     (case zzmr_Names_Whole => k_is)
     (case zzne_Names_Whole => rfl)
     (case zzmr_Names_Money => k_is)
     (case zzne_Names_Money => rfl)
     (case zzmr_Names_Pick => k_is)
     (case zzne_Names_Pick => rfl)
     (case zzmr_YesNo_Kind => k_is)
     (case zzne_YesNo_Kind => rfl)
     (case zzmr_Whole_Kind => k_is)
     (case zzne_Whole_Kind => rfl)
     (case zzmr_Money_Kind => k_is)
     (case zzne_Money_Kind => rfl)
     (case zzmr_Pick_Kind => k_is)
     (case zzne_Pick_Kind => rfl)
     (case zzmr_Names_Kind => k_is)
     (case zzne_Names_Kind => rfl)
     (case zzmt_NoKind_ValueError|zzcpg_YesNo|zzchd_YesNo|zzcpo_YesNo|zzcsa_YesNo|zzcha_YesNo|zzchn_YesNo|zzctk_YesNo|zzcmo_YesNo|zzmkm_YesNo|zzmki_YesNo|zzmkf_YesNo|zzmkk_YesNo|zzmea_YesNo_fits|zzmef_YesNo_fits|zzmea_YesNo_answer_of|zzmef_YesNo_answer_of|zzmea_YesNo_shown|zzmef_YesNo_shown|zzmea_YesNo_rank|zzmef_YesNo_rank|zzmea_YesNo_sample|zzmef_YesNo_sample|zzmea_YesNo_read|zzmef_YesNo_read|zzmea_YesNo_told|zzmef_YesNo_told|zznoa_YesNo_low|zznoa_YesNo_high|zzcpg_Whole|zzchd_Whole|zzcpo_Whole|zzcsa_Whole|zzcha_Whole|zzchn_Whole|zzctk_Whole|zzcmo_Whole|zzmkm_Whole|zzmki_Whole|zzmkf_Whole|zzmkk_Whole|zzmea_Whole_fits|zzmef_Whole_fits|zzmea_Whole_answer_of|zzmef_Whole_answer_of|zzmea_Whole_shown|zzmef_Whole_shown|zzmea_Whole_rank|zzmef_Whole_rank|zzmea_Whole_sample|zzmef_Whole_sample|zzmea_Whole_read|zzmef_Whole_read|zzmea_Whole_told|zzmef_Whole_told|zzmea_Whole_bounds|zzmef_Whole_bounds|zznoa_Whole_low|zznoa_Whole_high|zzcpg_Money|zzchd_Money|zzcpo_Money|zzcsa_Money|zzcha_Money|zzchn_Money|zzctk_Money|zzcmo_Money|zzmkm_Money|zzmki_Money|zzmkf_Money|zzmkk_Money|zzmea_Money_fits|zzmef_Money_fits|zzmea_Money_answer_of|zzmef_Money_answer_of|zzmea_Money_shown|zzmef_Money_shown|zzmea_Money_rank|zzmef_Money_rank|zzmea_Money_sample|zzmef_Money_sample|zzmea_Money_read|zzmef_Money_read|zzmea_Money_told|zzmef_Money_told|zzmea_Money_bounds|zzmef_Money_bounds|zznoa_Money_low|zznoa_Money_high|zzcpg_Pick|zzchd_Pick|zzcpo_Pick|zzcsa_Pick|zzcha_Pick|zzchn_Pick|zzctk_Pick|zzcmo_Pick|zzmkm_Pick|zzmki_Pick|zzmkf_Pick|zzmkk_Pick|zzmea_Pick_fits|zzmef_Pick_fits|zzmea_Pick_answer_of|zzmef_Pick_answer_of|zzmea_Pick_shown|zzmef_Pick_shown|zzmea_Pick_rank|zzmef_Pick_rank|zzmea_Pick_sample|zzmef_Pick_sample|zzmea_Pick_read|zzmef_Pick_read|zzmea_Pick_told|zzmef_Pick_told|zznoa_Pick_low|zznoa_Pick_high|zznoa_Pick_words|zzcpg_Names|zzchd_Names|zzcpo_Names|zzcsa_Names|zzcha_Names|zzchn_Names|zzctk_Names|zzcmo_Names|zzmkm_Names|zzmki_Names|zzmkf_Names|zzmkk_Names|zzmea_Names_fits|zzmef_Names_fits|zzmea_Names_answer_of|zzmef_Names_answer_of|zzmea_Names_shown|zzmef_Names_shown|zzmea_Names_rank|zzmef_Names_rank|zzmea_Names_sample|zzmef_Names_sample|zzmea_Names_read|zzmef_Names_read|zzmea_Names_told|zzmef_Names_told|zznoa_Names_low|zznoa_Names_high|zzcfr_Kind_init|zzcfa_Kind_init|zzcfs_Kind_init => k_is)
   exact T
#print axioms PySem.Challenge.cw_askpaper_k07_kinds_written_holds
