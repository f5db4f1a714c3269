import PyProof.Rows.All
import Wide.All
import OpenK.AllK
import Wide.FinOn
import Lean
import PyProof.EqAt
import PyProof.EqKinds
import PyProof.TupleCall
import PySem.Challenge.RW_strollhouse_k03_steps_and_shares_moved
set_option Elab.async false
set_option linter.all false
set_option maxRecDepth 100000
/-! THE HAND LAYER, for ints, bools, texts, own classes, LISTS and tuples (index, slices, in, append, pop ..), calls, loops. Paste it whole ahead of your own text; what your proof does not reach may be deleted. -/
namespace L2
open PySem PySem.Spec PyProof.Rows

/-- a key: an int or a str -/
abbrev Key := Sum Int Str
def keyIs : Key → Value → Bool
  | .inl k, v => Value.isInt k v
  | .inr x, v => Value.isStrOf x v
def keyH (w : World) : Key → Int
  | .inl k => hashInt k
  | .inr x => hashStr w x
theorem keyIs_shape : ∀ {k : Key} {v : Value}, keyIs k v = true → (∃ i t, k = Sum.inl i ∧ v = Value.int i t) ∨ (∃ x t, k = Sum.inr x ∧ v = Value.str x t)
  | .inl i, v, h => by
    obtain ⟨t, e⟩ := Value.isInt_shape (k := i) (v := v) h
    exact .inl ⟨i, t, rfl, e⟩
  | .inr x, v, h => by
    obtain ⟨t, e⟩ := Value.isStrOf_shape (x := x) (v := v) h
    exact .inr ⟨x, t, rfl, e⟩
theorem key_ll (a b : Int) : decide ((Sum.inl a : Key) = Sum.inl b) = (a == b) := by
  by_cases e : a = b
  · subst e; simp
  · have h : ¬ (Sum.inl a : Key) = Sum.inl b := fun q => e (Sum.inl.inj q)
    rw [decide_eq_false h]
    exact (beq_eq_false_iff_ne.mpr e).symm
theorem key_rr (a b : Str) : decide ((Sum.inr a : Key) = Sum.inr b) = decide (a = b) := by
  by_cases e : a = b
  · subst e; simp
  · have h : ¬ (Sum.inr a : Key) = Sum.inr b := fun q => e (Sum.inr.inj q)
    rw [decide_eq_false h, decide_eq_false e]
theorem key_lr (a : Int) (b : Str) : decide ((Sum.inl a : Key) = Sum.inr b) = false := decide_eq_false (fun q => nomatch q)
theorem key_rl (a : Str) (b : Int) : decide ((Sum.inr a : Key) = Sum.inl b) = false := decide_eq_false (fun q => nomatch q)

def mixKind (prog : Program) (w : World) : PySem.KeyKind prog w Key where
  is := keyIs
  hash := keyH w
  inj := fun v a b ha hb => by
    rcases keyIs_shape ha with ⟨i, t, rfl, rfl⟩ | ⟨x, t, rfl, rfl⟩
    · rcases keyIs_shape hb with ⟨j, u, rfl, e⟩ | ⟨y, u, rfl, e⟩
      · injection e with e1 _; rw [e1]
      · exact nomatch e
    · rcases keyIs_shape hb with ⟨j, u, rfl, e⟩ | ⟨y, u, rfl, e⟩
      · exact nomatch e
      · injection e with e1 _; rw [e1]
  byValue := fun k v h => by
    rcases keyIs_shape h with ⟨i, t, rfl, rfl⟩ | ⟨x, t, rfl, rfl⟩ <;> rfl
  pyHash := fun hv h => by
    rcases keyIs_shape hv with ⟨i, t, rfl, rfl⟩ | ⟨x, t, rfl, rfl⟩
    · exact wpAny_pyHash_int h
    · exact wpAny_pyHash_str h
  eqBool := fun hu hv h => by
    rcases keyIs_shape hu with ⟨i, t, rfl, rfl⟩ | ⟨x, t, rfl, rfl⟩
    · rcases keyIs_shape hv with ⟨j, u, rfl, rfl⟩ | ⟨y, u, rfl, rfl⟩
      · rw [key_ll] at h; exact wpAny_eqBool_int h
      · rw [key_lr] at h; exact SeqAt.EqAt.int_str i t y u _ _ _ _ h
    · rcases keyIs_shape hv with ⟨j, u, rfl, rfl⟩ | ⟨y, u, rfl, rfl⟩
      · rw [key_rl] at h; exact SeqAt.EqAt.str_int x t j u _ _ _ _ h
      · rw [key_rr] at h; exact wpAny_eqBool_str h
  «strs» := fun k x t v h => by
    rcases keyIs_shape h with ⟨i, u, rfl, e⟩ | ⟨y, u, rfl, e⟩
    · exact nomatch e
    · injection e with e1 _
      subst e1
      cases v <;> rfl

end L2

namespace L2
open PySem PySem.Spec PyProof.Rows

/-- a value, without the heap -/
inductive V where
  | non | bl (b : Bool) | int (i : Int) | str (x : Str) | byt (b : Array UInt8) | flt (b : UInt64) | ref (a : Addr) | ty (n : String)
  deriving DecidableEq

def RelV : V → Value → Prop
  | .non, u => u = Value.none
  | .bl b, u => u = Value.bool b
  | .int i, u => ∃ t, u = Value.int i t
  | .str x, u => ∃ t, u = Value.str x t
  | .byt b, u => ∃ t, u = Value.bytes b t
  | .flt b, u => ∃ t, u = Value.float b t
  | .ref a, u => u = Value.ref a
  | .ty n, u => u = Value.type n

abbrev Vals : List V → List Value → Prop := Paired RelV
theorem Vals.length {xs : List V} {us : List Value} (r : Vals xs us) : xs.length = us.length := Paired.length r
theorem Vals.get : ∀ {xs : List V} {us : List Value} {i : Nat} {x : V}, Vals xs us → xs[i]? = some x → ∃ u, us[i]? = some u ∧ RelV x u
  | _, _, _, _, .nil, e => by simp at e
  | _, _, 0, _, .cons r _, e => by simp at e; subst e; exact ⟨_, rfl, r⟩
  | _, _, i + 1, x, .cons _ t, e => by
    obtain ⟨u, h1, h2⟩ := Vals.get (i := i) (x := x) t (by simpa using e)
    exact ⟨u, by simpa using h1, h2⟩
theorem Vals.set {x : V} {u : Value} (r : RelV x u) : ∀ {xs : List V} {us : List Value} (i : Nat), Vals xs us → Vals (xs.set i x) (us.set i u)
  | _, _, _, .nil => .nil
  | _, _, 0, .cons _ t => .cons r t
  | _, _, i + 1, .cons q t => .cons q (Vals.set r i t)
theorem Vals.append : ∀ {xs ys : List V} {us ws : List Value}, Vals xs us → Vals ys ws → Vals (xs ++ ys) (us ++ ws)
  | _, _, _, _, .nil, s => s
  | _, _, _, _, .cons r t, s => .cons r (Vals.append t s)
theorem Vals.take : ∀ {xs : List V} {us : List Value} (n : Nat), Vals xs us → Vals (xs.take n) (us.take n)
  | _, _, 0, _ => .nil
  | _, _, _ + 1, .nil => .nil
  | _, _, n + 1, .cons r t => .cons r (Vals.take n t)
theorem Vals.drop : ∀ {xs : List V} {us : List Value} (n : Nat), Vals xs us → Vals (xs.drop n) (us.drop n)
  | _, _, 0, r => r
  | _, _, _ + 1, .nil => .nil
  | _, _, n + 1, .cons _ t => Vals.drop n t
def RelO : Option V → Option Value → Prop
  | some v, some u => RelV v u
  | none, none => True
  | _, _ => False
def KV {κ : Type} : List (κ × V) → List (κ × Value) → Prop := Paired fun (p : κ × V) (q : κ × Value) => p.1 = q.1 ∧ RelV p.2 q.2

/-- a key of a dict (00_mix): an int or a text -/
def kV : Key → V
  | .inl i => .int i
  | .inr x => .str x

/-- what stands at a tracked address -/
inductive HO where
  /-- a list -/
  | lst (xs : List V)
  /-- a tuple (never changes) -/
  | tup (xs : List V)
  /-- a dict whose keys are ints and texts; one whose keys are tuples of ints and texts (the empty one is both) -/
  | dK (kvs : List (Key × V)) | dT (kvs : List (List Key × V))
  /-- a set of ints: its members, its size -/
  | set (S : Int → Bool) (n : Nat)
  /-- an instance of the class at C, its dict at dx, its attributes -/
  | ins (C dx : Addr) (fs : List (Str × V))
  /-- the dict of the instance at x -/
  | own (x : Addr)
  /-- the dict of an exception -/
  | xd (fs : List (Str × V))
  /-- a bound method, f of x -/
  | met (f x : Addr)
  /-- a range object lo, lo + 1, .. below hi -/
  | rng (lo hi : Int)
  /-- a thing that is known to the object (the script; a dict while a loop walks it): read, never written while it is so -/
  | frz (o : Obj) (u : HO)
  /-- a code object's table -/
  | tbl (ps : Array Value)
  /-- any other thing, by what is true of its one object (a def of one's own: SetO a S n := HO.ext fun h => ..) -/
  | ext (φ : Heap → Prop)

abbrev Hp := Addr → Option HO
def upd (H : Hp) (a : Addr) (o : HO) : Hp := fun b => if b = a then some o else H b
theorem upd_same {H : Hp} {a : Addr} {o : HO} : upd H a o a = some o := by unfold upd; rw [if_pos rfl]
theorem upd_ne {H : Hp} {a b : Addr} {o : HO} (h : b ≠ a) : upd H a o b = H b := by unfold upd; rw [if_neg h]
theorem upd_upd {H : Hp} {a : Addr} {o u : HO} : upd (upd H a o) a u = upd H a u := by
  funext b; unfold upd; split <;> rfl
/-- two objects of different content stand apart -/
theorem ne_of {H : Hp} {a b : Addr} {o u : HO} (h : H a = some o) (h' : H b = some u) (d : o ≠ u) : a ≠ b := by
  intro e; subst e; rw [h] at h'; exact d (Option.some.inj h')
theorem ne_of_none {H : Hp} {a b : Addr} {o : HO} (h : H a = some o) (h' : H b = none) : a ≠ b := by
  intro e; subst e; rw [h] at h'; cases h'

section
variable (P : Program) (w : World)
def ObjOk (H : Hp) (h : Heap) (a : Addr) : HO → Prop
  | .lst xs => xs.length ≤ sizeLine ∧ ∃ (its : List Value) (n : Nat), Vals xs its ∧ h.get? a = some { cls := .type "list", data := .seq its.toArray n }
  | .tup xs => xs.length ≤ sizeLine ∧ ∃ its : List Value, Vals xs its ∧ IsTup h a its.toArray
  | .dK kvs => kvs.length ≤ sizeLine ∧ (a == sysModules) = false ∧ ∃ vs, KV kvs vs ∧ h.DictOf (mixKind P w) a vs
  | .dT kvs => kvs.length ≤ sizeLine ∧ (a == sysModules) = false ∧ ∃ xs : List (List Key × Addr × Value),
      Paired (fun (p : List Key × V) (q : List Key × Addr × Value) => p.1 = q.1 ∧ H q.2.1 = some (.tup (p.1.map kV)) ∧ RelV p.2 q.2.2) kvs xs ∧
      ∃ o es ep, h.get? a = some o ∧ o.ExactDict ∧ o.data = .dict es ep ∧ es.toList = xs.map (entryOfKey (tupleKind (mixKind P w))) ∧ (xs.map (·.1)).Nodup
  | .set S n => h.SetOf (intKind P w) a S n
  | .ins C dx fs => H dx = some (.own a) ∧ fs.length ≤ 1000 ∧ dx ≠ a ∧ h.get? a = some (PySem.W.instObj C dx) ∧
      ∃ mA, h.Ns1 dx mA ∧ (∀ f, RelO (fs.lookup f) (mA f)) ∧ PySem.Within mA (fs.map (·.1))
  | .own _ => ∃ o, h.get? a = some o
  | .xd fs => ∃ mA, h.Ns1 a mA ∧ ∀ f, RelO (fs.lookup f) (mA f)
  | .rng lo hi => ∃ t u v, h.get? a = some { cls := .type "range", data := .fields #[.int lo t, .int hi u, .int 1 v] }
  | .frz o u => h.get? a = some o ∧ ObjOk H h a u
  | .tbl ps => h.get? a = some { cls := .none, data := .fields ps }
  | .met f x => h.get? a = some (PySem.W.methodObj (.ref f) (.ref x))
  | .ext φ => φ h ∧ (∃ o, h.get? a = some o) ∧ ∀ h1 h2 : Heap, φ h1 → (∀ o, h1.get? a = some o → h2.get? a = some o) → φ h2
/-- the abstract heap is held -/
def HOk (H : Hp) (h : Heap) : Prop := ∀ a o, H a = some o → ObjOk P w H h a o
end

section
variable {P : Program} {w : World} {H H' : Hp} {h h' : Heap} {a : Addr} {o : HO}
theorem ObjOk.lt (x : ObjOk P w H h a o) : a < h.objs.size := by
  cases o with
  | lst xs => obtain ⟨_, _, _, _, e⟩ := x; exact Heap.lt_size e
  | tup xs => obtain ⟨_, _, _, p⟩ := x; exact p.lt
  | dK kvs => obtain ⟨_, _, _, _, o, _, _, e, _⟩ := x; exact Heap.lt_size e
  | dT kvs => obtain ⟨_, _, _, _, o, _, _, e, _⟩ := x; exact Heap.lt_size e
  | set S n => obtain ⟨o, _, _, _, e, _⟩ := x; exact Heap.lt_size e
  | ins C dx fs => obtain ⟨_, _, _, e, _⟩ := x; exact Heap.lt_size e
  | own y => obtain ⟨_, e⟩ := x; exact Heap.lt_size e
  | xd fs => obtain ⟨_, ⟨_, _, _, e, _⟩, _⟩ := x; exact Heap.lt_size e
  | rng lo hi => obtain ⟨_, _, _, e⟩ := x; exact Heap.lt_size e
  | frz ob u => obtain ⟨e, _⟩ := x; exact Heap.lt_size e
  | tbl ps => exact Heap.lt_size (show h.get? a = some _ from x)
  | met f y => exact Heap.lt_size (show h.get? a = some _ from x)
  | ext φ => obtain ⟨_, ⟨_, e⟩, _⟩ := x; exact Heap.lt_size e
theorem Paired.mapP {α β : Type} {F G : α → β → Prop} : ∀ {l₁ : List α} {l₂ : List β}, Paired F l₁ l₂ → (∀ a b, F a b → G a b) → Paired G l₁ l₂
  | _, _, .nil, _ => .nil
  | _, _, .cons r t, f => .cons (f _ _ r) (Paired.mapP t f)
/-- what an object's description leans on: its own object, its own dict, the tuples -/
theorem ObjOk.stay (x : ObjOk P w H h a o) (k : ∀ b u, (b = a ∨ H b = some (.own a)) → h.get? b = some u → h'.get? b = some u)
    (ho : ∀ b, H b = some (.own a) → H' b = some (.own a)) (ht : ∀ b xs, H b = some (.tup xs) → H' b = some (.tup xs)) : ObjOk P w H' h' a o := by
  induction o with
  | lst xs => obtain ⟨z, its, n, r, e⟩ := x; exact ⟨z, its, n, r, k _ _ (.inl rfl) e⟩
  | tup xs => obtain ⟨z, its, r, ob, e, c⟩ := x; exact ⟨z, its, r, ob, k _ _ (.inl rfl) e, c⟩
  | dK kvs => obtain ⟨z, y, vs, r, ob, es, ep, e, c⟩ := x; exact ⟨z, y, vs, r, ob, es, ep, k _ _ (.inl rfl) e, c⟩
  | dT kvs =>
    obtain ⟨z, y, xs, r, ob, es, ep, e, c⟩ := x
    exact ⟨z, y, xs, Paired.mapP r fun p q z => ⟨z.1, ht _ _ z.2.1, z.2.2⟩, ob, es, ep, k _ _ (.inl rfl) e, c⟩
  | set S n => obtain ⟨ob, es, ep, t, e, c⟩ := x; exact ⟨ob, es, ep, t, k _ _ (.inl rfl) e, c⟩
  | ins C dx fs =>
    obtain ⟨d, z, ne, e, mA, ⟨od, es, ep, e2, c⟩, r⟩ := x
    exact ⟨ho _ d, z, ne, k _ _ (.inl rfl) e, mA, ⟨od, es, ep, k _ _ (.inr d) e2, c⟩, r⟩
  | own y => obtain ⟨ob, e⟩ := x; exact ⟨ob, k _ _ (.inl rfl) e⟩
  | xd fs => obtain ⟨mA, ⟨od, es, ep, e, c⟩, r⟩ := x; exact ⟨mA, ⟨od, es, ep, k _ _ (.inl rfl) e, c⟩, r⟩
  | rng lo hi => obtain ⟨t, u, v, e⟩ := x; exact ⟨t, u, v, k _ _ (.inl rfl) e⟩
  | frz ob u ih => obtain ⟨e, q⟩ := x; exact ⟨k _ _ (.inl rfl) e, ih q⟩
  | tbl ps =>
    have e : h.get? a = some { cls := .none, data := .fields ps } := x
    show h'.get? a = some { cls := .none, data := .fields ps }
    exact k a _ (.inl rfl) e
  | met f y =>
    have e : h.get? a = some (PySem.W.methodObj (.ref f) (.ref y)) := x
    show h'.get? a = some (PySem.W.methodObj (.ref f) (.ref y))
    exact k a _ (.inl rfl) e
  | ext φ => obtain ⟨p, ⟨o, e⟩, st⟩ := x; exact ⟨st _ _ p fun o q => k _ _ (.inl rfl) q, ⟨o, k _ _ (.inl rfl) e⟩, st⟩
theorem HOk.lt (x : HOk P w H h) (e : H a = some o) : a < h.objs.size := (x a o e).lt
theorem HOk.fresh (x : HOk P w H h) (e : h.objs.size ≤ a) : H a = none := by
  cases q : H a with
  | none => rfl
  | some u => exact absurd (Nat.lt_of_lt_of_le (x.lt q) e) (Nat.lt_irrefl _)
/-- every object of the heap is kept -/
theorem HOk.kept (x : HOk P w H h) (k : ∀ b u, h.get? b = some u → h'.get? b = some u) : HOk P w H h' := fun a o e =>
  (x a o e).stay (fun b u _ q => k b u q) (fun _ q => q) fun _ _ q => q
/-- a new object is laid and tracked -/
theorem HOk.laid (x : HOk P w H h) (k : ∀ b u, h.get? b = some u → h'.get? b = some u) (hp : h.objs.size ≤ a) (new : ObjOk P w (upd H a o) h' a o) : HOk P w (upd H a o) h' := fun b u e => by
  have hn := x.fresh hp
  by_cases hb : b = a
  · subst hb; rw [upd_same] at e; cases e; exact new
  · rw [upd_ne hb] at e
    exact (x b u e).stay (fun c v _ q => k c v q) (fun c q => by rw [upd_ne (ne_of_none q hn)]; exact q) fun c xs q => by rw [upd_ne (ne_of_none q hn)]; exact q
end

/-- what may be read as u: it is u, or a known u -/
def Rd (H : Hp) (a : Addr) (u : HO) : Prop := H a = some u ∨ ∃ o, H a = some (.frz o u)
theorem Rd.ok {P : Program} {w : World} {H : Hp} {h : Heap} {a : Addr} {u : HO} (r : Rd H a u) (x : HOk P w H h) : ObjOk P w H h a u := by
  rcases r with r | ⟨o, r⟩
  · exact x a u r
  · obtain ⟨_, q⟩ := x a _ r
    exact q
/-- what may be written -/
def Mut : Option HO → Prop
  | some (.lst _) => True
  | some (.dK _) => True
  | some (.dT _) => True
  | some (.set _ _) => True
  | some (.ins _ _ _) => True
  | some (.ext _) => True
  | _ => False
section
variable {P : Program} {w : World} {H : Hp} {h h' : Heap} {x e : Addr} {o' : HO}
/-- the object at e is changed: x itself, or the dict of the instance x -/
theorem HOk.write (ok : HOk P w H h) (mu : Mut (H x)) (he : e = x ∨ H e = some (.own x)) (k : ∀ b u, b ≠ e → h.get? b = some u → h'.get? b = some u) (heo : ∃ u, h'.get? e = some u)
    (new : ObjOk P w (upd H x o') h' x o') : HOk P w (upd H x o') h' := fun b u q => by
  have nown : ∀ c y, H c = some (.own y) → c ≠ x := fun c y r z => by subst z; rw [r] at mu; exact mu
  have ntup : ∀ c xs, H c = some (.tup xs) → c ≠ x := fun c xs r z => by subst z; rw [r] at mu; exact mu
  by_cases hb : b = x
  · subst hb; rw [upd_same] at q; cases q; exact new
  · rw [upd_ne hb] at q
    by_cases hbe : b = e
    · have q' : H b = some (.own x) := by
        rcases he with z | z
        · exact absurd (hbe.trans z) hb
        · rw [hbe]; exact z
      rw [q] at q'; cases q'
      obtain ⟨v, hv⟩ := heo
      exact ⟨v, by rw [hbe]; exact hv⟩
    · refine (ok b u q).stay (fun c v hc r => k c v ?_ r) (fun c r => by rw [upd_ne (nown c b r)]; exact r) fun c xs r => by rw [upd_ne (ntup c xs r)]; exact r
      rcases hc with rfl | hc
      · exact hbe
      · rintro rfl
        rcases he with z | z
        · exact nown c b hc z
        · rw [hc] at z; cases z; exact hb rfl
end

/-! ### kept unless tracked; of the frames at fs (the callers') the slots may change (an exception that passes writes there); of the records at ex (iterators) nothing is said -/
structure Un (fs ex : List Addr) (H H' : Hp) (h h' : Heap) : Prop where
  keep : ∀ b o, h.get? b = some o → H b = none → b ∉ fs → b ∉ ex → h'.get? b = some o
  slot : ∀ b o, h.get? b = some o → H b = none → b ∈ fs → b ∉ ex → ∃ sl, h'.get? b = some { o with slots := sl }
  free : ∀ b o, h.get? b = some o → H b = none → b ∉ ex → H' b = none
  there : ∀ b o, h.get? b = some o → b ∉ ex → ∃ o', h'.get? b = some o'
  tups : ∀ b xs, H b = some (.tup xs) → H' b = some (.tup xs)
  frzs : ∀ b o u, H b = some (.frz o u) → H' b = some (.frz o u)
  tbls : ∀ b ps, H b = some (.tbl ps) → ∃ more, H' b = some (.tbl (ps ++ more))
section
variable {fs fs' ex ex' : List Addr} {H H1 H2 : Hp} {h h1 h2 h' : Heap} {a x e : Addr} {o : HO}
theorem Un.any (u : Un fs ex H H1 h h1) {b : Addr} {ob : Obj} (q : h.get? b = some ob) (n : H b = none) (hx : b ∉ ex) : ∃ sl, h1.get? b = some { ob with slots := sl } := by
  by_cases hb : b ∈ fs
  · exact u.slot b ob q n hb hx
  · exact ⟨ob.slots, u.keep b ob q n hb hx⟩
theorem Un.kept (k : ∀ b u, h.get? b = some u → h'.get? b = some u) : Un fs ex H H h h' :=
  ⟨fun b ob q _ _ _ => k b ob q, fun b ob q _ _ _ => ⟨ob.slots, k b ob q⟩, fun _ _ _ n _ => n, fun b ob q _ => ⟨ob, k b ob q⟩, fun _ _ q => q, fun _ _ _ q => q, fun _ ps q => ⟨#[], by rw [q]; simp⟩⟩
theorem Un.refl : Un fs ex H H h h := Un.kept fun _ _ q => q
theorem Un.laid (k : ∀ b u, h.get? b = some u → h'.get? b = some u) (hp : h.objs.size ≤ a) (hn : H a = none) : Un fs ex H (upd H a o) h h' where
  keep := fun b u q _ _ _ => k b u q
  slot := fun b u q _ _ _ => ⟨u.slots, k b u q⟩
  free := fun b u q n _ => by rw [upd_ne (Nat.ne_of_lt (Nat.lt_of_lt_of_le (Heap.lt_size q) hp))]; exact n
  there := fun b u q _ => ⟨u, k b u q⟩
  tups := fun b xs q => by rw [upd_ne (ne_of_none q hn)]; exact q
  frzs := fun b u xs q => by rw [upd_ne (ne_of_none q hn)]; exact q
  tbls := fun b ps q => ⟨#[], by rw [upd_ne (ne_of_none q hn), q]; simp⟩
theorem Un.write (mu : Mut (H x)) (he : e = x ∨ H e = some (.own x)) (k : ∀ b u, b ≠ e → h.get? b = some u → h'.get? b = some u) (heo : ∃ u, h'.get? e = some u) : Un fs ex H (upd H x o) h h' := by
  have hx : ∀ b, H b = none → b ≠ x := fun b n z => by subst z; rw [n] at mu; exact mu
  have hb : ∀ b, H b = none → b ≠ e := fun b n z => by
    subst z
    rcases he with r | r
    · exact hx b n r
    · rw [n] at r; cases r
  have hm : ∀ b u, H b = some u → ¬ Mut (some u) → b ≠ x := fun b u q nm z => by subst z; rw [q] at mu; exact nm mu
  refine ⟨fun b u q n _ _ => k b u (hb b n) q, fun b u q n _ _ => ⟨u.slots, k b u (hb b n) q⟩, fun b u q n _ => by rw [upd_ne (hx b n)]; exact n, fun b u q _ => ?_,
    fun b xs q => by rw [upd_ne (hm b _ q fun z => z)]; exact q, fun b u xs q => by rw [upd_ne (hm b _ q fun z => z)]; exact q, fun b ps q => ⟨#[], by rw [upd_ne (hm b _ q fun z => z), q]; simp⟩⟩
  by_cases hbe : b = e
  · subst hbe; exact heo
  · exact ⟨u, k b u hbe q⟩
end

/-! ### the heap without what is tracked -/
def trk (h : Heap) (H : Hp) : List Addr := (List.range h.objs.size).filter fun a => (H a).isSome
def hidT (h : Heap) (H : Hp) : Heap := PySem.W.hideAll h (trk h H)
theorem hidT_size (h : Heap) (H : Hp) : (hidT h H).objs.size = h.objs.size := PySem.W.hideAll_size _ _
theorem hidT_get {h : Heap} {H : Hp} {b : Addr} {o : Obj} (e : h.get? b = some o) (n : H b = none) : (hidT h H).get? b = some o :=
  PySem.W.hideAll_get _ e fun hm => by
    have q : (H b).isSome = true := (List.mem_filter.mp hm).2
    rw [n] at q; simp at q
theorem of_hidT {h : Heap} {H : Hp} {b : Addr} {o : Obj} (e : (hidT h H).get? b = some o) : h.get? b = some o ∧ H b = none := by
  have e' : h.get? b = some o := PySem.W.of_hideAll (trk h H) e
  refine ⟨e', ?_⟩
  cases q : H b with
  | none => rfl
  | some x =>
    have hm : b ∈ trk h H := List.mem_filter.mpr ⟨List.mem_range.mpr (Heap.lt_size e'), by simp [q]⟩
    have z : (hidT h H).get? b = none := PySem.W.hideAll_none (trk h H) hm
    rw [z] at e; cases e

/-! ### OpenK's ledger, filled with every new object but one -/
def allNews (g h : Heap) (L : Addr) : List (Addr × Obj) := (List.range h.objs.size).filterMap fun a => if a = L ∨ (g.get? a).isSome = true then none else (h.get? a).map fun o => (a, o)
def rest (g h : Heap) (L d : Addr) : List (Addr × Obj) := (allNews g h L).filter fun p => decide (p.1 ≠ d)
end L2

namespace L2
open PySem PySem.Spec PyProof.Rows

/-- the module's facts, over the base: the heap at the law's entry without what is tracked there -/
structure Mod (K : PySem.W.Frag) (mg : Str → Option Value) (base : Heap) : Prop where
  kin : K.In base
  glob : base.Ns mainGlobals mg
  blt : ∃ mb, base.Ns builtinsNs mb ∧ ∀ x : Str, x ≠ "__name__" → mb x = bootBuiltins x
  nolimit : base.NoLimit

/-- the context: a def's body (or a comprehension's block) running. base: fixed through the whole law; s₀, H₀: the entry; outer: the frames whose slots others may change (a def's callers); stack: all frames that run;
   ex: iterators that were made ahead of the entry and are walked here (a comprehension's); fn: the names whose cells were made at the entry (a def: all; a comprehension's block: its own); calm: not within an except suite; pn: pins that every state bears; xe: what is wanted of an exception that leaves the code -/
structure Cx where
  prog : Program
  w : World
  K : PySem.W.Frag
  mg : Str → Option Value
  base : Heap
  A : Around
  N : List Str
  s₀ : Shared
  H₀ : Hp
  env : Env
  outer : List Env
  stack : List Env
  ex : List Addr
  fn : Str → Bool
  calm : Bool
  pn : List (Addr × Obj)
  xe : Value → Shared → Prop
/-- the callers' frames -/
def frs (l : List Env) : List Addr := l.filterMap (·.frame)
abbrev Cx.fs (X : Cx) : List Addr := frs X.outer

def Vis (sc : Scope) (x : Str) : Prop := sc.names.lookup x = some .local ∨ sc.names.lookup x = some .cell ∨ sc.names.lookup x = some .free
def Loc (sc : Scope) (x : Str) : Prop := sc.names.lookup x = some .local ∨ sc.names.lookup x = some .cell
def Look (env : Env) (h : Heap) (m : Str → Option Value) (x : Str) (u : Value) : Prop :=
  (env.kindOf x = some .local ∧ m x = some u) ∨ ((env.kindOf x = some .cell ∨ env.kindOf x = some .free) ∧ ∃ c, env.cells.lookup x = some c ∧ h.IsCell c (some u))

structure Cx.Ok (X : Cx) : Prop where
  mod : Mod X.K X.mg X.base
  kind : X.env.scope.kind = .function
  glob : X.env.globals = mainGlobals
  blt : X.env.builtins = builtinsNs
  above : X.s₀.heap.objs.size ≤ X.env.locals
  inj : ∀ x y c, X.env.cells.lookup x = some c → X.env.cells.lookup y = some c → x = y
  has : ∀ x, (X.env.kindOf x = some .cell ∨ X.env.kindOf x = some .free) → ∃ c, X.env.cells.lookup x = some c
  cab : ∀ x c, X.fn x = true → X.env.cells.lookup x = some c → X.s₀.heap.objs.size ≤ c
  hd : X.calm = true → X.A.handled = none
  frames : X.A.frames = some X.stack
  stk : X.stack = X.outer ∨ (X.stack = X.env :: X.outer ∧ X.env.frame = some X.env.locals)
  exf : ∀ b ∈ X.ex, b ≠ X.env.locals ∧ ∀ x c, X.env.cells.lookup x = some c → c ≠ b
  bs : ∀ b o, X.base.get? b = some o → X.s₀.heap.get? b = some o ∧ X.H₀ b = none
  bsz : X.base.objs.size ≤ X.s₀.heap.objs.size
  noex : ∀ b o, X.base.get? b = some o → b ∉ X.ex
  exfs : ∀ b ∈ X.ex, b ∉ X.fs
  funs : X.s₀.heap.FunFrames X.base X.outer
  frf : ∀ b ∈ X.fs, X.H₀ b = none

structure Inv (X : Cx) (pins : List (Addr × Obj)) (σ : List (Option V)) (H : Hp) (s : Shared) : Prop where
  ok : X.Ok
  os : s.os = X.s₀.os
  bare : AllBare s.gens
  base : Un X.fs X.ex X.H₀ H X.s₀.heap s.heap
  loc : ∃ m, s.heap.Ns X.env.locals m ∧ ∀ (i : Nat) (x : Str) (v : V), X.N[i]? = some x → σ[i]? = some (some v) → Vis X.env.scope x → ∃ u, RelV v u ∧ Look X.env s.heap m x u
  cell : ∀ x c, X.env.cells.lookup x = some c → ∃ v, s.heap.IsCell c v
  free : H X.env.locals = none
  freeC : ∀ x c, X.env.cells.lookup x = some c → H c = none
  pin : ∀ p ∈ X.pn ++ pins, s.heap.get? p.1 = some p.2 ∧ H p.1 = none ∧ p.1 ≠ X.env.locals ∧ p.1 ∉ X.fs ∧ ∀ v, p.2.data ≠ .cell v
  hok : HOk X.prog X.w H s.heap
  len : σ.length = X.N.length

section
variable {X : Cx} {pins : List (Addr × Obj)} {σ : List (Option V)} {H H' : Hp} {s : Shared} {h' : Heap}

theorem Cx.Ok.nofr (ok : X.Ok) {b : Addr} {o : Obj} (e : X.base.get? b = some o) : b ∉ X.fs := fun hb => by
  have := (ok.funs.mem hb).1
  rw [e] at this; cases this
theorem Inv.bs (I : Inv X pins σ H s) : ∀ b o, X.base.get? b = some o → s.heap.get? b = some o ∧ H b = none := fun b o e =>
  ⟨I.base.keep b o (I.ok.bs b o e).1 (I.ok.bs b o e).2 (I.ok.nofr e) (I.ok.noex b o e), I.base.free b o (I.ok.bs b o e).1 (I.ok.bs b o e).2 (I.ok.noex b o e)⟩
theorem Inv.bk (I : Inv X pins σ H s) : ∀ b o, X.base.get? b = some o → s.heap.get? b = some o := fun b o e => (I.bs b o e).1
theorem Inv.mod (I : Inv X pins σ H s) : Mod X.K X.mg X.base := I.ok.mod
theorem Inv.kIn (I : Inv X pins σ H s) : X.K.In s.heap := I.ok.mod.kin.keeps I.bk
theorem Inv.lt (I : Inv X pins σ H s) : X.env.locals < s.heap.objs.size := let ⟨_, hn, _⟩ := I.loc; hn.lt
theorem Inv.sz (I : Inv X pins σ H s) : X.s₀.heap.objs.size ≤ s.heap.objs.size := Nat.le_trans I.ok.above (Nat.le_of_lt I.lt)
theorem Inv.nofs (I : Inv X pins σ H s) {a : Addr} (h : s.heap.objs.size ≤ a) : a ∉ X.fs := fun hb => by
  obtain ⟨_, o, ho, _⟩ := I.ok.funs.mem hb
  exact absurd (Nat.lt_of_lt_of_le (Heap.lt_size ho) (Nat.le_trans I.sz h)) (Nat.lt_irrefl _)
theorem Inv.cne (I : Inv X pins σ H s) : ∀ x c, X.env.cells.lookup x = some c → c ≠ X.env.locals := fun x c e z => by
  obtain ⟨v, o, ho, hd⟩ := I.cell x c e
  obtain ⟨m, ⟨o', es, ep, ho', hd', _⟩, _⟩ := I.loc
  rw [z, ho'] at ho; cases ho; rw [hd'] at hd; cases hd
theorem Inv.funs (I : Inv X pins σ H s) : s.heap.FunFrames X.base X.outer := by
  have all : ∀ (l : List Env), (∀ b ∈ frs l, b ∈ X.fs) → X.s₀.heap.FunFrames X.base l → s.heap.FunFrames X.base l := by
    intro l
    induction l with
    | nil => intro _ _; trivial
    | cons env r ih =>
      intro hs hl
      obtain ⟨hk, ⟨L, o, hf, hn, ho, hd⟩, hr⟩ := hl
      have hL : L ∈ X.fs := hs L (by unfold frs; rw [List.filterMap_cons, hf]; exact List.mem_cons_self)
      obtain ⟨sl, e⟩ := I.base.slot L o ho (I.ok.frf L hL) hL fun z => I.ok.exfs L z hL
      exact ⟨hk, ⟨L, _, hf, hn, e, hd⟩, ih (fun b hb => hs b (by unfold frs; rw [List.filterMap_cons, hf]; exact List.mem_cons_of_mem _ hb)) hr⟩
  exact all X.outer (fun _ hb => hb) I.ok.funs

/-- the frames that run, for a call -/
theorem Inv.stack (I : Inv X pins σ H s) : s.heap.FunFrames X.base X.stack := by
  rcases I.ok.stk with e | ⟨e, hf⟩
  · rw [e]; exact I.funs
  · rw [e]
    obtain ⟨m, hn, _⟩ := I.loc
    refine .cons (by rw [I.ok.kind]; decide) hf hn ?_ I.funs
    exact Heap.get?_none_of_le (Nat.le_trans I.ok.bsz I.ok.above)
theorem Inv.stkSub (I : Inv X pins σ H s) : ∀ b ∈ frs X.stack, b ∈ X.env.locals :: X.fs := fun b hb => by
  rcases I.ok.stk with e | ⟨e, hf⟩
  · rw [e] at hb; exact List.mem_cons_of_mem _ hb
  · rw [e] at hb
    unfold frs at hb
    rw [List.filterMap_cons, hf] at hb
    exact hb
theorem Inv.stkFree (I : Inv X pins σ H s) : ∀ b ∈ frs X.stack, H b = none := fun b hb => by
  rcases List.mem_cons.mp (I.stkSub b hb) with e | hb
  · rw [e]; exact I.free
  · obtain ⟨_, o, ho, _⟩ := I.ok.funs.mem hb
    exact I.base.free b o ho (I.ok.frf b hb) fun z => I.ok.exfs b z hb

/-- THE STEP: the untracked objects but the frame and the records at ch are kept (the callers' frames up to slots), the frame's map is kept, the new abstract heap is held -/
theorem Inv.step {g' : Array GenState} {t' : Nat} {d' : Drawn} {ch : List Addr} (I : Inv X pins σ H s)
    (hch : ∀ b ∈ ch, (b ∈ X.ex ∨ X.s₀.heap.objs.size ≤ b) ∧ b ≠ X.env.locals ∧ (∀ x c, X.env.cells.lookup x = some c → c ≠ b) ∧ ∀ p ∈ X.pn ++ pins, p.1 ≠ b)
    (keep : ∀ b o, b ≠ X.env.locals → b ∉ X.fs → b ∉ ch → s.heap.get? b = some o → H b = none → h'.get? b = some o)
    (slot : ∀ b o, b ≠ X.env.locals → b ∈ X.fs → b ∉ ch → s.heap.get? b = some o → H b = none → ∃ sl, h'.get? b = some { o with slots := sl }) (free : ∀ b o, b ∉ ch → s.heap.get? b = some o → H b = none → H' b = none)
    (there : ∀ b o, b ∉ ch → s.heap.get? b = some o → ∃ o', h'.get? b = some o')
    (tups : ∀ b xs, H b = some (.tup xs) → H' b = some (.tup xs)) (frzs : ∀ b o u, H b = some (.frz o u) → H' b = some (.frz o u)) (tbls : ∀ b ps, H b = some (.tbl ps) → ∃ more, H' b = some (.tbl (ps ++ more)))
    (ns : ∀ m, s.heap.Ns X.env.locals m → h'.Ns X.env.locals m) (hok : HOk X.prog X.w H' h') (hg : AllBare g') :
    Inv X pins σ H' { s with heap := h', gens := g', drawn := d', toks := t' } := by
  have neL : ∀ b o, X.s₀.heap.get? b = some o → b ≠ X.env.locals := fun b o e => Nat.ne_of_lt (Nat.lt_of_lt_of_le (Heap.lt_size e) I.ok.above)
  have neC : ∀ b o, X.s₀.heap.get? b = some o → b ∉ X.ex → b ∉ ch := fun b o e hx hb => by
    rcases (hch b hb).1 with z | z
    · exact hx z
    · exact absurd (Nat.lt_of_lt_of_le (Heap.lt_size e) z) (Nat.lt_irrefl _)
  have cellK : ∀ x c, X.env.cells.lookup x = some c → ∀ v, s.heap.IsCell c v → h'.IsCell c v := fun x c e v ⟨o, ho, hd⟩ => by
    have nch : c ∉ ch := fun z => (hch c z).2.2.1 x c e rfl
    by_cases hc : c ∈ X.fs
    · obtain ⟨sl, q⟩ := slot c o (I.cne x c e) hc nch ho (I.freeC x c e)
      exact ⟨_, q, hd⟩
    · exact ⟨o, keep c o (I.cne x c e) hc nch ho (I.freeC x c e), hd⟩
  refine ⟨I.ok, I.os, hg, ⟨fun b o e n hb hx => ?_, fun b o e n hb hx => ?_, fun b o e n hx => ?_, fun b o e hx => ?_, fun b xs e => tups b xs (I.base.tups b xs e), fun b o xs e => frzs b o xs (I.base.frzs b o xs e), fun b ps e => ?_⟩, ?_, fun x c e => ?_, ?_, fun x c e => ?_, fun p hp => ?_, hok, I.len⟩
  · exact keep b o (neL b o e) hb (neC b o e hx) (I.base.keep b o e n hb hx) (I.base.free b o e n hx)
  · obtain ⟨sl, e1⟩ := I.base.slot b o e n hb hx
    obtain ⟨sl', e2⟩ := slot b _ (neL b o e) hb (neC b o e hx) e1 (I.base.free b o e n hx)
    exact ⟨sl', e2⟩
  · obtain ⟨o', e1⟩ := I.base.there b o e hx
    exact free b o' (neC b o e hx) e1 (I.base.free b o e n hx)
  · obtain ⟨o', e1⟩ := I.base.there b o e hx
    exact there b o' (neC b o e hx) e1
  · obtain ⟨m1, e1⟩ := I.base.tbls b ps e
    obtain ⟨m2, e2⟩ := tbls b _ e1
    exact ⟨m1 ++ m2, by rw [e2, Array.append_assoc]⟩
  · obtain ⟨m, hn, hl⟩ := I.loc
    refine ⟨m, ns m hn, fun i x v e1 e2 e3 => ?_⟩
    obtain ⟨u, r, l⟩ := hl i x v e1 e2 e3
    refine ⟨u, r, ?_⟩
    rcases l with l | ⟨k, c, e, z⟩
    · exact .inl l
    · exact .inr ⟨k, c, e, cellK x c e _ z⟩
  · obtain ⟨v, z⟩ := I.cell x c e
    exact ⟨v, cellK x c e v z⟩
  · obtain ⟨m, ⟨o, _, _, ho, _⟩, _⟩ := I.loc
    exact free _ o (fun z => (hch _ z).2.1 rfl) ho I.free
  · obtain ⟨v, o, ho, hd⟩ := I.cell x c e
    exact free c o (fun z => (hch c z).2.2.1 x c e rfl) ho (I.freeC x c e)
  · obtain ⟨e, n, ne, nf, d⟩ := I.pin p hp
    have nch : p.1 ∉ ch := fun z => (hch p.1 z).2.2.2 p hp rfl
    exact ⟨keep p.1 p.2 ne nf nch e n, free p.1 p.2 nch e n, ne, nf, d⟩
/-- .. where the frame's own object is kept too -/
theorem Inv.un {t' : Nat} (I : Inv X pins σ H s) (u : Un X.fs [] H H' s.heap h') (hok : HOk X.prog X.w H' h') : Inv X pins σ H' { s with heap := h', toks := t' } := by
  obtain ⟨m, ⟨o, es, ep, ho, r⟩, _⟩ := id I.loc
  obtain ⟨sl, hL⟩ := u.any ho I.free (by simp)
  exact I.step (g' := s.gens) (d' := s.drawn) (ch := []) (fun _ z => nomatch z) (fun b o _ hb _ e n => u.keep b o e n hb (by simp)) (fun b o _ hb _ e n => u.slot b o e n hb (by simp)) (fun b o _ e n => u.free b o e n (by simp)) (fun b o _ e => u.there b o e (by simp)) u.tups u.frzs u.tbls (fun m' hm => by
    obtain ⟨o', es', ep', ho', r'⟩ := hm
    rw [ho] at ho'; cases ho'
    exact ⟨_, es', ep', hL, r'⟩) hok I.bare
/-- behind a call (or a comprehension's block): the slots of this frame may have changed too, the records at ch may have turned -/
theorem Inv.call {g' : Array GenState} {t' : Nat} {d' : Drawn} {ch : List Addr} (I : Inv X pins σ H s) (u : Un (frs X.stack) ch H H' s.heap h') (hok : HOk X.prog X.w H' h') (hg : AllBare g')
    (hch : ∀ b ∈ ch, (b ∈ X.ex ∨ X.s₀.heap.objs.size ≤ b) ∧ b ≠ X.env.locals ∧ (∀ x c, X.env.cells.lookup x = some c → c ≠ b) ∧ ∀ p ∈ X.pn ++ pins, p.1 ≠ b) :
    Inv X pins σ H' { s with heap := h', gens := g', drawn := d', toks := t' } := by
  obtain ⟨m, ⟨o, es, ep, ho, r⟩, _⟩ := id I.loc
  obtain ⟨sl, hL⟩ := u.any ho I.free fun z => (hch _ z).2.1 rfl
  exact I.step (ch := ch) hch (fun b o hL hb hc e n => u.keep b o e n (fun z => (List.mem_cons.mp (I.stkSub b z)).elim hL hb) hc) (fun b o _ _ hc e n => u.any e n hc) (fun b o hc e n => u.free b o e n hc) (fun b o hc e => u.there b o e hc) u.tups u.frzs u.tbls (fun m' hm => by
    obtain ⟨o', es', ep', ho', r'⟩ := hm
    rw [ho] at ho'; cases ho'
    exact ⟨_, es', ep', hL, r'⟩) hok hg
/-- an untracked record of ours (an iterator) has turned -/
theorem Inv.turned {t' : Nat} {it : Addr} (I : Inv X pins σ H s) (k : ∀ b o, b ≠ it → s.heap.get? b = some o → h'.get? b = some o) (hn : H it = none) (hL : it ≠ X.env.locals)
    (h1 : it ∈ X.ex ∨ X.s₀.heap.objs.size ≤ it) (h2 : ∀ x c, X.env.cells.lookup x = some c → c ≠ it) (h3 : ∀ p ∈ X.pn ++ pins, p.1 ≠ it) : Inv X pins σ H { s with heap := h', toks := t' } := by
  have nit : ∀ b u, H b = some u → b ≠ it := fun b u e z => by rw [z, hn] at e; cases e
  refine I.step (g' := s.gens) (d' := s.drawn) (ch := [it]) (fun b hb => ?_) (fun b o _ _ hc e _ => k b o (fun z => hc (by simp [z])) e) (fun b o _ _ hc e _ => ⟨o.slots, k b o (fun z => hc (by simp [z])) e⟩) (fun _ _ _ _ n => n)
    (fun b o hc e => ⟨o, k b o (fun z => hc (by simp [z])) e⟩) (fun _ _ e => e) (fun _ _ _ e => e) (fun b ps e => ⟨#[], by rw [e]; simp⟩) (fun m hm => ?_) (fun b u e => ?_) I.bare
  · have e : b = it := by simpa using hb
    subst e
    exact ⟨h1, hL, h2, h3⟩
  · obtain ⟨o, es, ep, ho, r⟩ := hm
    exact ⟨o, es, ep, k _ o (Ne.symm hL) ho, r⟩
  · refine (I.hok b u e).stay (fun c v hc q => k c v ?_ q) (fun _ q => q) fun _ _ q => q
    rcases hc with z | z
    · rw [z]; exact nit b u e
    · exact nit c _ z
theorem Inv.tok (I : Inv X pins σ H s) (t : Nat) : Inv X pins σ H { s with toks := t } := I.un (h' := s.heap) (t' := t) Un.refl I.hok
/-- all objects kept -/
theorem Inv.kept {t' : Nat} (I : Inv X pins σ H s) (k : ∀ b u, s.heap.get? b = some u → h'.get? b = some u) : Inv X pins σ H { s with heap := h', toks := t' } := I.un (Un.kept k) (I.hok.kept k)
/-- a new object laid and tracked -/
theorem Inv.laid {a : Addr} {o : HO} {t' : Nat} (I : Inv X pins σ H s) (k : ∀ b u, s.heap.get? b = some u → h'.get? b = some u) (hp : s.heap.objs.size ≤ a) (new : ObjOk X.prog X.w (upd H a o) h' a o) :
    Inv X pins σ (upd H a o) { s with heap := h', toks := t' } := I.un (Un.laid k hp (I.hok.fresh hp)) (I.hok.laid k hp new)
/-- an object written -/
theorem Inv.write {x e : Addr} {o : HO} {t' : Nat} (I : Inv X pins σ H s) (mu : Mut (H x)) (he : e = x ∨ H e = some (.own x)) (k : ∀ b u, b ≠ e → s.heap.get? b = some u → h'.get? b = some u) (heo : ∃ u, h'.get? e = some u)
    (new : ObjOk X.prog X.w (upd H x o) h' x o) : Inv X pins σ (upd H x o) { s with heap := h', toks := t' } := I.un (Un.write mu he k heo) (I.hok.write mu he k heo new)
theorem Inv.pins_of {pins' : List (Addr × Obj)} (I : Inv X pins σ H s) (h : ∀ p ∈ pins', s.heap.get? p.1 = some p.2 ∧ H p.1 = none ∧ p.1 ≠ X.env.locals ∧ p.1 ∉ X.fs ∧ ∀ v, p.2.data ≠ .cell v) : Inv X pins' σ H s :=
  ⟨I.ok, I.os, I.bare, I.base, I.loc, I.cell, I.free, I.freeC, fun p hp => (List.mem_append.mp hp).elim (fun z => I.pin p (List.mem_append_left _ z)) (h p), I.hok, I.len⟩

theorem nodup_ix {N : List Str} (hN : N.Nodup) {i j : Nat} {x : Str} (a : N[i]? = some x) (b : N[j]? = some x) : i = j := by
  obtain ⟨h1, e1⟩ := List.getElem?_eq_some_iff.mp a
  obtain ⟨h2, e2⟩ := List.getElem?_eq_some_iff.mp b
  exact (List.getElem_inj hN).mp (e1.trans e2.symm)

/-- a name is stored; what changed -/
theorem store_ok2 {M : Model} {A : Around} {E : Value → Shared → Prop} {i : Nat} {x : Str} {v : V} {u : Value} {Q : Unit → Shared → Prop} (I : Inv X pins σ H s) (hN : X.N.Nodup) (hi : X.N[i]? = some x) (hx : Loc X.env.scope x) (r : RelV v u)
    (h : ∀ s', Inv X pins (σ.set i (some v)) H s' → (∃ a, Heap.SameBut a s.heap s'.heap ∧ (a = X.env.locals ∨ X.env.cells.lookup x = some a)) → Q () s') (hf : X.fn x = true ∨ X.env.scope.names.lookup x = some .local := by first | exact .inl rfl | exact .inr rfl | assumption) : wpAny M A (storeName X.env x u) Q E s := by
  obtain ⟨m, hn, hl⟩ := id I.loc
  have hcls : (X.env.scope.kind == .class || (X.env.scope.kind == .module && X.env.locals != X.env.globals)) = false := by rw [I.ok.kind]; rfl
  have hiσ : i < σ.length := by rw [I.len]; exact (List.getElem?_eq_some_iff.mp hi).1
  have cne := I.cne
  have tracked : ∀ {a : Addr} {h' : Heap}, (∃ o, s.heap.get? a = some o ∧ H a = none) → Heap.SameBut a s.heap h' → HOk X.prog X.w H h' := fun {a h'} ha hs b ob e => by
    obtain ⟨_, _, hfree⟩ := ha
    refine (I.hok b ob e).stay (fun c w' hc q => (hs.2 c ?_).trans q) (fun _ q => q) fun _ _ q => q
    rintro rfl
    rcases hc with rfl | hc
    · rw [hfree] at e; cases e
    · rw [hfree] at hc; cases hc
  rcases hx with hk | hk
  · refine wpAny_storeName_local hk hn (fun h' hn' hs => ?_) hcls
    obtain ⟨oL, _, _, hoL, _⟩ := id hn
    refine h _ ⟨I.ok, I.os, I.bare, ⟨fun b o e n hb hx => ?_, fun b o e n hb hx => ?_, I.base.free, fun b o e hx => ?_, I.base.tups, I.base.frzs, I.base.tbls⟩, ⟨_, hn', fun j y v' e1 e2 e3 => ?_⟩, fun y c e => ?_, I.free, I.freeC, fun p hp => ?_, tracked ⟨oL, hoL, I.free⟩ hs, by simpa using I.len⟩ ⟨_, hs, .inl rfl⟩
    · exact (hs.2 b (Nat.ne_of_lt (Nat.lt_of_lt_of_le (Heap.lt_size e) I.ok.above))).trans (I.base.keep b o e n hb hx)
    · obtain ⟨sl, e1⟩ := I.base.slot b o e n hb hx
      exact ⟨sl, (hs.2 b (Nat.ne_of_lt (Nat.lt_of_lt_of_le (Heap.lt_size e) I.ok.above))).trans e1⟩
    · obtain ⟨o', e1⟩ := I.base.there b o e hx
      exact ⟨o', (hs.2 b (Nat.ne_of_lt (Nat.lt_of_lt_of_le (Heap.lt_size e) I.ok.above))).trans e1⟩
    · by_cases hj : j = i
      · subst hj
        rw [hi] at e1; cases e1
        rw [List.getElem?_set_self hiσ] at e2
        cases e2
        exact ⟨u, r, .inl ⟨hk, by simp⟩⟩
      · rw [List.getElem?_set_ne (Ne.symm hj)] at e2
        obtain ⟨u', r', q⟩ := hl j y v' e1 e2 e3
        refine ⟨u', r', ?_⟩
        rcases q with ⟨k, e⟩ | ⟨k, c, e, z⟩
        · refine .inl ⟨k, ?_⟩
          have : y ≠ x := fun e => hj (nodup_ix hN e1 (e ▸ hi))
          simp [this, e]
        · exact .inr ⟨k, c, e, z.sameBut hs (cne y c e)⟩
    · obtain ⟨w', z⟩ := I.cell y c e
      exact ⟨w', z.sameBut hs (cne y c e)⟩
    · obtain ⟨e, n, ne, nf, d⟩ := I.pin p hp
      exact ⟨(hs.2 p.1 ne).trans e, n, ne, nf, d⟩
  · have hfn : X.fn x = true := by
      rcases hf with z | z
      · exact z
      · rw [z] at hk; cases hk
    obtain ⟨c, hc⟩ := I.ok.has x (.inl hk)
    obtain ⟨w', z⟩ := I.cell x c hc
    refine wpAny_storeName_cell I.ok.kind hk hc z (fun h' hc' hs => ?_)
    obtain ⟨oc, hoc, hocd⟩ := id z
    refine h { s with heap := h' } ⟨I.ok, I.os, I.bare, ⟨fun b o e n hb hx => ?_, fun b o e n hb hx => ?_, I.base.free, fun b o e hx => ?_, I.base.tups, I.base.frzs, I.base.tbls⟩, ⟨m, hn.sameBut hs (Ne.symm (cne x c hc)), fun j y v' e1 e2 e3 => ?_⟩, fun y c' e => ?_, I.free, I.freeC, fun p hp => ?_, tracked ⟨oc, hoc, I.freeC x c hc⟩ hs, by simpa using I.len⟩ ⟨c, hs, .inr hc⟩
    · exact (hs.2 b (Nat.ne_of_lt (Nat.lt_of_lt_of_le (Heap.lt_size e) (I.ok.cab x c hfn hc)))).trans (I.base.keep b o e n hb hx)
    · obtain ⟨sl, e1⟩ := I.base.slot b o e n hb hx
      exact ⟨sl, (hs.2 b (Nat.ne_of_lt (Nat.lt_of_lt_of_le (Heap.lt_size e) (I.ok.cab x c hfn hc)))).trans e1⟩
    · obtain ⟨o', e1⟩ := I.base.there b o e hx
      exact ⟨o', (hs.2 b (Nat.ne_of_lt (Nat.lt_of_lt_of_le (Heap.lt_size e) (I.ok.cab x c hfn hc)))).trans e1⟩
    · by_cases hj : j = i
      · subst hj
        rw [hi] at e1; cases e1
        rw [List.getElem?_set_self hiσ] at e2
        cases e2
        exact ⟨u, r, .inr ⟨.inl hk, c, hc, hc'⟩⟩
      · rw [List.getElem?_set_ne (Ne.symm hj)] at e2
        obtain ⟨u', r', q⟩ := hl j y v' e1 e2 e3
        refine ⟨u', r', ?_⟩
        rcases q with q | ⟨k, c', e, z'⟩
        · exact .inl q
        · refine .inr ⟨k, c', e, z'.sameBut hs ?_⟩
          rintro rfl
          exact hj (nodup_ix hN e1 (I.ok.inj _ _ _ e hc ▸ hi))
    · by_cases hcc : c' = c
      · subst hcc; exact ⟨_, hc'⟩
      · obtain ⟨w2, z2⟩ := I.cell y c' e
        exact ⟨w2, z2.sameBut hs hcc⟩
    · obtain ⟨e, n, ne, nf, d⟩ := I.pin p hp
      refine ⟨(hs.2 p.1 ?_).trans e, n, ne, nf, d⟩
      intro q
      rw [q, hoc] at e
      have q' : oc = p.2 := Option.some.inj e
      exact d w' (by rw [← q']; exact hocd)
theorem store_ok {M : Model} {A : Around} {E : Value → Shared → Prop} {i : Nat} {x : Str} {v : V} {u : Value} {Q : Unit → Shared → Prop} (I : Inv X pins σ H s) (hN : X.N.Nodup) (hi : X.N[i]? = some x) (hx : Loc X.env.scope x) (r : RelV v u)
    (h : ∀ s', Inv X pins (σ.set i (some v)) H s' → Q () s') (hf : X.fn x = true ∨ X.env.scope.names.lookup x = some .local := by first | exact .inl rfl | exact .inr rfl | assumption) : wpAny M A (storeName X.env x u) Q E s :=
  store_ok2 I hN hi hx r (fun s' I' _ => h s' I') hf
/-- behind a call or a block, the state as it is -/
theorem Inv.call' {s' : Shared} {ch : List Addr} (I : Inv X pins σ H s) (ho : s'.os = s.os) (u : Un (frs X.stack) ch H H' s.heap s'.heap) (hok : HOk X.prog X.w H' s'.heap) (hg : AllBare s'.gens)
    (hch : ∀ b ∈ ch, (b ∈ X.ex ∨ X.s₀.heap.objs.size ≤ b) ∧ b ≠ X.env.locals ∧ (∀ x c, X.env.cells.lookup x = some c → c ≠ b) ∧ ∀ p ∈ X.pn ++ pins, p.1 ≠ b) : Inv X pins σ H' s' := by
  obtain ⟨h', g', d', t', o'⟩ := s'
  have e : o' = s.os := ho
  subst e
  exact I.call (g' := g') (t' := t') (d' := d') u hok hg hch
end

/-! ### the judgements -/
/-- an exception: its class, its own dict's address (where it has one), the abstract heap behind it -/
abbrev XK := Value → Option Addr → Hp → Prop
abbrev St := List (Option V)
abbrev VK := V → Hp → Prop
/-- an expression's reading; a test's; an argument list's -/
abbrev TE := St → Hp → VK → Prop
abbrev TT := St → Hp → (Bool → Hp → Prop) → Prop
abbrev TA := St → Hp → (List V → Hp → Prop) → Prop
/-- what is wanted behind a statement -/
structure Ends where
  nx : St → Hp → Prop
  rt : VK
  bk : St → Hp → Prop := fun _ _ => False
  ct : St → Hp → Prop := fun _ _ => False
abbrev TS := Ends → St → Hp → Prop

def EP (X : Cx) (pins : List (Addr × Obj)) (σ : St) (Q : VK) (u : Value) (s' : Shared) : Prop := ∃ v H', Inv X pins σ H' s' ∧ RelV v u ∧ Q v H'
def TP (X : Cx) (pins : List (Addr × Obj)) (σ : St) (Q : Bool → Hp → Prop) (b : Bool) (s' : Shared) : Prop := ∃ H', Inv X pins σ H' s' ∧ Q b H'
def AP (X : Cx) (pins : List (Addr × Obj)) (σ : St) (Q : List V → Hp → Prop) (us : List Value) (s' : Shared) : Prop := ∃ vs H', Inv X pins σ H' s' ∧ Vals vs us ∧ Q vs H'
def SP (X : Cx) (pins : List (Addr × Obj)) (D : Ends) (f : Flow) (s' : Shared) : Prop :=
  match f with
  | .next => ∃ σ' H', Inv X pins σ' H' s' ∧ D.nx σ' H'
  | .brk => ∃ σ' H', Inv X pins σ' H' s' ∧ D.bk σ' H'
  | .cont => ∃ σ' H', Inv X pins σ' H' s' ∧ D.ct σ' H'
  | .ret u => ∃ v σ' H', Inv X pins σ' H' s' ∧ RelV v u ∧ D.rt v H'

def PE (X : Cx) (e : Expr) (t : TE) : Prop :=
  ∀ (pins : List (Addr × Obj)) (s : Shared) (σ : St) (H : Hp) (Q : VK), Inv X pins σ H s → t σ H Q → wpAny (model X.prog X.w) X.A (eval e X.env) (EP X pins σ Q) X.xe s
def PT (X : Cx) (e : Expr) (t : TT) : Prop :=
  ∀ (pins : List (Addr × Obj)) (s : Shared) (σ : St) (H : Hp) (Q : Bool → Hp → Prop), Inv X pins σ H s → t σ H Q → wpAny (model X.prog X.w) X.A (isTrue e X.env (eval e X.env)) (TP X pins σ Q) X.xe s
/-- a test whatever its 'whole' is (and, or) -/
def PW (X : Cx) (e : Expr) (t : TT) : Prop :=
  ∀ (whole : Sem Value) (pins : List (Addr × Obj)) (s : Shared) (σ : St) (H : Hp) (Q : Bool → Hp → Prop), Inv X pins σ H s → t σ H Q → wpAny (model X.prog X.w) X.A (isTrue e X.env whole) (TP X pins σ Q) X.xe s
theorem PW.pt {X : Cx} {e : Expr} {t : TT} (h : PW X e t) : PT X e t := h _
/-- an argument list (no star), from the left -/
def PA (X : Cx) (es : List Expr) (t : TA) : Prop :=
  ∀ (pos : Pos) (pins : List (Addr × Obj)) (s : Shared) (σ : St) (H : Hp) (Q : List V → Hp → Prop), Inv X pins σ H s → t σ H Q → wpAny (model X.prog X.w) X.A (spliced (backTo pos (starEach es X.env))) (AP X pins σ Q) X.xe s
def PS (X : Cx) (st : Stmt) (t : TS) : Prop :=
  ∀ (pins : List (Addr × Obj)) (s : Shared) (σ : St) (H : Hp) (D : Ends), Inv X pins σ H s → t D σ H → wpAny (model X.prog X.w) X.A (exec st X.env) (SP X pins D) X.xe s
def PSs (X : Cx) (st : List Stmt) (t : TS) : Prop :=
  ∀ (pins : List (Addr × Obj)) (s : Shared) (σ : St) (H : Hp) (D : Ends), Inv X pins σ H s → t D σ H → wpAny (model X.prog X.w) X.A (execs st X.env) (SP X pins D) X.xe s
/-- weaken the end -/
theorem thn {α : Type} {t : Sem α} {Q Q' : α → Shared → Prop} {M : Model} {A : Around} {E : Value → Shared → Prop} {s : Shared} (h : wpAny M A t Q E s) (hQ : ∀ a s, Q a s → Q' a s) : wpAny M A t Q' E s := wpAny_mono h hQ fun _ _ x => x
end L2

namespace L2
open PySem PySem.Spec PyProof.Rows
section
variable {X : Cx}

/-! ### names and constants -/
def tVar (i : Nat) : TE := fun σ H Q => ∃ v, σ[i]? = some (some v) ∧ Q v H
def tC (v : V) : TE := fun _ H Q => Q v H
theorem pe_var {i : Nat} {x : Str} {pos : Pos} (hN : X.N[i]? = some x) (hv : Vis X.env.scope x) (hd : (x == ("__debug__" : Str)) = false := by decide) (hcd : (x == ("__classdict__" : Str)) = false := by decide) : PE X (.Name x pos) (tVar i) := by
  intro pins s σ H Q I h
  obtain ⟨v, e, h⟩ := h
  obtain ⟨m, hn, hl⟩ := I.loc
  obtain ⟨u, r, l⟩ := hl i x v hN e hv
  have fin : EP X pins σ Q u s := ⟨v, H, I, r, h⟩
  rcases l with ⟨hk, hm⟩ | ⟨hk, c, hc, hcell⟩
  · exact wpAny_Name (wpAny_loadName_local I.ok.kind hk hn hm fin) hd
  · rcases hk with hk | hk
    · exact wpAny_Name (wpAny_loadName_cell I.ok.kind hk hc hcell fin) hd
    · exact wpAny_Name (wpAny_loadName_free I.ok.kind hk hc hcell fin hcd) hd
theorem pe_int {i j pos} : PE X (.Constant (.int i) j pos) (tC (.int i)) := fun _ _ _ H _ I h => wpAny_Constant_int ⟨.int i, H, I.tok _, ⟨_, rfl⟩, h⟩
theorem pe_bl {b j pos} : PE X (.Constant (.bool b) j pos) (tC (.bl b)) := fun _ _ _ H _ I h => Constant_bool ⟨.bl b, H, I, rfl, h⟩
theorem pe_non {j pos} : PE X (.Constant .none j pos) (tC .non) := fun _ _ _ H _ I h => Constant_none ⟨.non, H, I, rfl, h⟩
theorem pe_str {x j pos} : PE X (.Constant (.str x) j pos) (tC (.str x)) := fun _ _ _ H _ I h => Calls.Constant_str ⟨.str x, H, I.tok _, ⟨_, rfl⟩, h⟩

/-- a global name of the def -/
def Gl (X : Cx) (x : Str) : Prop := X.env.kindOf x = some .globalImplicit
theorem ld_glob {E : Value → Shared → Prop} {pins : List (Addr × Obj)} {s : Shared} {σ : St} {H : Hp} {x : Str} {u : Value} {pos : Pos} {Q : Value → Shared → Prop} (I : Inv X pins σ H s) (hg : Gl X x) (hm : X.mg x = some u) (h : Q u s)
    (hd : (x == ("__debug__" : Str)) = false := by decide) : wpAny (model X.prog X.w) X.A (eval (.Name x pos) X.env) Q E s :=
  Calls.Name_function_global I.ok.kind hg (Calls.loadGlobal_global (by rw [I.ok.glob]; exact I.mod.glob.keeps I.bk) hm h) hd
theorem ld_blt {E : Value → Shared → Prop} {pins : List (Addr × Obj)} {s : Shared} {σ : St} {H : Hp} {x : Str} {u : Value} {pos : Pos} {Q : Value → Shared → Prop} (I : Inv X pins σ H s) (hg : Gl X x) (hm : X.mg x = none) (hv : bootBuiltins x = some u) (h : Q u s)
    (hn : x ≠ "__name__" := by decide) (hd : (x == ("__debug__" : Str)) = false := by decide) : wpAny (model X.prog X.w) X.A (eval (.Name x pos) X.env) Q E s := by
  obtain ⟨mb, h1, h2⟩ := I.mod.blt
  exact Calls.Name_function_global I.ok.kind hg (Calls.loadGlobal_builtin (by rw [I.ok.glob]; exact I.mod.glob.keeps I.bk) hm (by rw [I.ok.blt]; exact h1.keeps I.bk) ((h2 x hn).trans hv) h) hd
/-- a module's constant, a class, a function, as a value -/
theorem pe_glob {x : Str} {v : V} {u : Value} {pos : Pos} (hg : Gl X x) (hm : X.mg x = some u) (r : RelV v u) (hd : (x == ("__debug__" : Str)) = false := by decide) : PE X (.Name x pos) (tC v) :=
  fun _ _ _ H _ I h => ld_glob I hg hm ⟨v, H, I, r, h⟩ hd
theorem pe_bltn {x : Str} {v : V} {u : Value} {pos : Pos} (hg : Gl X x) (hm : X.mg x = none) (hv : bootBuiltins x = some u) (r : RelV v u) (hn : x ≠ "__name__" := by decide) (hd : (x == ("__debug__" : Str)) = false := by decide) : PE X (.Name x pos) (tC v) :=
  fun _ _ _ H _ I h => ld_blt I hg hm hv ⟨v, H, I, r, h⟩ hn hd

/-! ### arithmetic -/
variable {a b : Expr} {ta tb : TE} {pos : Pos}
/-! ### comparisons -/
/-- a comparison as a value, as a test -/
def tB (t : TE) : TT := fun σ H Q => t σ H fun x H1 => ∃ c, x = .bl c ∧ Q c H1
/-- an expression whose value is a bool, as a test -/
theorem pt_val {e : Expr} {t : TE} (h : PE X e t) (he : ∀ whole, isTrue e X.env whole = (do let v ← whole; standAt e.pos; holding [v] (truthy v)) := by intro _; rfl) : PT X e (tB t) := by
  intro pins s σ H Q I hw
  refine isTrue_plain (thn (h pins s σ H _ I hw) fun v s1 ⟨x, H1, I1, r1, q1⟩ => ?_) (he _)
  obtain ⟨d, rfl, q⟩ := q1
  cases r1
  exact wpAny_truthy_bool ⟨H1, I1, q⟩

/-! ### and, or, not -/
variable {tA tB' : TT} {rest : List Expr}
def tAnd (t u : TT) : TT := fun σ H Q => t σ H fun c H1 => if c = true then u σ H1 Q else Q false H1
def tOr (t u : TT) : TT := fun σ H Q => t σ H fun c H1 => if c = true then Q true H1 else u σ H1 Q
def tNot (t : TT) : TT := fun σ H Q => t σ H fun c H1 => Q (!c) H1
theorem pw_and1 (ha : PT X a tA) : PW X (.BoolOp .And [a] pos) tA := by
  intro wh pins s σ H Q I h
  refine isTrue_and (thn (ha pins s σ H Q I h) fun c s1 e => ?_)
  cases c with
  | true => exact isTrue_and_nil e
  | false => exact e
theorem pw_or1 (ha : PT X a tA) : PW X (.BoolOp .Or [a] pos) tA := by
  intro wh pins s σ H Q I h
  refine isTrue_or (thn (ha pins s σ H Q I h) fun c s1 e => ?_)
  cases c with
  | false => exact isTrue_or_nil e
  | true => exact e
theorem pw_and (ha : PT X a tA) (hb : PW X (.BoolOp .And (b :: rest) pos) tB') : PW X (.BoolOp .And (a :: b :: rest) pos) (tAnd tA tB') := by
  intro wh pins s σ H Q I h
  refine isTrue_and (thn (ha pins s σ H _ I h) fun c s1 ⟨H1, I1, q1⟩ => ?_)
  cases c with
  | true => exact hb wh pins s1 σ H1 Q I1 q1
  | false => exact ⟨H1, I1, q1⟩
theorem pw_or (ha : PT X a tA) (hb : PW X (.BoolOp .Or (b :: rest) pos) tB') : PW X (.BoolOp .Or (a :: b :: rest) pos) (tOr tA tB') := by
  intro wh pins s σ H Q I h
  refine isTrue_or (thn (ha pins s σ H _ I h) fun c s1 ⟨H1, I1, q1⟩ => ?_)
  cases c with
  | true => exact ⟨H1, I1, q1⟩
  | false => exact hb wh pins s1 σ H1 Q I1 q1
theorem pt_not (ha : PT X a tA) : PT X (.UnaryOp .Not a pos) (tNot tA) := by
  intro pins s σ H Q I h
  exact isTrue_not (ha pins s σ H (fun c H1 => Q (!c) H1) I h)
/-- .. as values (bools) -/
def tAndV (ta tb : TE) : TE := fun σ H Q => ta σ H fun x H1 => ∃ c, x = .bl c ∧ if c = true then tb σ H1 Q else Q (.bl false) H1
theorem pe_one {op} {t : TE} (h : PE X a t) : PE X (.BoolOp op [a] pos) t := fun pins s σ H Q I hw => BoolOp_one (h pins s σ H Q I hw)
theorem pe_and (ha : PE X a ta) (hb : PE X (.BoolOp .And (b :: rest) pos) tb) : PE X (.BoolOp .And (a :: b :: rest) pos) (tAndV ta tb) := by
  intro pins s σ H Q I h
  refine BoolOp_and (thn (ha pins s σ H _ I h) fun v s1 ⟨x, H1, I1, r1, q1⟩ => ?_)
  obtain ⟨c, rfl, q1⟩ := q1
  cases r1
  refine wpAny_truthy_bool ?_
  cases c with
  | true => exact hb pins s1 σ H1 Q I1 q1
  | false => exact ⟨.bl false, H1, I1, rfl, q1⟩
end
end L2

namespace L2
open PySem PySem.Spec PyProof.Rows

/-! ### a list, a tuple that is read: tracked, frozen, or an object of the module -/
def SqL (K : PySem.W.Frag) (H : Hp) (a : Addr) (xs : List V) : Prop :=
  Rd H a (.lst xs) ∨
    ∃ (o : Obj) (its : Array Value) (n : Nat), K.lookup a = some o ∧ o.cls = .type "list" ∧ o.dict = none ∧ o.data = .seq its n ∧ its.size ≤ sizeLine ∧ Vals xs its.toList
def SqT (K : PySem.W.Frag) (H : Hp) (a : Addr) (xs : List V) : Prop :=
  Rd H a (.tup xs) ∨
    ∃ (o : Obj) (its : Array Value) (n : Nat), K.lookup a = some o ∧ o.cls = .type "tuple" ∧ o.data = .seq its n ∧ its.size ≤ sizeLine ∧ Vals xs its.toList
def absV : Value → Option V
  | .none => some .non
  | .bool b => some (.bl b)
  | .int i _ => some (.int i)
  | .str x _ => some (.str x)
  | .bytes b _ => some (.byt b)
  | .float b _ => some (.flt b)
  | .ref a => some (.ref a)
  | .type n => some (.ty n)
  | _ => none
theorem RelV.abs {x : V} {u : Value} (r : RelV x u) : absV u = some x := by
  cases x with
  | non => cases r; rfl
  | bl _ => cases r; rfl
  | int _ => obtain ⟨t, rfl⟩ := r; rfl
  | str _ => obtain ⟨t, rfl⟩ := r; rfl
  | byt _ => obtain ⟨t, rfl⟩ := r; rfl
  | flt _ => obtain ⟨t, rfl⟩ := r; rfl
  | ref _ => cases r; rfl
  | ty _ => cases r; rfl
theorem RelV.inj {x y : V} {u : Value} (r : RelV x u) (q : RelV y u) : x = y := Option.some.inj (r.abs.symm.trans q.abs)
theorem Vals.inj : ∀ {xs ys : List V} {us : List Value}, Vals xs us → Vals ys us → xs = ys
  | _, _, _, .nil, .nil => rfl
  | _, _, _, .cons r t, .cons r' t' => by rw [r.inj r', Vals.inj t t']
section
variable {X : Cx} {pins : List (Addr × Obj)} {σ : St} {H : Hp} {s : Shared} {a : Addr} {xs ys : List V}
theorem SqL.of {K : PySem.W.Frag} (h : H a = some (.lst xs)) : SqL K H a xs := .inl (.inl h)
theorem SqT.of {K : PySem.W.Frag} (h : H a = some (.tup xs)) : SqT K H a xs := .inl (.inl h)
theorem Inv.list (I : Inv X pins σ H s) (h : SqL X.K H a xs) : ∃ its : List Value, Vals xs its ∧ PlainL s.heap a its.toArray ∧ xs.length ≤ sizeLine := by
  rcases h with h | ⟨o, its, n, hk, hc, hd, hs, hz, r⟩
  · obtain ⟨z, its, n, r, e⟩ := h.ok I.hok
    exact ⟨its, r, ⟨_, n, e, rfl, rfl, rfl⟩, z⟩
  · refine ⟨its.toList, r, ⟨o, n, I.kIn a o hk, hc, hd, by simpa using hs⟩, ?_⟩
    have e := r.length
    simp only [Array.length_toList] at e
    omega
theorem Inv.tuple (I : Inv X pins σ H s) (h : SqT X.K H a xs) : ∃ its : List Value, Vals xs its ∧ IsTup s.heap a its.toArray ∧ xs.length ≤ sizeLine := by
  rcases h with h | ⟨o, its, n, hk, hc, hs, hz, r⟩
  · obtain ⟨z, its, r, p⟩ := h.ok I.hok
    exact ⟨its, r, p, z⟩
  · refine ⟨its.toList, r, ⟨o, I.kIn a o hk, hc, n, by simpa using hs⟩, ?_⟩
    have e := r.length
    simp only [Array.length_toList] at e
    omega
theorem Inv.list_inj (I : Inv X pins σ H s) (h : SqL X.K H a xs) (h' : SqL X.K H a ys) : xs = ys := by
  obtain ⟨its, r, ⟨o, n, e, _, _, d⟩, _⟩ := I.list h
  obtain ⟨its', r', ⟨o', n', e', _, _, d'⟩, _⟩ := I.list h'
  rw [e] at e'; cases e'
  rw [d] at d'
  injection d' with d1 _
  have : its = its' := by simpa using congrArg Array.toList d1
  subst this
  exact r.inj r'
theorem Inv.tuple_inj (I : Inv X pins σ H s) (h : SqT X.K H a xs) (h' : SqT X.K H a ys) : xs = ys := by
  obtain ⟨its, r, ⟨o, e, _, n, d⟩, _⟩ := I.tuple h
  obtain ⟨its', r', ⟨o', e', _, n', d'⟩, _⟩ := I.tuple h'
  rw [e] at e'; cases e'
  rw [d] at d'
  injection d' with d1 _
  have : its = its' := by simpa using congrArg Array.toList d1
  subst this
  exact r.inj r'
end

/-! ### another wish about exceptions -/
abbrev Cx.wish (X : Cx) (E : Value → Shared → Prop) : Cx := { X with xe := E }
/-- no exception leaves -/
abbrev Cx.nox (X : Cx) : Cx := X.wish fun _ _ => False
theorem Cx.Ok.wish {X : Cx} (ok : X.Ok) (E : Value → Shared → Prop) : (X.wish E).Ok :=
  ⟨ok.mod, ok.kind, ok.glob, ok.blt, ok.above, ok.inj, ok.has, ok.cab, ok.hd, ok.frames, ok.stk, ok.exf, ok.bs, ok.bsz, ok.noex, ok.exfs, ok.funs, ok.frf⟩
theorem Cx.Ok.unwish {X : Cx} {E : Value → Shared → Prop} (ok : (X.wish E).Ok) : X.Ok :=
  ⟨ok.mod, ok.kind, ok.glob, ok.blt, ok.above, ok.inj, ok.has, ok.cab, ok.hd, ok.frames, ok.stk, ok.exf, ok.bs, ok.bsz, ok.noex, ok.exfs, ok.funs, ok.frf⟩
section
variable {X : Cx} {pins : List (Addr × Obj)} {σ : St} {H : Hp} {s : Shared} {E : Value → Shared → Prop}
theorem Inv.wish (I : Inv X pins σ H s) (E : Value → Shared → Prop) : Inv (X.wish E) pins σ H s := ⟨I.ok.wish E, I.os, I.bare, I.base, I.loc, I.cell, I.free, I.freeC, I.pin, I.hok, I.len⟩
theorem Inv.unwish (I : Inv (X.wish E) pins σ H s) : Inv X pins σ H s := ⟨I.ok.unwish, I.os, I.bare, I.base, I.loc, I.cell, I.free, I.freeC, I.pin, I.hok, I.len⟩
theorem SP.unwish {D : Ends} {f : Flow} {s' : Shared} (h : SP (X.wish E) pins D f s') : SP X pins D f s' := by
  cases f with
  | next => obtain ⟨σ', H', I, q⟩ := h; exact ⟨σ', H', I.unwish, q⟩
  | brk => obtain ⟨σ', H', I, q⟩ := h; exact ⟨σ', H', I.unwish, q⟩
  | cont => obtain ⟨σ', H', I, q⟩ := h; exact ⟨σ', H', I.unwish, q⟩
  | ret u => obtain ⟨v, σ', H', I, r, q⟩ := h; exact ⟨v, σ', H', I.unwish, r, q⟩
theorem PSs.nox {st : List Stmt} {t : TS} (h : PSs X.nox st t) : PSs X st t := fun pins s σ H D I hw =>
  wpAny_mono (h pins s σ H D (I.wish _) hw) (fun _ _ q => q.unwish) fun _ _ z => False.elim z
end

/-! ### blocks and small statements -/
section
variable {X : Cx} {st : Stmt} {rest : List Stmt} {t u : TS} {e : Expr} {te : TE} {pos : Pos}
def tNext : TS := fun D σ H => D.nx σ H
def tSeq (t u : TS) : TS := fun D σ H => t { D with nx := u D } σ H
theorem pss_nil : PSs X [] tNext := fun _ _ σ H _ I h => wpAny_execs_nil ⟨σ, H, I, h⟩
theorem pss_cons (h1 : PS X st t) (h2 : PSs X rest u) : PSs X (st :: rest) (tSeq t u) := by
  intro pins s σ H D I h
  refine wpAny_execs_cons (thn (h1 pins s σ H { D with nx := u D } I h) fun f s1 q => ?_)
  cases f with
  | next =>
    obtain ⟨σ', H', I', q⟩ := q
    exact h2 pins s1 σ' H' D I' q
  | ret v => exact q
  | brk => exact q
  | cont => exact q
theorem pss_one (h1 : PS X st t) : PSs X [st] t := by
  intro pins s σ H D I h
  refine wpAny_execs_cons (thn (h1 pins s σ H D I h) fun f s1 q => ?_)
  cases f with
  | next => exact wpAny_execs_nil q
  | ret v => exact q
  | brk => exact q
  | cont => exact q
/-- in a def's body nothing is shown -/
theorem Inv.quiet {pins : List (Addr × Obj)} {σ : St} {H : Hp} {s : Shared} (I : Inv X pins σ H s) : interactive X.env = false := by simp [interactive, I.ok.kind]
/-- an expression whose value is dropped -/
def tDrop (te : TE) : TS := fun D σ H => te σ H fun _ H1 => D.nx σ H1
theorem ps_expr (he : PE X e te) (hs : swapsWith e none pos.line X.env = pure false := by rfl) : PS X (.Expr e pos) (tDrop te) := by
  intro pins s σ H D I h
  exact wpAny_Expr_any (thn (he pins s σ H _ I h) fun v s1 ⟨x, H1, I1, r1, q1⟩ => ⟨σ, H1, I1, q1⟩) I.quiet hs
def tRet (te : TE) : TS := fun D σ H => te σ H D.rt
theorem ps_ret (he : PE X e te) : PS X (.Return (some e) pos) (tRet te) := by
  intro pins s σ H D I h
  exact wpAny_Return_some (thn (he pins s σ H _ I h) fun v s1 ⟨x, H1, I1, r1, q1⟩ => ⟨x, σ, H1, I1, r1, q1⟩)
def tIfS (c : TT) (t u : TS) : TS := fun D σ H => c σ H fun b H1 => if b = true then t D σ H1 else u D σ H1
theorem ps_if {c : Expr} {a b : List Stmt} {tc : TT} (hc : PT X c tc) (ha : PSs X a t) (hb : PSs X b u) : PS X (.If c a b pos) (tIfS tc t u) := by
  intro pins s σ H D I h
  refine wpAny_If (thn (hc pins s σ H _ I h) fun d s1 ⟨H1, I1, q1⟩ => ?_)
  cases d with
  | true => exact ha pins s1 σ H1 D I1 q1
  | false => exact hb pins s1 σ H1 D I1 q1
/-- code that the proof never comes to -/
def tNever : TS := fun _ _ _ => False
theorem ps_never : PS X st tNever := fun _ _ _ _ _ _ h => h.elim
end

/-! ### targets -/
abbrev TG := V → St → Hp → (St → Hp → Prop) → Prop
abbrev TGs := List V → St → Hp → (St → Hp → Prop) → Prop
def PG (X : Cx) (target : Expr) (t : TG) : Prop :=
  ∀ (pins : List (Addr × Obj)) (s : Shared) (σ : St) (H : Hp) (v : V) (u : Value) (Q : St → Hp → Prop), Inv X pins σ H s → RelV v u → t v σ H Q →
    wpAny (model X.prog X.w) X.A (assign target X.env u) (fun _ s' => ∃ σ' H', Inv X pins σ' H' s' ∧ Q σ' H') X.xe s
/-- several targets, one after another -/
def PGs (X : Cx) (ts : List Expr) (t : TGs) : Prop :=
  ∀ (pins : List (Addr × Obj)) (s : Shared) (σ : St) (H : Hp) (vs : List V) (us : List Value) (Q : St → Hp → Prop), Inv X pins σ H s → Vals vs us → t vs σ H Q →
    wpAny (model X.prog X.w) X.A (assignInOrder ((assignEach ts X.env).map (·.2)) us) (fun _ s' => ∃ σ' H', Inv X pins σ' H' s' ∧ Q σ' H') X.xe s
/-- o[i] = v, by values -/
abbrev TSet := V → V → V → Hp → (Hp → Prop) → Prop
def PSet (X : Cx) (t : TSet) : Prop :=
  ∀ (pins : List (Addr × Obj)) (s : Shared) (σ : St) (H : Hp) (o i v : V) (ov iv u : Value) (Q : Hp → Prop), Inv X pins σ H s → RelV o ov → RelV i iv → RelV v u → t o i v H Q →
    wpAny (model X.prog X.w) X.A (setItem ov iv u) (fun _ s' => ∃ H', Inv X pins σ H' s' ∧ Q H') X.xe s
section
variable {X : Cx} {pos : Pos}
def gName (i : Nat) : TG := fun v σ H Q => Q (σ.set i (some v)) H
theorem pg_name {i : Nat} {x : Str} (hN : X.N.Nodup) (hi : X.N[i]? = some x) (hx : Loc X.env.scope x) (hf : X.fn x = true ∨ X.env.scope.names.lookup x = some .local := by first | exact .inl rfl | exact .inr rfl | assumption) : PG X (.Name x pos) (gName i) := by
  intro pins s σ H v u Q I r h
  exact wpAny_assign_Name (store_ok I hN hi hx r (fun s' I' => ⟨_, H, I', h⟩) hf)
def gNil : TGs := fun vs σ H Q => vs = [] ∧ Q σ H
def gCons (t : TG) (u : TGs) : TGs := fun vs σ H Q => ∃ v r, vs = v :: r ∧ t v σ H fun σ' H' => u r σ' H' Q
theorem pgs_nil : PGs X [] gNil := by
  intro pins s σ H vs us Q I r h
  obtain ⟨e, h⟩ := h
  subst e
  cases r
  exact assignInOrder_nil ⟨σ, H, I, h⟩
theorem pgs_cons {e : Expr} {es : List Expr} {t : TG} {u : TGs} (h1 : PG X e t) (h2 : PGs X es u)
    (hs : (assignEach (e :: es) X.env).map (·.2) = assign e X.env :: (assignEach es X.env).map (·.2) := by rfl) : PGs X (e :: es) (gCons t u) := by
  intro pins s σ H vs us Q I r h
  obtain ⟨v, vr, e1, h⟩ := h
  subst e1
  cases r with
  | cons r rr =>
    rw [hs]
    refine assignInOrder_cons (thn (h1 pins s σ H _ _ _ I r h) fun _ s1 ⟨σ1, H1, I1, q1⟩ => ?_)
    exact h2 pins s1 σ1 H1 _ _ Q I1 rr q1
/-- (a, b, ..) = a tuple of that length -/
def gTup (K : PySem.W.Frag) (n : Nat) (t : TGs) : TG := fun v σ H Q => ∃ a xs, v = .ref a ∧ SqT K H a xs ∧ xs.length = n ∧ t xs σ H Q
theorem pg_tup {es : List Expr} {k : Nat} {t : TGs} {n : Nat} (hc : X.calm = true) (h : PGs X es t)
    (hn : (assignEach es X.env).length = n := by rfl) (hst : (assignEach es X.env).findIdx? (·.1) = none := by rfl) : PG X (.Tuple es k pos) (gTup X.K n t) := by
  intro pins s σ H v u Q I r hw
  obtain ⟨a, xs, e1, hq, hl, hw⟩ := hw
  subst e1
  cases r
  obtain ⟨its, rv, ht, hz⟩ := I.tuple hq
  refine assign_Tuple_tuple (I.ok.hd hc) ht (by simp [hn, ← hl, rv.length]) hst fun h' hx => ?_
  have I1 : Inv X pins σ H { s with heap := h' } := I.kept (t' := s.toks) fun b o e => hx b o (Nat.ne_of_lt (Heap.lt_size e)) e
  exact h pins _ σ H xs _ Q I1 (by simpa using rv) hw
/-- o[i] = .. -/
def gSub (to ti : TE) (t : TSet) : TG := fun v σ H Q => to σ H fun o H1 => ti σ H1 fun i H2 => t o i v H2 fun H3 => Q σ H3
theorem pg_sub {o i : Expr} {to ti : TE} {t : TSet} (ho : PE X o to) (hi : PE X i ti) (hs : PSet X t)
    (ha : ∀ v, assign (.Subscript o i pos) X.env v = (do
      let ov ← holding [v] (eval o X.env)
      let iv ← holding [v, ov] (eval i X.env)
      standAt pos
      holding [v, ov, iv] (setItem ov iv v)
      release [v, ov, iv] []) := by intro _; rfl) : PG X (.Subscript o i pos) (gSub to ti t) := by
  intro pins s σ H v u Q I r h
  rw [ha]
  refine wpAny_bind (wpAny_holding (thn (ho pins s σ H _ I h) fun ov s1 ⟨x, H1, I1, r1, q1⟩ => ?_))
  refine wpAny_bind (wpAny_holding (thn (hi pins s1 σ H1 _ I1 q1) fun iv s2 ⟨y, H2, I2, r2, q2⟩ => ?_))
  refine wpAny_bind (wpAny_standAt (wpAny_bind (wpAny_holding (thn (hs pins s2 σ H2 x y v ov iv u _ I2 r1 r2 r q2) fun _ s3 ⟨H3, I3, q3⟩ => ?_))))
  exact wpAny_release ⟨σ, H3, I3, q3⟩
/-- target = value -/
def tAsg (te : TE) (g : TG) : TS := fun D σ H => te σ H fun x H1 => g x σ H1 D.nx
theorem ps_asg {tg e : Expr} {te : TE} {g : TG} (he : PE X e te) (hg : PG X tg g) (hs : swapsWithSole [tg] e pos.line X.env = pure false := by rfl) (hw : swappedStores [tg] e X.env = pure none := by rfl)
    (h1 : (assignEach [tg] X.env).map (·.2) = [assign tg X.env] := by rfl) : PS X (.Assign [tg] e pos) (tAsg te g) := by
  intro pins s σ H D I h
  refine wpAny_Assign_stores (thn (he pins s σ H _ I h) fun v s1 ⟨x, H1, I1, r1, q1⟩ => ?_) hs hw
  rw [h1]
  exact thn (hg pins s1 σ H1 x v _ I1 r1 q1) fun _ s2 q => q
/-- name = value -/
theorem ps_set {i : Nat} {x : Str} {e : Expr} {te : TE} {pos' : Pos} (hN : X.N.Nodup) (hi : X.N[i]? = some x) (hx : Loc X.env.scope x) (he : PE X e te) (hs : swapsWith e (some (.Name x pos')) pos.line X.env = pure false := by rfl) (hf : X.fn x = true ∨ X.env.scope.names.lookup x = some .local := by first | exact .inl rfl | exact .inr rfl | assumption) :
    PS X (.Assign [.Name x pos'] e pos) (tAsg te (gName i)) := by
  intro pins s σ H D I h
  refine wpAny_Assign_Name (thn (he pins s σ H _ I h) fun v s1 ⟨y, H1, I1, r1, q1⟩ => ?_) hs
  exact store_ok I1 hN hi hx r1 (fun s2 I2 => ⟨_, H1, I2, q1⟩) hf
end

/-! ### while -/
section
variable {X : Cx} {pos : Pos}
/-- the invariant W with its measure -/
def tWhile (c : TT) (tb : TS) : TS := fun D σ H => ∃ W : Nat → St → Hp → Prop, (∃ m, W m σ H) ∧ ∀ m σ H, W m σ H →
  c σ H fun b H1 => if b = true then ∃ N : St → Hp → Prop, (∀ σ' H', N σ' H' → ∃ m', m' < m ∧ W m' σ' H') ∧ tb { D with nx := N, ct := N, bk := D.nx } σ H1 else D.nx σ H1
theorem ps_while {c : Expr} {body : List Stmt} {tc : TT} {tb : TS} (hp : PassesOwn (model X.prog X.w) X.A X.env X.xe) (hc : PT X c tc) (hb : PSs X body tb) : PS X (.While c body [] pos) (tWhile tc tb) := by
  intro pins s σ H D I h
  obtain ⟨W, ⟨m0, w0⟩, turn⟩ := h
  refine wpAny_While (codeAny_whileLoop (fun n s' => ∃ σ' H', Inv X pins σ' H' s' ∧ W n σ' H') ?_ m0 ⟨σ, H, I, w0⟩)
  rintro n s1 ⟨σ1, H1, I1, w1⟩
  refine wpAny_passesOwn hp (thn (hc pins s1 σ1 H1 _ I1 (turn n σ1 H1 w1)) fun b s2 ⟨H2, I2, q2⟩ => ?_)
  cases b with
  | true =>
    obtain ⟨N, hN, q2⟩ := q2
    rw [if_pos rfl]
    refine wpAny_passesOwn hp (thn (hb pins s2 σ1 H2 _ I2 q2) fun f s3 q3 => ?_)
    cases f with
    | next =>
      obtain ⟨σ3, H3, I3, n3⟩ := q3
      obtain ⟨m', hm, w3⟩ := hN σ3 H3 n3
      exact ⟨m', hm, σ3, H3, I3, w3⟩
    | cont =>
      obtain ⟨σ3, H3, I3, n3⟩ := q3
      obtain ⟨m', hm, w3⟩ := hN σ3 H3 n3
      exact ⟨m', hm, σ3, H3, I3, w3⟩
    | brk => exact q3
    | ret v => exact q3
  | false =>
    rw [if_neg Bool.false_ne_true]
    exact wpAny_execs_nil ⟨σ1, H2, I2, q2⟩
end

/-! ### what a loop or a comprehension walks -/
/-- at turn i: it yields x (the heap may grow), or it stops -/
structure It where
  go : Nat → Hp → Prop
  yld : Nat → Hp → V → Hp → Prop
  stop : Nat → Hp → Prop
/-- the iterator's own objects may turn: they are not the frame's, not pinned, younger than the entry (or a comprehension's own) -/
def FpOk (X : Cx) (pins : List (Addr × Obj)) (H : Hp) (b : Addr) : Prop :=
  H b = none ∧ b ≠ X.env.locals ∧ b ∉ X.fs ∧ (b ∈ X.ex ∨ X.s₀.heap.objs.size ≤ b) ∧ (∀ x c, X.env.cells.lookup x = some c → c ≠ b) ∧ ∀ p ∈ X.pn ++ pins, p.1 ≠ b
theorem Inv.fpOk {X : Cx} {pins : List (Addr × Obj)} {σ : St} {H H' : Hp} {s : Shared} {b : Addr} (I : Inv X pins σ H s) (hb : s.heap.objs.size ≤ b) (hn : H' b = none) : FpOk X pins H' b := by
  refine ⟨hn, Nat.ne_of_gt (Nat.lt_of_lt_of_le I.lt hb), I.nofs hb, .inr (Nat.le_trans I.sz hb), fun x c e z => ?_, fun p hp z => ?_⟩
  · obtain ⟨v, q⟩ := I.cell x c e
    exact absurd (Nat.lt_of_lt_of_le q.lt (by rw [z]; exact hb)) (Nat.lt_irrefl _)
  · exact absurd (Nat.lt_of_lt_of_le (Heap.lt_size (I.pin p hp).1) (by rw [z]; exact hb)) (Nat.lt_irrefl _)
structure Turn (P : Program) (w : World) (K : PySem.W.Frag) (tg : Expr) (J : It) (fp : List Addr) (it : Addr) (tn : Nat → Heap → Prop) : Prop where
  mem : it ∈ fp
  obj : ∀ i h, tn i h → ∀ b ∈ fp, ∃ o, h.get? b = some o ∧ ∀ v, o.data ≠ .cell v
  keep : ∀ i h h', tn i h → (∀ b ∈ fp, ∀ o, h.get? b = some o → h'.get? b = some o) → tn i h'
  item : ∀ (X : Cx), X.prog = P → X.w = w → X.K = K → X.calm = true → ∀ (i : Nat) (pins : List (Addr × Obj)) (s : Shared) (σ : St) (H : Hp) (E : Value → Shared → Prop), Inv X pins σ H s → (∀ b ∈ fp, FpOk X pins H b) → tn i s.heap → J.go i H →
    wpAny (model P w) X.A (pyNext (.ref it)) (fun r s1 => ∃ u, r = some u ∧
      wpAny (model P w) X.A (letOwnedTupleGo tg (.ref it) u) (fun _ s2 => ∃ x H', Inv X pins σ H' s2 ∧ RelV x u ∧ J.yld i H x H' ∧ tn (i + 1) s2.heap ∧ ∀ b ∈ fp, H' b = none) E s1) E s
  done : ∀ (X : Cx), X.prog = P → X.w = w → X.K = K → X.calm = true → ∀ (i : Nat) (pins : List (Addr × Obj)) (s : Shared) (σ : St) (H : Hp) (E : Value → Shared → Prop), Inv X pins σ H s → (∀ b ∈ fp, FpOk X pins H b) → tn i s.heap → J.stop i H →
    wpAny (model P w) X.A (pyNext (.ref it)) (fun r s1 => r = none ∧ Inv X pins σ H s1) E s
  self : ∀ (A : Around) (i : Nat) (s : Shared) (Q : Value → Shared → Prop) (E : Value → Shared → Prop), tn i s.heap → Q (.ref it) s → wpAny (model P w) A (pyIter (.ref it)) Q E s
abbrev TI := St → Hp → (It → Hp → Prop) → Prop
/-- an iterator has come -/
def PIE (X : Cx) (pins : List (Addr × Obj)) (σ : St) (tg : Expr) (R : It → Hp → Prop) (itv : Value) (s2 : Shared) : Prop :=
  ∃ (it : Addr) (fp : List Addr) (tn : Nat → Heap → Prop) (J : It) (H' : Hp), itv = .ref it ∧ Inv X pins σ H' s2 ∧ Turn X.prog X.w X.K tg J fp it tn ∧ tn 0 s2.heap ∧ (∀ b ∈ fp, FpOk X pins H' b) ∧ R J H'
def PI (X : Cx) (tg iter : Expr) (wi : TI) : Prop :=
  ∀ (pins : List (Addr × Obj)) (s : Shared) (σ : St) (H : Hp) (R : It → Hp → Prop), Inv X pins σ H s → wi σ H R →
    wpAny (model X.prog X.w) X.A (eval iter X.env) (fun v s1 => wpAny (model X.prog X.w) X.A (pyIter v) (PIE X pins σ tg R) X.xe s1) X.xe s

/-- the step ahead of the store is nothing for an iterator that keeps no tuple -/
theorem go_of {M : Model} {A : Around} {E : Value → Shared → Prop} {s : Shared} {tg : Expr} {it : Addr} {u : Value} {o : Obj} {n : String} {vs : Array Value} {Q : Unit → Shared → Prop} (ho : s.heap.get? it = some o) (hc : o.cls = .type n) (hd : o.data = .fields vs)
    (hn : ["enumerate", "zip", "dict_itemiterator", "dict_reverseitemiterator", "odict_iterator", "itertools.zip_longest", "itertools.pairwise"].contains n = false) (hQ : Q () s) : wpAny M A (letOwnedTupleGo tg (.ref it) u) Q E s := by
  unfold letOwnedTupleGo
  cases tg <;> first
    | exact wpAny_pure hQ
    | (cases u <;> first
        | exact wpAny_pure hQ
        | (refine wpAny_bind (wpAny_load ho ?_)
           rw [hc, hd]
           show wpAny M A (if (["enumerate", "zip", "dict_itemiterator", "dict_reverseitemiterator", "odict_iterator", "itertools.zip_longest", "itertools.pairwise"].contains n && vs[0]? == some (rawInt _)) = true then _ else _) Q E s
           rw [if_neg (by intro h; rw [hn, Bool.false_and] at h; cases h)]
           exact wpAny_pure hQ))

/-- the list at a, as it stands at each turn (a loop may append to it) -/
def Itl (K : PySem.W.Frag) (a : Addr) : It :=
  ⟨fun i H => ∃ xs x, SqL K H a xs ∧ xs[i]? = some x, fun i H x H' => H' = H ∧ ∀ xs, SqL K H a xs → xs[i]? = some x, fun i H => ∃ xs, SqL K H a xs ∧ xs.length ≤ i⟩
def Itt (K : PySem.W.Frag) (a : Addr) : It :=
  ⟨fun i H => ∃ xs x, SqT K H a xs ∧ xs[i]? = some x, fun i H x H' => H' = H ∧ ∀ xs, SqT K H a xs → xs[i]? = some x, fun i H => ∃ xs, SqT K H a xs ∧ xs.length ≤ i⟩
/-- lo, lo + 1, .. (n of them) -/
def Itr (lo : Int) (n : Nat) : It := ⟨fun i _ => i < n, fun i H x H' => H' = H ∧ x = .int (lo + i), fun i _ => n ≤ i⟩
theorem turn_list {P : Program} {w : World} {K : PySem.W.Frag} {tg : Expr} (a it : Addr) : Turn P w K tg (Itl K a) [it] it (fun i h => h.IsListIter it a i) where
  mem := by simp
  obj := fun i h st b hb => by
    have e : b = it := by simpa using hb
    subst e
    obtain ⟨o, e, c, d⟩ := st
    exact ⟨o, e, fun v z => by rw [d] at z; cases z⟩
  keep := fun i h h' st k => st.at fun o e => k it (by simp) o e
  item := by
    intro X hP hw hK hc i pins s σ H E I hf st hg
    subst hP hw hK
    obtain ⟨xs, x, hq, hx⟩ := hg
    obtain ⟨its, rv, p, hz⟩ := I.list hq
    obtain ⟨u, hu, ru⟩ := rv.get hx
    obtain ⟨f0, f1, f2, f3, f4, f5⟩ := hf it (by simp)
    refine wpAny_pyNext_list_item st p.isList (x := u) (by simpa using hu) fun h' st' sb => ?_
    have I1 : Inv X pins σ H { s with heap := h' } := I.turned (t' := s.toks) (fun b o hb e => (sb.2 b hb).trans e) f0 f1 f3 f4 f5
    obtain ⟨o, e, c, d⟩ := id st'
    exact ⟨u, rfl, go_of (s := { s with heap := h' }) e c d (by decide) ⟨x, H, I1, ru, ⟨rfl, fun ys hy => by rw [I.list_inj hy hq]; exact hx⟩, st', fun b hb => (hf b hb).1⟩⟩
  done := by
    intro X hP hw hK hc i pins s σ H E I hf st hg
    subst hP hw hK
    obtain ⟨xs, hq, hx⟩ := hg
    obtain ⟨its, rv, p, hz⟩ := I.list hq
    obtain ⟨f0, f1, f2, f3, f4, f5⟩ := hf it (by simp)
    have hl := rv.length
    exact wpAny_pyNext_list_end (I.ok.hd hc) st p.isList (by simp; omega) fun h' eb => ⟨rfl, I.turned (t' := s.toks) (fun b o hb e => eb b o hb e) f0 f1 f3 f4 f5⟩
  self := fun _ _ _ _ _ st h => wpAny_pyIter_listiter st h
theorem turn_tuple {P : Program} {w : World} {K : PySem.W.Frag} {tg : Expr} (a it : Addr) : Turn P w K tg (Itt K a) [it] it (fun i h => h.IsTupleIter it a i) where
  mem := by simp
  obj := fun i h st b hb => by
    have e : b = it := by simpa using hb
    subst e
    obtain ⟨o, e, c, d⟩ := st
    exact ⟨o, e, fun v z => by rw [d] at z; cases z⟩
  keep := fun i h h' st k => st.at fun o e => k it (by simp) o e
  item := by
    intro X hP hw hK hc i pins s σ H E I hf st hg
    subst hP hw hK
    obtain ⟨xs, x, hq, hx⟩ := hg
    obtain ⟨its, rv, p, hz⟩ := I.tuple hq
    obtain ⟨u, hu, ru⟩ := rv.get hx
    obtain ⟨f0, f1, f2, f3, f4, f5⟩ := hf it (by simp)
    refine wpAny_pyNext_tuple_item st (show s.heap.IsTuple a its.toArray from p) (x := u) (by simpa using hu) fun h' st' sb => ?_
    have I1 : Inv X pins σ H { s with heap := h' } := I.turned (t' := s.toks) (fun b o hb e => (sb.2 b hb).trans e) f0 f1 f3 f4 f5
    obtain ⟨o, e, c, d⟩ := id st'
    exact ⟨u, rfl, go_of (s := { s with heap := h' }) e c d (by decide) ⟨x, H, I1, ru, ⟨rfl, fun ys hy => by rw [I.tuple_inj hy hq]; exact hx⟩, st', fun b hb => (hf b hb).1⟩⟩
  done := by
    intro X hP hw hK hc i pins s σ H E I hf st hg
    subst hP hw hK
    obtain ⟨xs, hq, hx⟩ := hg
    obtain ⟨its, rv, p, hz⟩ := I.tuple hq
    obtain ⟨f0, f1, f2, f3, f4, f5⟩ := hf it (by simp)
    have hl := rv.length
    exact wpAny_pyNext_tuple_end (I.ok.hd hc) st (show s.heap.IsTuple a its.toArray from p) (by simp; omega) fun h' eb => ⟨rfl, I.turned (t' := s.toks) (fun b o hb e => eb b o hb e) f0 f1 f3 f4 f5⟩
  self := fun _ _ _ _ _ st h => wpAny_pyIter_tupleiter st h
theorem turn_range {P : Program} {w : World} {K : PySem.W.Frag} {tg : Expr} (it : Addr) (lo : Int) (n : Nat) : Turn P w K tg (Itr lo n) [it] it (fun i h => IsRangeIter h it (lo + (i : Nat) * 1) ((n : Int) - (i : Nat)) 1) where
  mem := by simp
  obj := fun i h st b hb => by
    have e : b = it := by simpa using hb
    subst e
    exact ⟨_, st, fun v z => by
      have z' : Data.fields _ = Data.cell v := z
      cases z'⟩
  keep := fun i h h' st k => k it (by simp) _ st
  item := by
    intro X hP hw hK hc i pins s σ H E I hf st hg
    subst hP hw hK
    obtain ⟨f0, f1, f2, f3, f4, f5⟩ := hf it (by simp)
    have W := Walks.range (prog := X.prog) (w := X.w) (I.ok.hd hc) it lo 1 n
    refine W.item i s _ _ hg st fun v h' tk hv st' kk => ?_
    obtain ⟨t, rfl⟩ := hv
    have I1 : Inv X pins σ H { s with heap := h', toks := tk } := I.turned (fun b o hb e => kk b o (by simpa using hb) e) f0 f1 f3 f4 f5
    refine ⟨_, rfl, go_of (s := { s with heap := h', toks := tk }) (n := "range_iterator") st' rfl rfl (by decide) ⟨.int (lo + i), H, I1, ⟨t, ?_⟩, ⟨rfl, rfl⟩, st', fun b hb => (hf b hb).1⟩⟩
    rw [Int.mul_one]
  done := by
    intro X hP hw hK hc i pins s σ H E I hf st hg
    subst hP hw hK
    obtain ⟨f0, f1, f2, f3, f4, f5⟩ := hf it (by simp)
    exact wpAny_pyNext_range_end (I.ok.hd hc) st (by have : n ≤ i := hg; omega) fun h' eb => ⟨rfl, I.turned (t' := s.toks) (fun b o hb e => eb b o hb e) f0 f1 f3 f4 f5⟩
  self := fun _ _ _ _ _ st h => wpAny_pyIter_rangeiter st h
end L2

namespace L2
open PySem PySem.Spec PyProof.Rows
section
variable {X : Cx} {tg : Expr}
def iList (K : PySem.W.Frag) (tl : TE) : TI := fun σ H R => tl σ H fun x H1 => ∃ a, x = .ref a ∧ (∃ xs, SqL K H1 a xs) ∧ R (Itl K a) H1
def iTup (K : PySem.W.Frag) (tl : TE) : TI := fun σ H R => tl σ H fun x H1 => ∃ a, x = .ref a ∧ (∃ xs, SqT K H1 a xs) ∧ R (Itt K a) H1
theorem pi_list {l : Expr} {tl : TE} (hl : PE X l tl) : PI X tg l (iList X.K tl) := by
  intro pins s σ H R I h
  refine thn (hl pins s σ H _ I h) fun v s1 ⟨x, H1, I1, r1, q1⟩ => ?_
  obtain ⟨a, e, ⟨xs, hq⟩, q⟩ := q1
  subst e
  cases r1
  obtain ⟨its, rv, p, hz⟩ := I1.list hq
  refine wpAny_pyIter_list p.isList ?_
  refine ⟨s1.heap.objs.size, [s1.heap.objs.size], _, _, H1, rfl, I1.kept (t' := s1.toks) fun b o e => Heap.get?_push_of_some _ e, turn_list a _, ⟨_, Heap.get?_push_size _ rfl, rfl, rfl⟩, fun b hb => ?_, q⟩
  have e : b = s1.heap.objs.size := by simpa using hb
  subst e
  exact I1.fpOk (Nat.le_refl _) (I1.hok.fresh (Nat.le_refl _))
theorem pi_tup {l : Expr} {tl : TE} (hl : PE X l tl) : PI X tg l (iTup X.K tl) := by
  intro pins s σ H R I h
  refine thn (hl pins s σ H _ I h) fun v s1 ⟨x, H1, I1, r1, q1⟩ => ?_
  obtain ⟨a, e, ⟨xs, hq⟩, q⟩ := q1
  subst e
  cases r1
  obtain ⟨its, rv, p, hz⟩ := I1.tuple hq
  refine wpAny_pyIter_tuple (show s1.heap.IsTuple a its.toArray from p) ?_
  refine ⟨s1.heap.objs.size, [s1.heap.objs.size], _, _, H1, rfl, I1.kept (t' := s1.toks) fun b o e => Heap.get?_push_of_some _ e, turn_tuple a _, ⟨_, Heap.get?_push_size _ rfl, rfl, rfl⟩, fun b hb => ?_, q⟩
  have e : b = s1.heap.objs.size := by simpa using hb
  subst e
  exact I1.fpOk (Nat.le_refl _) (I1.hok.fresh (Nat.le_refl _))
/-- a range object just made, walked -/
theorem range_it {pins : List (Addr × Obj)} {σ : St} {H : Hp} {s : Shared} {R : It → Hp → Prop} {E : Value → Shared → Prop} {lo hi : Int} {t u v : Tok} {tk : Nat} (I : Inv X pins σ H s) (h1 : -(2 ^ 62) ≤ lo) (h2 : lo < 2 ^ 62) (h3 : -(2 ^ 62) ≤ hi) (h4 : hi < 2 ^ 62)
    (q : R (Itr lo (hi - lo).toNat) H) : wpAny (model X.prog X.w) X.A (pyIter (.ref s.heap.objs.size)) (PIE X pins σ tg R) E { s with heap := s.heap.push { cls := .type "range", data := .fields #[.int lo t, .int hi u, .int 1 v] }, toks := tk } := by
  refine wpAny_pyIter_range (IsRange.new ..) (small_one h1 h2 h3 h4) ?_
  have I1 : Inv X pins σ H { s with heap := s.heap.push { cls := .type "range", data := .fields #[.int lo t, .int hi u, .int 1 v] }, toks := tk } := I.kept fun b o e => Heap.get?_push_of_some _ e
  refine ⟨(s.heap.push { cls := .type "range", data := .fields #[.int lo t, .int hi u, .int 1 v] }).objs.size, [(s.heap.push { cls := .type "range", data := .fields #[.int lo t, .int hi u, .int 1 v] }).objs.size], _, _, H, rfl,
    I1.kept (t' := tk) fun b o e => Heap.get?_push_of_some _ e, turn_range _ lo (hi - lo).toNat, ?_, fun b hb => ?_, q⟩
  · have e1 : lo + ((0 : Nat) : Int) * 1 = lo := by simp
    have e2 : (((hi - lo).toNat : Nat) : Int) - ((0 : Nat) : Int) = Builtin.Range.rangeSize lo hi 1 := by rw [rangeSize_one]; split <;> omega
    show IsRangeIter _ _ (lo + ((0 : Nat) : Int) * 1) ((((hi - lo).toNat : Nat) : Int) - ((0 : Nat) : Int)) 1
    rw [e1, e2]
    exact Heap.get?_push_size _ rfl
  · have e : b = (s.heap.push { cls := .type "range", data := .fields #[.int lo t, .int hi u, .int 1 v] }).objs.size := by simpa using hb
    subst e
    exact I1.fpOk (Nat.le_refl _) (I1.hok.fresh (Nat.le_refl _))
def iRng1 (ta : TA) : TI := fun σ H R => ta σ H fun vs H1 => ∃ j : Int, vs = [.int j] ∧ -(2 ^ 62) ≤ j ∧ j < 2 ^ 62 ∧ R (Itr 0 j.toNat) H1
theorem pi_range1 {a : Expr} {ta : TA} {p pos : Pos} (hg : Gl X "range") (hm : X.mg "range" = none) (ha : PA X [a] ta) (hs : starEach [a] X.env = [(false, eval a X.env)] := by rfl) : PI X tg (.Call (.Name "range" p) [a] [] pos) (iRng1 ta) := by
  intro pins s σ H R I h
  refine Call_ (ld_blt I hg hm boot_range (PyProof.Rows.callWith_type1 (thn (ha pos pins s σ H _ I h) fun us s1 ⟨vs, H1, I1, r1, q1⟩ => ?_) hs rfl))
  obtain ⟨j, e, q1, q2, q⟩ := q1
  subst e
  cases r1 with
  | cons r rr =>
    cases rr
    obtain ⟨t, rfl⟩ := r
    exact call_range_1 (range_it I1 (by omega) (by omega) q1 q2 (by simpa using q))
/-! ### for -/
/-- W: the invariant by the turn and a measure; N: what the body is to reach -/
def tFor (wi : TI) (g : TG) (tb : TS) : TS := fun D σ H => wi σ H fun J H1 => ∃ W : Nat → Nat → St → Hp → Prop, (∃ m, W 0 m σ H1) ∧ ∀ i m σ H, W i m σ H →
  (J.stop i H ∧ D.nx σ H) ∨ (J.go i H ∧ ∃ N : St → Hp → Prop, (∀ σ' H', N σ' H' → ∃ m', m' < m ∧ W (i + 1) m' σ' H') ∧ ∀ x H', J.yld i H x H' → g x σ H' fun σ2 H2 => tb { D with nx := N, ct := N, bk := D.nx } σ2 H2)
/-- the records at fp as they stand -/
def pinsAt (fp : List Addr) (h : Heap) : List (Addr × Obj) := fp.filterMap fun b => (h.get? b).map fun o => (b, o)
theorem mem_pinsAt {fp : List Addr} {h : Heap} {b : Addr} {o : Obj} (hb : b ∈ fp) (e : h.get? b = some o) : (b, o) ∈ pinsAt fp h := List.mem_filterMap.mpr ⟨b, hb, by rw [e]; rfl⟩
theorem of_pinsAt {fp : List Addr} {h : Heap} {p : Addr × Obj} (hp : p ∈ pinsAt fp h) : p.1 ∈ fp ∧ h.get? p.1 = some p.2 := by
  obtain ⟨b, hb, e⟩ := List.mem_filterMap.mp hp
  cases q : h.get? b with
  | none => rw [q] at e; cases e
  | some o =>
    rw [q] at e
    have e' : (b, o) = p := Option.some.inj e
    subst e'
    exact ⟨hb, q⟩
theorem Inv.pinned {pins : List (Addr × Obj)} {σ : St} {H : Hp} {s : Shared} {fp : List Addr} (I : Inv X pins σ H s) (hf : ∀ b ∈ fp, FpOk X pins H b) (ho : ∀ b ∈ fp, ∃ o, s.heap.get? b = some o ∧ ∀ v, o.data ≠ .cell v) : Inv X (pins ++ pinsAt fp s.heap) σ H s :=
  I.pins_of fun p hp => (List.mem_append.mp hp).elim (fun z => I.pin p (List.mem_append_right _ z)) fun z => by
    obtain ⟨hb, e⟩ := of_pinsAt z
    obtain ⟨f0, f1, f2, _⟩ := hf p.1 hb
    obtain ⟨o, e', d⟩ := ho p.1 hb
    rw [e] at e'; cases e'
    exact ⟨e, f0, f1, f2, d⟩
theorem Inv.unpinned {pins pl : List (Addr × Obj)} {σ : St} {H : Hp} {s : Shared} (I : Inv X (pins ++ pl) σ H s) : Inv X pins σ H s := I.pins_of fun p hp => I.pin p (List.mem_append_right _ (List.mem_append_left _ hp))
theorem ps_for {iter : Expr} {body : List Stmt} {wi : TI} {g : TG} {tb : TS} {pos : Pos} (hp : PassesOwn (model X.prog X.w) X.A X.env X.xe) (hc : X.calm = true) (hi : PI X tg iter wi) (hg : PG X tg g) (hb : PSs X body tb)
    (hs : ∀ x, foldedSetIterable iter X.env x = pure x := by intro _; rfl) : PS X (.For tg iter body [] pos) (tFor wi g tb) := by
  intro pins s σ H D I h
  refine wpAny_For (thn (hi pins s σ H _ I h) fun v s1 h1 => thn h1 fun itv s2 h2 => ?_) hs
  obtain ⟨it, fp, tn, J, H2, e, I2, T, st2, f2, W, ⟨m0, w0⟩, turn⟩ := h2
  subst e
  -- what stays true of the iterator's objects through the loop
  have stat : ∀ {H' : Hp}, (∀ b ∈ fp, H' b = none) → ∀ b ∈ fp, FpOk X pins H' b := fun hn b hb => ⟨hn b hb, (f2 b hb).2⟩
  refine codeAny_forLoop_any (fun n s' => ∃ i σ' H', Inv X pins σ' H' s' ∧ tn i s'.heap ∧ (∀ b ∈ fp, H' b = none) ∧ W i n σ' H') ?_ m0 ⟨0, σ, H2, I2, st2, fun b hb => (f2 b hb).1, w0⟩
  rintro n s3 ⟨i, σ3, H3, I3, st3, fr3, w3⟩
  rcases turn i n σ3 H3 w3 with ⟨stop, qn⟩ | ⟨go, N, hN, step⟩
  · refine wpAny_passesOwn hp (thn (T.done X rfl rfl rfl hc i pins s3 σ3 H3 X.xe I3 (stat fr3) st3 stop) fun r s4 ⟨hr, I4⟩ => ?_)
    subst hr
    exact wpAny_execs_nil ⟨σ3, H3, I4, qn⟩
  · refine wpAny_passesOwn hp (thn (T.item X rfl rfl rfl hc i pins s3 σ3 H3 X.xe I3 (stat fr3) st3 go) fun r s4 ⟨u, hr, h4⟩ => ?_)
    subst hr
    refine wpAny_passesOwn hp (thn h4 fun _ s5 ⟨x, H5, I5, r5, y5, st5, fr5⟩ => ?_)
    have I5' := I5.pinned (stat fr5) (T.obj _ _ st5)
    refine wpAny_passesOwn hp (thn (hg _ s5 σ3 H5 x u _ I5' r5 (step x H5 y5)) fun _ s6 ⟨σ6, H6, I6, q6⟩ => ?_)
    refine wpAny_passesOwn hp (thn (hb _ s6 σ6 H6 _ I6 q6) fun f s7 q7 => ?_)
    have again : ∀ {σ7 : St} {H7 : Hp}, Inv X (pins ++ pinsAt fp s5.heap) σ7 H7 s7 → N σ7 H7 → ∃ m, m < n ∧ ∃ i σ' H', Inv X pins σ' H' s7 ∧ tn i s7.heap ∧ (∀ b ∈ fp, H' b = none) ∧ W i m σ' H' := fun {σ7 H7} I7 n7 => by
      obtain ⟨m', hm, w7⟩ := hN σ7 H7 n7
      refine ⟨m', hm, i + 1, σ7, H7, I7.unpinned, T.keep _ _ _ st5 fun b hb o e => (I7.pin (b, o) (List.mem_append_right _ (List.mem_append_right _ (mem_pinsAt hb e)))).1, fun b hb => ?_, w7⟩
      obtain ⟨o, e, d⟩ := T.obj _ _ st5 b hb
      exact (I7.pin (b, o) (List.mem_append_right _ (List.mem_append_right _ (mem_pinsAt hb e)))).2.1
    cases f with
    | next => obtain ⟨σ7, H7, I7, n7⟩ := q7; exact again I7 n7
    | cont => obtain ⟨σ7, H7, I7, n7⟩ := q7; exact again I7 n7
    | brk => obtain ⟨σ7, H7, I7, q7⟩ := q7; exact ⟨σ7, H7, I7.unpinned, q7⟩
    | ret v => obtain ⟨x7, σ7, H7, I7, r7, q7⟩ := q7; exact ⟨x7, σ7, H7, I7.unpinned, r7, q7⟩
end

/-! ### the forms one uses -/
/-- over a list that the body leaves as it is -/
theorem for_list {K : PySem.W.Frag} {a : Addr} {xs : List V} {g : TG} {tb : TS} {D : Ends} {σ : St} {H : Hp} (Pv : Nat → St → Hp → Prop) (h0 : Pv 0 σ H) (hl : ∀ i σ H, i ≤ xs.length → Pv i σ H → SqL K H a xs)
    (hs : ∀ i x σ H, xs[i]? = some x → Pv i σ H → g x σ H fun σ2 H2 => tb { D with nx := Pv (i + 1), ct := Pv (i + 1), bk := D.nx } σ2 H2) (hd : ∀ σ H, Pv xs.length σ H → D.nx σ H) :
    ∃ W : Nat → Nat → St → Hp → Prop, (∃ m, W 0 m σ H) ∧ ∀ i m σ H, W i m σ H →
      ((Itl K a).stop i H ∧ D.nx σ H) ∨ ((Itl K a).go i H ∧ ∃ N : St → Hp → Prop, (∀ σ' H', N σ' H' → ∃ m', m' < m ∧ W (i + 1) m' σ' H') ∧ ∀ x H', (Itl K a).yld i H x H' → g x σ H' fun σ2 H2 => tb { D with nx := N, ct := N, bk := D.nx } σ2 H2) := by
  refine ⟨fun i m σ H => m = xs.length - i ∧ i ≤ xs.length ∧ Pv i σ H, ⟨xs.length, by simp, Nat.zero_le _, h0⟩, ?_⟩
  rintro i m σ H ⟨rfl, hi, p⟩
  have q := hl i σ H hi p
  by_cases hlt : i < xs.length
  · refine .inr ⟨⟨xs, xs[i], q, by simp [hlt]⟩, Pv (i + 1), fun σ' H' p' => ⟨xs.length - (i + 1), by omega, rfl, hlt, p'⟩, fun x H' y => ?_⟩
    obtain ⟨e, y⟩ := y
    subst e
    exact hs i x σ _ (y xs q) p
  · have e : i = xs.length := by omega
    subst e
    exact .inl ⟨⟨xs, q, Nat.le_refl _⟩, hd σ H p⟩
theorem for_tup {K : PySem.W.Frag} {a : Addr} {xs : List V} {g : TG} {tb : TS} {D : Ends} {σ : St} {H : Hp} (Pv : Nat → St → Hp → Prop) (h0 : Pv 0 σ H) (hl : ∀ i σ H, i ≤ xs.length → Pv i σ H → SqT K H a xs)
    (hs : ∀ i x σ H, xs[i]? = some x → Pv i σ H → g x σ H fun σ2 H2 => tb { D with nx := Pv (i + 1), ct := Pv (i + 1), bk := D.nx } σ2 H2) (hd : ∀ σ H, Pv xs.length σ H → D.nx σ H) :
    ∃ W : Nat → Nat → St → Hp → Prop, (∃ m, W 0 m σ H) ∧ ∀ i m σ H, W i m σ H →
      ((Itt K a).stop i H ∧ D.nx σ H) ∨ ((Itt K a).go i H ∧ ∃ N : St → Hp → Prop, (∀ σ' H', N σ' H' → ∃ m', m' < m ∧ W (i + 1) m' σ' H') ∧ ∀ x H', (Itt K a).yld i H x H' → g x σ H' fun σ2 H2 => tb { D with nx := N, ct := N, bk := D.nx } σ2 H2) := by
  refine ⟨fun i m σ H => m = xs.length - i ∧ i ≤ xs.length ∧ Pv i σ H, ⟨xs.length, by simp, Nat.zero_le _, h0⟩, ?_⟩
  rintro i m σ H ⟨rfl, hi, p⟩
  have q := hl i σ H hi p
  by_cases hlt : i < xs.length
  · refine .inr ⟨⟨xs, xs[i], q, by simp [hlt]⟩, Pv (i + 1), fun σ' H' p' => ⟨xs.length - (i + 1), by omega, rfl, hlt, p'⟩, fun x H' y => ?_⟩
    obtain ⟨e, y⟩ := y
    subst e
    exact hs i x σ _ (y xs q) p
  · have e : i = xs.length := by omega
    subst e
    exact .inl ⟨⟨xs, q, Nat.le_refl _⟩, hd σ H p⟩
theorem for_range {lo : Int} {n : Nat} {g : TG} {tb : TS} {D : Ends} {σ : St} {H : Hp} (Pv : Nat → St → Hp → Prop) (h0 : Pv 0 σ H)
    (hs : ∀ i σ H, i < n → Pv i σ H → g (.int (lo + i)) σ H fun σ2 H2 => tb { D with nx := Pv (i + 1), ct := Pv (i + 1), bk := D.nx } σ2 H2) (hd : ∀ σ H, Pv n σ H → D.nx σ H) :
    ∃ W : Nat → Nat → St → Hp → Prop, (∃ m, W 0 m σ H) ∧ ∀ i m σ H, W i m σ H →
      ((Itr lo n).stop i H ∧ D.nx σ H) ∨ ((Itr lo n).go i H ∧ ∃ N : St → Hp → Prop, (∀ σ' H', N σ' H' → ∃ m', m' < m ∧ W (i + 1) m' σ' H') ∧ ∀ x H', (Itr lo n).yld i H x H' → g x σ H' fun σ2 H2 => tb { D with nx := N, ct := N, bk := D.nx } σ2 H2) := by
  refine ⟨fun i m σ H => m = n - i ∧ i ≤ n ∧ Pv i σ H, ⟨n, by simp, Nat.zero_le _, h0⟩, ?_⟩
  rintro i m σ H ⟨rfl, hi, p⟩
  by_cases hlt : i < n
  · refine .inr ⟨hlt, Pv (i + 1), fun σ' H' p' => ⟨n - (i + 1), by omega, rfl, hlt, p'⟩, fun x H' y => ?_⟩
    obtain ⟨e, y⟩ := y
    subst e y
    exact hs i σ _ hlt p
  · have e : i = n := by omega
    subst e
    exact .inl ⟨Nat.le_refl _, hd σ H p⟩
/-- while, by a word and a measure of the state -/
theorem while_by {c : TT} {tb : TS} {D : Ends} {σ : St} {H : Hp} (Pv : St → Hp → Prop) (μ : St → Hp → Nat) (h0 : Pv σ H)
    (hs : ∀ σ H, Pv σ H → c σ H fun b H1 => if b = true then tb { D with nx := fun σ' H' => Pv σ' H' ∧ μ σ' H' < μ σ H, ct := fun σ' H' => Pv σ' H' ∧ μ σ' H' < μ σ H, bk := D.nx } σ H1 else D.nx σ H1)
    (mono : ∀ σ H Q Q', (∀ b H1, Q b H1 → Q' b H1) → c σ H Q → c σ H Q') : tWhile c tb D σ H := by
  refine ⟨fun m σ H => m = μ σ H ∧ Pv σ H, ⟨_, rfl, h0⟩, ?_⟩
  rintro m σ H ⟨rfl, p⟩
  refine mono σ H _ _ (fun b H1 q => ?_) (hs σ H p)
  cases b with
  | true => exact ⟨_, fun σ' H' ⟨p', l⟩ => ⟨_, l, rfl, p'⟩, q⟩
  | false => exact q
end L2

namespace L2
open PySem PySem.Spec PyProof.Rows

abbrev R2 := V → V → Hp → VK → Prop
/-- a two-place operation on values: f is binaryOp op, inplaceOp op or compareOp op -/
def OpR (X : Cx) (f : Value → Value → Sem Value) (r : R2) : Prop :=
  ∀ (pins : List (Addr × Obj)) (s : Shared) (σ : St) (H : Hp) (x y : V) (v u : Value) (Q : VK), Inv X pins σ H s → RelV x v → RelV y u → r x y H Q →
    wpAny (model X.prog X.w) X.A (f v u) (EP X pins σ Q) X.xe s
/-- a one-place operation -/
def UnR (X : Cx) (f : Value → Sem Value) (r : V → Hp → VK → Prop) : Prop :=
  ∀ (pins : List (Addr × Obj)) (s : Shared) (σ : St) (H : Hp) (x : V) (v : Value) (Q : VK), Inv X pins σ H s → RelV x v → r x H Q →
    wpAny (model X.prog X.w) X.A (f v) (EP X pins σ Q) X.xe s
/-- a call of a value that is known (a builtin, a type) with values -/
def CallR (X : Cx) (f : Value) (r : List V → Hp → VK → Prop) : Prop :=
  ∀ (pins : List (Addr × Obj)) (s : Shared) (σ : St) (H : Hp) (xs : List V) (us : List Value) (Q : VK), Inv X pins σ H s → Vals xs us → r xs H Q →
    wpAny (model X.prog X.w) X.A (call f us) (EP X pins σ Q) X.xe s
def tOp (r : R2) (ta tb : TE) : TE := fun σ H Q => ta σ H fun x H1 => tb σ H1 fun y H2 => r x y H2 Q
def tUn (r : V → Hp → VK → Prop) (ta : TE) : TE := fun σ H Q => ta σ H fun x H1 => r x H1 Q
/-- ints in, under C, and a value out -/
def rI (C : Int → Int → Prop) (g : Int → Int → V) : R2 := fun x y H Q => ∃ i j, x = .int i ∧ y = .int j ∧ C i j ∧ Q (g i j) H
def rI0 (g : Int → Int → V) : R2 := fun x y H Q => ∃ i j, x = .int i ∧ y = .int j ∧ Q (g i j) H
def rU (g : Int → V) : V → Hp → VK → Prop := fun x H Q => ∃ i, x = .int i ∧ Q (g i) H

section
variable {X : Cx} {a b c : Expr} {ta tb tc : TE} {pos : Pos}

theorem binT (ha : PE X a ta) (hb : PE X b tb) {pins : List (Addr × Obj)} {s : Shared} {σ : St} {H : Hp} {R : V → V → Hp → Prop} (I : Inv X pins σ H s)
    (h : ta σ H fun x H1 => tb σ H1 fun y H2 => R x y H2) {Q : Value → Shared → Prop} {f : Value → Value → Sem Value}
    (hf : ∀ v u s2 x y H2, Inv X pins σ H2 s2 → RelV x v → RelV y u → R x y H2 → wpAny (model X.prog X.w) X.A (f v u) Q X.xe s2) :
    wpAny (model X.prog X.w) X.A (eval a X.env) (fun v s₁ => wpAny (model X.prog X.w) X.A (eval b X.env) (fun u s₂ => wpAny (model X.prog X.w) X.A (f v u) Q X.xe s₂) X.xe s₁) X.xe s := by
  refine thn (ha pins s σ H _ I h) fun v s1 ⟨x, H1, I1, r1, q1⟩ => ?_
  refine thn (hb pins s1 σ H1 _ I1 q1) fun u s2 ⟨y, H2, I2, r2, q2⟩ => ?_
  exact hf v u s2 x y H2 I2 r1 r2 q2

theorem pe_op {op : Operator} {r : R2} (ho : OpR X (binaryOp op) r) (ha : PE X a ta) (hb : PE X b tb) : PE X (.BinOp a op b pos) (tOp r ta tb) := by
  intro pins s σ H Q I h
  exact wpAny_BinOp (binT ha hb I h fun v u s2 x y H2 I2 rx ry q => ho pins s2 σ H2 x y v u Q I2 rx ry q)
theorem pe_un {op : UnaryOp} {r : V → Hp → VK → Prop} (ho : UnR X (unaryOp op) r) (ha : PE X a ta) : PE X (.UnaryOp op a pos) (tUn r ta) := by
  intro pins s σ H Q I h
  exact UnaryOp_ (thn (ha pins s σ H _ I h) fun v s1 ⟨x, H1, I1, r1, q1⟩ => ho pins s1 σ H1 x v Q I1 r1 q1)
/-! ### ints -/
theorem opI {f : Value → Value → Sem Value} {C : Int → Int → Prop} {g : Int → Int → Int}
    (rule : ∀ (i j : Int) (t u : Tok) (s : Shared) (Q : Value → Shared → Prop) (E : Value → Shared → Prop), C i j → Q (.int (g i j) s.toks) { s with toks := s.toks + 1 } → wpAny (model X.prog X.w) X.A (f (.int i t) (.int j u)) Q E s) :
    OpR X f (rI C fun i j => .int (g i j)) := by
  intro pins s σ H x y v u Q I rx ry h
  obtain ⟨i, j, rfl, rfl, hc, q⟩ := h
  obtain ⟨t, rfl⟩ := rx
  obtain ⟨t', rfl⟩ := ry
  exact rule i j t t' s _ _ hc ⟨.int (g i j), H, I.tok _, ⟨_, rfl⟩, q⟩
theorem opI0 {f : Value → Value → Sem Value} {g : Int → Int → Int}
    (rule : ∀ (i j : Int) (t u : Tok) (s : Shared) (Q : Value → Shared → Prop) (E : Value → Shared → Prop), Q (.int (g i j) s.toks) { s with toks := s.toks + 1 } → wpAny (model X.prog X.w) X.A (f (.int i t) (.int j u)) Q E s) :
    OpR X f (rI0 fun i j => .int (g i j)) := by
  intro pins s σ H x y v u Q I rx ry h
  obtain ⟨i, j, rfl, rfl, q⟩ := h
  obtain ⟨t, rfl⟩ := rx
  obtain ⟨t', rfl⟩ := ry
  exact rule i j t t' s _ _ ⟨.int (g i j), H, I.tok _, ⟨_, rfl⟩, q⟩
theorem opB0 {f : Value → Value → Sem Value} {g : Int → Int → Bool}
    (rule : ∀ (i j : Int) (t u : Tok) (s : Shared) (Q : Value → Shared → Prop) (E : Value → Shared → Prop), Q (.bool (g i j)) s → wpAny (model X.prog X.w) X.A (f (.int i t) (.int j u)) Q E s) :
    OpR X f (rI0 fun i j => .bl (g i j)) := by
  intro pins s σ H x y v u Q I rx ry h
  obtain ⟨i, j, rfl, rfl, q⟩ := h
  obtain ⟨t, rfl⟩ := rx
  obtain ⟨t', rfl⟩ := ry
  exact rule i j t t' s _ _ ⟨.bl (g i j), H, I, rfl, q⟩

def CDiv (i j : Int) : Prop := 0 < j ∧ j < 1073741824
def CMul (i j : Int) : Prop := (-(2 ^ 64) < i ∧ i < 2 ^ 64) ∨ (-(2 ^ 64) < j ∧ j < 2 ^ 64)
theorem CMul.ok {i j : Int} (h : CMul i j) : IntMulOk i j := by
  rcases h with ⟨h1, h2⟩ | ⟨h1, h2⟩
  · exact .of_left (intBits_le_64 h1 h2)
  · exact .of_right (intBits_le_64 h1 h2)
theorem op_add : OpR X (binaryOp .Add) (rI0 fun i j => .int (i + j)) := opI0 fun _ _ _ _ _ _ _ q => add_int q
theorem op_sub : OpR X (binaryOp .Sub) (rI0 fun i j => .int (i - j)) := opI0 fun _ _ _ _ _ _ _ q => sub_int q
theorem op_mul : OpR X (binaryOp .Mult) (rI CMul fun i j => .int (i * j)) := opI fun _ _ _ _ _ _ _ hc q => mul_int q hc.ok
/-- // by a positive divisor -/
theorem op_fdiv : OpR X (binaryOp .FloorDiv) (rI CDiv fun i j => .int (i / j)) := opI fun i j _ _ _ _ _ hc q => by
  have h1 : (0 : Int) < j := hc.1
  have h2 : j < 1073741824 := hc.2
  exact floordiv_int (by omega) (by rw [Int.fdiv_eq_ediv_of_nonneg i (by omega)]; exact q) (.inl (PyProof.noPylong_small (by omega)))
/-- % by a positive divisor of any size -/
theorem op_mod : OpR X (binaryOp .Mod) (rI (fun _ j => 0 < j) fun i j => .int (i % j)) := opI fun i j _ _ _ _ _ hc q => by
  have h1 : (0 : Int) < j := hc
  exact mod_int' (by omega) (by rw [Int.fmod_eq_emod_of_nonneg i (by omega)]; exact q)
theorem unI {f : Value → Sem Value} {g : Int → Int}
    (rule : ∀ (i : Int) (t : Tok) (s : Shared) (Q : Value → Shared → Prop) (E : Value → Shared → Prop), Q (.int (g i) s.toks) { s with toks := s.toks + 1 } → wpAny (model X.prog X.w) X.A (f (.int i t)) Q E s) :
    UnR X f (rU fun i => .int (g i)) := by
  intro pins s σ H x v Q I rx h
  obtain ⟨i, rfl, q⟩ := h
  obtain ⟨t, rfl⟩ := rx
  exact rule i t s _ _ ⟨.int (g i), H, I.tok _, ⟨_, rfl⟩, q⟩
theorem un_neg : UnR X (unaryOp .USub) (rU fun i => .int (-i)) := unI fun _ _ _ _ _ q => neg_int q
/-! ### bools among ints: n += (a < b) -/
end

/-! ### comparisons -/
/-- the scalars that == tells apart as data does -/
def scal : V → V → Bool
  | .non, .non => true | .non, .int _ => true | .int _, .non => true | .non, .bl _ => true | .bl _, .non => true | .non, .str _ => true | .str _, .non => true
  | .int _, .int _ => true | .bl _, .bl _ => true | .str _, .str _ => true | .byt _, .byt _ => true
  | .int _, .str _ => true | .str _, .int _ => true | .bl _, .str _ => true | .str _, .bl _ => true
  | _, _ => false
def rEq : R2 := fun x y H Q => scal x y = true ∧ Q (.bl (decide (x = y))) H
def rNe : R2 := fun x y H Q => scal x y = true ∧ Q (.bl (!decide (x = y))) H

theorem dec_int {i j : Int} : decide (V.int i = V.int j) = (i == j) := by
  rw [Bool.eq_iff_iff]
  simp
theorem dec_bl {i j : Bool} : decide (V.bl i = V.bl j) = (i == j) := by
  rw [Bool.eq_iff_iff]
  simp
theorem dec_str {i j : Str} : decide (V.str i = V.str j) = (i == j) := by
  rw [Bool.eq_iff_iff]
  simp
theorem dec_byt {i j : Array UInt8} : decide (V.byt i = V.byt j) = (i.toList == j.toList) := by
  rw [Bool.eq_iff_iff]
  cases i
  cases j
  simp

section
variable {X : Cx} {a b c : Expr} {ta tb tc : TE} {pos : Pos}
theorem fin_bl {pins : List (Addr × Obj)} {σ : St} {H : Hp} {s : Shared} {Q : VK} {k k' : Bool} (I : Inv X pins σ H s) (q : Q (.bl k) H) (e : k = k') : EP X pins σ Q (.bool k') s := by
  subst e
  exact ⟨.bl k, H, I, rfl, q⟩
theorem op_eq : OpR X (compareOp .Eq) rEq := by
  intro pins s σ H x y v u Q I rx ry h
  obtain ⟨hs, q⟩ := h
  cases x with
  | non =>
    cases rx
    cases y with
    | non => cases ry; exact PySem.EqNone.eq_none_none (fin_bl I q (by simp))
    | bl j => cases ry; exact PySem.EqNone.eq_none_bool (fin_bl I q (by simp))
    | int j => obtain ⟨t', rfl⟩ := ry; exact PySem.EqNone.eq_none_int (fin_bl I q (by simp))
    | str j => obtain ⟨t', rfl⟩ := ry; exact PySem.EqNone.eq_none_str (fin_bl I q (by simp))
    | _ => exact absurd (show false = true from hs) Bool.false_ne_true
  | bl i =>
    cases rx
    cases y with
    | non => cases ry; exact PySem.EqNone.eq_bool_none (fin_bl I q (by simp))
    | bl j => cases ry; exact eq_bool (fin_bl I q dec_bl)
    | str j => obtain ⟨t', rfl⟩ := ry; exact PySem.EqMixed.eq_bool_str (fin_bl I q (by simp))
    | _ => exact absurd (show false = true from hs) Bool.false_ne_true
  | int i =>
    obtain ⟨t, rfl⟩ := rx
    cases y with
    | non => cases ry; exact PySem.EqNone.eq_int_none (fin_bl I q (by simp))
    | int j => obtain ⟨t', rfl⟩ := ry; exact eq_int (fin_bl I q dec_int)
    | str j => obtain ⟨t', rfl⟩ := ry; exact PySem.EqMixed.eq_int_str (fin_bl I q (by simp))
    | _ => exact absurd (show false = true from hs) Bool.false_ne_true
  | str i =>
    obtain ⟨t, rfl⟩ := rx
    cases y with
    | non => cases ry; exact PySem.EqNone.eq_str_none (fin_bl I q (by simp))
    | bl j => cases ry; exact PySem.EqMixed.eq_str_bool (fin_bl I q (by simp))
    | int j => obtain ⟨t', rfl⟩ := ry; exact PySem.EqMixed.eq_str_int (fin_bl I q (by simp))
    | str j => obtain ⟨t', rfl⟩ := ry; exact eq_str (fin_bl I q dec_str)
    | _ => exact absurd (show false = true from hs) Bool.false_ne_true
  | byt i =>
    obtain ⟨t, rfl⟩ := rx
    cases y with
    | byt j => obtain ⟨t', rfl⟩ := ry; exact PySem.W.eq_bytes (fin_bl I q dec_byt)
    | _ => exact absurd (show false = true from hs) Bool.false_ne_true
  | _ => cases y <;> exact absurd (show false = true from hs) Bool.false_ne_true
theorem op_ne : OpR X (compareOp .NotEq) rNe := by
  intro pins s σ H x y v u Q I rx ry h
  obtain ⟨hs, q⟩ := h
  cases x with
  | non =>
    cases rx
    cases y with
    | non => cases ry; exact PySem.EqNone.ne_none_none (fin_bl I q (by simp))
    | bl j => cases ry; exact PySem.EqNone.ne_none_bool (fin_bl I q (by simp))
    | int j => obtain ⟨t', rfl⟩ := ry; exact PySem.EqNone.ne_none_int (fin_bl I q (by simp))
    | str j => obtain ⟨t', rfl⟩ := ry; exact PySem.EqNone.ne_none_str (fin_bl I q (by simp))
    | _ => exact absurd (show false = true from hs) Bool.false_ne_true
  | bl i =>
    cases rx
    cases y with
    | non => cases ry; exact PySem.EqNone.ne_bool_none (fin_bl I q (by simp))
    | bl j => cases ry; exact ne_bool (fin_bl I q (congrArg not dec_bl))
    | str j => obtain ⟨t', rfl⟩ := ry; exact PySem.EqMixed.ne_bool_str (fin_bl I q (by simp))
    | _ => exact absurd (show false = true from hs) Bool.false_ne_true
  | int i =>
    obtain ⟨t, rfl⟩ := rx
    cases y with
    | non => cases ry; exact PySem.EqNone.ne_int_none (fin_bl I q (by simp))
    | int j => obtain ⟨t', rfl⟩ := ry; exact ne_int (fin_bl I q (congrArg not dec_int))
    | str j => obtain ⟨t', rfl⟩ := ry; exact PySem.EqMixed.ne_int_str (fin_bl I q (by simp))
    | _ => exact absurd (show false = true from hs) Bool.false_ne_true
  | str i =>
    obtain ⟨t, rfl⟩ := rx
    cases y with
    | non => cases ry; exact PySem.EqNone.ne_str_none (fin_bl I q (by simp))
    | bl j => cases ry; exact PySem.EqMixed.ne_str_bool (fin_bl I q (by simp))
    | int j => obtain ⟨t', rfl⟩ := ry; exact PySem.EqMixed.ne_str_int (fin_bl I q (by simp))
    | str j => obtain ⟨t', rfl⟩ := ry; exact ne_str (fin_bl I q (congrArg not dec_str))
    | _ => exact absurd (show false = true from hs) Bool.false_ne_true
  | byt i =>
    obtain ⟨t, rfl⟩ := rx
    cases y with
    | byt j => obtain ⟨t', rfl⟩ := ry; exact PySem.W.ne_bytes (fin_bl I q (congrArg not dec_byt))
    | _ => exact absurd (show false = true from hs) Bool.false_ne_true
  | _ => cases y <;> exact absurd (show false = true from hs) Bool.false_ne_true

theorem op_lt : OpR X (compareOp .Lt) (rI0 fun i j => .bl (decide (i < j))) := opB0 fun _ _ _ _ _ _ _ q => lt_int q
theorem op_le : OpR X (compareOp .LtE) (rI0 fun i j => .bl (decide (i ≤ j))) := opB0 fun _ _ _ _ _ _ _ q => le_int q
theorem op_gt : OpR X (compareOp .Gt) (rI0 fun i j => .bl (decide (j < i))) := opB0 fun _ _ _ _ _ _ _ q => gt_int q
theorem op_ge : OpR X (compareOp .GtE) (rI0 fun i j => .bl (decide (j ≤ i))) := opB0 fun _ _ _ _ _ _ _ q => ge_int q
theorem nomark (b : Expr) {op : CmpOp} (h : op ≠ .In := by decide) (h2 : op ≠ .NotIn := by decide) : behindInMarks op b = false := by
  have e1 : (op == CmpOp.In) = false := by cases op <;> first | rfl | exact absurd rfl h
  have e2 : (op == CmpOp.NotIn) = false := by cases op <;> first | rfl | exact absurd rfl h2
  cases b <;> simp [behindInMarks, e1, e2]
/-- a comparison as a value; hm: nomark b, or (for in, not in) by with_unfolding_all rfl -/
theorem pe_cmpR {op : CmpOp} {r : R2} (ho : OpR X (compareOp op) r) (ha : PE X a ta) (hb : PE X b tb) (hm : behindInMarks op b = false) : PE X (.Compare a [op] [b] pos) (tOp r ta tb) := by
  intro pins s σ H Q I h
  exact wpAny_Compare1 (binT ha hb I h fun v u s2 x y H2 I2 rx ry q => ho pins s2 σ H2 x y v u Q I2 rx ry q) hm
/-- a reading of a value as a test -/
def tTest (t : TE) : TT := fun σ H Q => t σ H fun x H' => ∃ k, x = .bl k ∧ Q k H'
theorem pt_cmpR {op : CmpOp} {r : R2} (ho : OpR X (compareOp op) r) (ha : PE X a ta) (hb : PE X b tb) (hm : behindInMarks op b = false) : PT X (.Compare a [op] [b] pos) (tTest (tOp r ta tb)) := by
  intro pins s σ H Q I h
  refine wpAny_isTrue_Compare1 (thn (ha pins s σ H _ I h) fun v s1 ⟨x, H1, I1, r1, q1⟩ => thn (hb pins s1 σ H1 _ I1 q1) fun u s2 ⟨y, H2, I2, r2, q2⟩ =>
    thn (ho pins s2 σ H2 x y v u _ I2 r1 r2 q2) fun c s3 ⟨z, H3, I3, r3, k, e, q3⟩ => ?_) hm
  subst e
  cases r3
  exact wpAny_truthy_bool ⟨H3, I3, q3⟩
/-- a op1 b op2 c -/
def tChain (r r' : R2) (ta tb tc : TE) : TE := fun σ H Q => ta σ H fun x H1 => tb σ H1 fun y H2 => r x y H2 fun z H3 => ∃ k, z = .bl k ∧
  (if k = true then tc σ H3 fun w' H4 => r' y w' H4 Q else Q (.bl false) H3)
theorem pe_chain {op op' : CmpOp} {r r' : R2} (ho : OpR X (compareOp op) r) (ho' : OpR X (compareOp op') r') (ha : PE X a ta) (hb : PE X b tb) (hc : PE X c tc)
    (hm : lastMarks [op, op'] [b, c] = false := by with_unfolding_all rfl) : PE X (.Compare a [op, op'] [b, c] pos) (tChain r r' ta tb tc) := by
  intro pins s σ H Q I h
  refine Compare_chain (thn (ha pins s σ H _ I h) fun v s1 ⟨x, H1, I1, r1, q1⟩ => chain_link (thn (hb pins s1 σ H1 _ I1 q1) fun u s2 ⟨y, H2, I2, r2, q2⟩ =>
    thn (ho pins s2 σ H2 x y v u _ I2 r1 r2 q2) fun d s3 ⟨z, H3, I3, r3, k, e, q3⟩ => ?_)) hm
  subst e
  cases r3
  refine wpAny_truthy_bool ?_
  cases k with
  | false => exact ite_ff ⟨.bl false, H3, I3, rfl, q3⟩
  | true => exact ite_tt (chain_last (thn (hc pins s3 σ H3 _ I3 q3) fun w' s4 ⟨z', H4, I4, r4, q4⟩ => ho' pins s4 σ H4 y z' u w' Q I4 r2 r4 q4))
theorem pt_chain {op op' : CmpOp} {r r' : R2} (ho : OpR X (compareOp op) r) (ho' : OpR X (compareOp op') r') (ha : PE X a ta) (hb : PE X b tb) (hc : PE X c tc)
    (hm : lastMarks [op, op'] [b, c] = false := by with_unfolding_all rfl) : PT X (.Compare a [op, op'] [b, c] pos) (tTest (tChain r r' ta tb tc)) := by
  intro pins s σ H Q I h
  refine isTrue_chain (thn (ha pins s σ H _ I h) fun v s1 ⟨x, H1, I1, r1, q1⟩ => test_link (thn (hb pins s1 σ H1 _ I1 q1) fun u s2 ⟨y, H2, I2, r2, q2⟩ =>
    thn (ho pins s2 σ H2 x y v u _ I2 r1 r2 q2) fun d s3 ⟨z, H3, I3, r3, k, e, q3⟩ => ?_)) hm
  subst e
  cases r3
  refine wpAny_truthy_bool ?_
  cases k with
  | false =>
    obtain ⟨k', e', q'⟩ := q3
    cases e'
    exact ite_ff ⟨H3, I3, q'⟩
  | true =>
    refine ite_tt (test_last (thn (hc pins s3 σ H3 _ I3 q3) fun w' s4 ⟨z', H4, I4, r4, q4⟩ => thn (ho' pins s4 σ H4 y z' u w' _ I4 r2 r4 q4) fun d' s5 ⟨z2, H5, I5, r5, k2, e2, q5⟩ => ?_))
    subst e2
    cases r5
    exact wpAny_truthy_bool ⟨H5, I5, q5⟩

/-! ### truth -/
theorem line63 : (sizeLine : Nat) < 2 ^ 63 := by rw [sizeLine_eq]; decide
/-! ### strs and bytes -/
/-! ### scalar builtins, by CallR -/
theorem vals1 {x : V} {us : List Value} (r : Vals [x] us) : ∃ u, us = [u] ∧ RelV x u := by
  cases r with
  | cons r1 r2 => cases r2; exact ⟨_, rfl, r1⟩
theorem vals2 {x y : V} {us : List Value} (r : Vals [x, y] us) : ∃ u w', us = [u, w'] ∧ RelV x u ∧ RelV y w' := by
  cases r with
  | cons r1 r2 =>
    cases r2 with
    | cons r3 r4 => cases r4; exact ⟨_, _, rfl, r1, r3⟩
end
end L2

namespace L2
open PySem PySem.Spec PyProof.Rows

/-! ### an instance, its attributes a map -/
structure ObjM (h : Heap) (x dx C : Addr) (mA : Str → Option Value) : Prop where
  obj : h.get? x = some (PySem.W.instObj C dx)
  ns : h.Ns1 dx mA
  ne : dx ≠ x

theorem lookIn_ns {h : Heap} {dx : Addr} {mA : Str → Option Value} (n : h.Ns1 dx mA) : ∃ od, h.get? dx = some od ∧ ∀ name, PySem.W.lookIn name od = some (mA name) := by
  obtain ⟨o, es, ep, ho, hd, hk, _, hm⟩ := n
  refine ⟨o, ho, fun name => ?_⟩
  have e := hm name
  unfold nsFind findBy at e
  rw [← Array.find?_toList] at e
  unfold PySem.W.lookIn
  rw [hd]
  dsimp only
  split
  · rename_i y q
    rw [q] at e
    exact congrArg some e
  · rename_i q
    rw [q] at e
    have a : es.toList.any (·.refKey) = false := by
      rw [List.any_eq_false]
      intro y hy
      obtain ⟨z, t, hkey⟩ := hk y (Array.mem_toList_iff.mp hy)
      simp [DictEntry.refKey, hkey]
    have a' : ¬ es.toList.any (·.refKey) = true := by rw [a]; exact Bool.false_ne_true
    rw [if_neg a']
    exact congrArg some e

theorem ObjM.look {h : Heap} {x dx C : Addr} {mA : Str → Option Value} (I : ObjM h x dx C mA) : ∃ od, PySem.W.InstAt h x (PySem.W.instObj C dx) C (some od) ∧ ∀ name, PySem.W.lookIn name od = some (mA name) :=
  let ⟨od, ho, hl⟩ := lookIn_ns I.ns
  ⟨od, ⟨I.obj, rfl, rfl, ho⟩, hl⟩

section
variable {prog : Program} {w : World} {A : Around} {E : Value → Shared → Prop} {s : Shared} {K : PySem.W.Frag} {x dx C f : Addr} {mA : Str → Option Value} {name : Str} {v : Value}

end

/-! ### the attributes as a list of pairs -/
section
variable {P : Program} {w : World} {H H' : Hp} {h h' : Heap} {a C dx : Addr} {fs fs' : List (Str × V)}
theorem ins_get (hok : HOk P w H h) (e : H a = some (.ins C dx fs)) : ∃ mA, ObjM h a dx C mA ∧ (∀ f, RelO (fs.lookup f) (mA f)) ∧ PySem.Within mA (fs.map (·.1)) ∧ fs.length ≤ 1000 ∧ H dx = some (.own a) := by
  obtain ⟨d, z, ne, ob, mA, n, r, q⟩ := (show ObjOk P w H h a (.ins C dx fs) from hok a _ e)
  exact ⟨mA, ⟨ob, n, ne⟩, r, q, z, d⟩
end

/-! ### what of the text a class must have -/
structure Cls (K : PySem.W.Frag) (C : Addr) : Prop where
  pg : PySem.W.plainGet K C Str.empty = true
  hd : PySem.W.hasDictIn K C = true
  po : PySem.W.plainOver K C = true
  sa : PySem.W.findIn K (.ref C) "__setattr__" = some (some (.builtin "object.__setattr__"))
theorem Cls.get {K : PySem.W.Frag} {C : Addr} (c : Cls K C) (f : Str) : PySem.W.plainGet K C f = true := c.pg
section
variable {X : Cx} {pins : List (Addr × Obj)} {σ : St} {H : Hp} {s : Shared} {a C dx : Addr} {fs : List (Str × V)} {f : Str} {v : V} {A : Around} {E : Value → Shared → Prop}

end

/-! ### readings and rules -/
section
variable {X : Cx} {o e value : Expr} {f : Str} {pos pos' tpos : Pos} {ta tv : TE}
end

/-! ### isinstance -/
section
variable {X : Cx} {pins : List (Addr × Obj)} {σ : St} {H : Hp} {s : Shared} {A : Around} {E : Value → Shared → Prop} {Q : Value → Shared → Prop} {c : Value} {b : Bool}
/-- the type of a value, as the fragment's deciders take it; for an instance its class -/
inductive TyOf (K : PySem.W.Frag) (H : Hp) : V → Value → Prop where
  | non : TyOf K H .non (.type "NoneType")
  | bl (x : Bool) : TyOf K H (.bl x) (.type "bool")
  | int (i : Int) : TyOf K H (.int i) (.type "int")
  | str (x : Str) : TyOf K H (.str x) (.type "str")
  | flt (x : UInt64) : TyOf K H (.flt x) (.type "float")
  | lst {a : Addr} {xs : List V} (e : H a = some (.lst xs)) : TyOf K H (.ref a) (.type "list")
  | frz {a : Addr} {o : Obj} {xs : List V} (e : H a = some (.frz o (.lst xs))) : TyOf K H (.ref a) (.type "list")
  | tup {a : Addr} {xs : List V} (e : H a = some (.tup xs)) : TyOf K H (.ref a) (.type "tuple")
  | dK {a : Addr} {kvs : List (Key × V)} (e : H a = some (.dK kvs)) : TyOf K H (.ref a) (.type "dict")
  | dT {a : Addr} {kvs : List (List Key × V)} (e : H a = some (.dT kvs)) : TyOf K H (.ref a) (.type "dict")
  | ins {a C dx : Addr} {fs : List (Str × V)} (e : H a = some (.ins C dx fs)) (cl : Cls K C) (ha : PySem.W.findIn K (.ref C) "__class__" = some (some (.builtin "object.__class__")))
      (hn : PySem.W.specialIn K (.builtin "object.__class__") "__get__" = some (some (.builtin "getset_descriptor.__get__"))) (htk : PySem.W.takesIn K (.builtin "object.__class__") = some true)
      (hm : PySem.W.mroIn K C (.type "object") = some true) : TyOf K H (.ref a) (.ref C)
/-- isinstance(x, c) for one class c, a built-in or an own one: kitOne's answer -/
theorem isinst_ok {x : V} {u t : Value} (I : Inv X pins σ H s) (rx : RelV x u) (ty : TyOf X.K H x t) (e : PySem.W.kitOne X.K t c = some b) (h : ∀ tk, Q (.bool b) { s with toks := tk }) :
    wpAny (model X.prog X.w) A (call (.builtin "isinstance") [u, c]) Q E s := by
  cases ty with
  | non => cases (show u = Value.none from rx); exact PySem.W.kia_one PySem.W.kitx_none I.kIn True.intro e (fun z => nomatch z) h
  | bl y => cases (show u = Value.bool y from rx); exact PySem.W.kia_one PySem.W.kitx_bool I.kIn True.intro e (fun z => nomatch z) h
  | int i => obtain ⟨t, q⟩ := (show ∃ t, u = Value.int i t from rx); cases q; exact PySem.W.kia_one PySem.W.kitx_int I.kIn True.intro e (fun z => nomatch z) h
  | str y => obtain ⟨t, q⟩ := (show ∃ t, u = Value.str y t from rx); cases q; exact PySem.W.kia_one PySem.W.kitx_str I.kIn True.intro e (fun z => nomatch z) h
  | flt y => obtain ⟨t, q⟩ := (show ∃ t, u = Value.float y t from rx); cases q; exact PySem.W.kia_one PySem.W.kitx_float I.kIn True.intro e (fun z => nomatch z) h
  | @lst a xs ea =>
    cases (show u = Value.ref a from rx)
    obtain ⟨_, _, n, _, h1⟩ := (show ObjOk X.prog X.w H s.heap a (.lst xs) from I.hok a _ ea)
    exact PySem.W.kia_one PySem.W.kitx_list I.kIn ⟨_, h1, rfl⟩ e (fun z => nomatch z) h
  | @frz a ob xs ea =>
    cases (show u = Value.ref a from rx)
    obtain ⟨_, _, _, n, _, h1⟩ := (show ObjOk X.prog X.w H s.heap a (.frz ob (.lst xs)) from I.hok a _ ea)
    exact PySem.W.kia_one PySem.W.kitx_list I.kIn ⟨_, h1, rfl⟩ e (fun z => nomatch z) h
  | @tup a xs ea =>
    cases (show u = Value.ref a from rx)
    obtain ⟨_, _, _, p⟩ := (show ObjOk X.prog X.w H s.heap a (.tup xs) from I.hok a _ ea)
    obtain ⟨o, h1, h2, _⟩ := p
    exact PySem.W.kia_one PySem.W.kitx_tuple I.kIn ⟨o, h1, h2⟩ e (fun z => nomatch z) h
  | @dK a kvs ea =>
    cases (show u = Value.ref a from rx)
    obtain ⟨_, _, vs, _, p⟩ := (show ObjOk X.prog X.w H s.heap a (.dK kvs) from I.hok a _ ea)
    obtain ⟨o, es, ep, h1, h2, _⟩ := p
    exact PySem.W.kia_one PySem.W.kitx_dict I.kIn ⟨o, h1, h2.1⟩ e (fun z => nomatch z) h
  | @dT a kvs ea =>
    cases (show u = Value.ref a from rx)
    obtain ⟨_, _, xs, _, o, es, ep, h1, h2, _⟩ := (show ObjOk X.prog X.w H s.heap a (.dT kvs) from I.hok a _ ea)
    exact PySem.W.kia_one PySem.W.kitx_dict I.kIn ⟨o, h1, h2.1⟩ e (fun z => nomatch z) h
  | @ins a C dx fs ea cl ha hn htk hm =>
    cases (show u = Value.ref a from rx)
    obtain ⟨mA, O, _⟩ := ins_get I.hok ea
    obtain ⟨od, J, _⟩ := O.look
    exact PySem.W.kia_one (PySem.W.kitx_own (cl.get _) cl.hd ha hn htk hm) I.kIn J e (fun z => nomatch z) h
end
end L2

namespace L2
open PySem PySem.Spec PyProof.Rows

/-! ### room -/
structure Room (k : Nat) (A : Around) : Prop where
  hd : A.handled = none
  dp : A.depth + 3 * k + 5 < recursionLimit
  un : A.units + 16 * k + 200 < cLine
theorem Room.mono {j k : Nat} {A : Around} (r : Room k A) (h : j ≤ k) : Room j A := ⟨r.hd, by have := r.dp; omega, by have := r.un; omega⟩
theorem Room.deeper {k : Nat} {A : Around} (r : Room (k + 1) A) (env : Env) : Room k (A.deeper env) :=
  ⟨r.hd, by have := r.dp; show A.depth + 1 + 3 * k + 5 < _; omega, by have := r.un; show A.units + 3 + 16 * k + 200 < _; omega⟩
theorem Room.depth {k : Nat} {A : Around} (r : Room k A) : A.depth < recursionLimit := by have := r.dp; omega
theorem Room.units {k : Nat} {A : Around} (r : Room k A) : A.units + 64 < cLine := by have := r.un; omega
/-! ### argument lists and displays -/
def tNil : TA := fun _ H Q => Q [] H
def tCons (ta : TE) (tr : TA) : TA := fun σ H Q => ta σ H fun x H1 => tr σ H1 fun xs H2 => Q (x :: xs) H2
section
variable {X : Cx} {e : Expr} {es : List Expr} {te : TE} {t : TA} {pos : Pos}
theorem pa_nil : PA X [] tNil := fun _ _ _ _ H Q I h => Calls.spliced_nil ⟨[], H, I, .nil, h⟩
theorem pa_cons (ha : PE X e te) (hr : PA X es t) (hs : starEach (e :: es) X.env = (false, eval e X.env) :: starEach es X.env := by rfl) : PA X (e :: es) (tCons te t) := by
  intro pos pins s σ H Q I h
  rw [hs]
  show wpAny _ _ (spliced ((false, eval e X.env) :: backTo pos (starEach es X.env))) _ _ s
  refine Calls.spliced_cons (thn (ha pins s σ H _ I h) fun u s1 ⟨x, H1, I1, r1, q1⟩ => ?_)
  exact thn (hr pos pins s1 σ H1 _ I1 q1) fun us s2 ⟨xs, H2, I2, r2, q2⟩ => ⟨x :: xs, H2, I2, .cons r1 r2, q2⟩

/-- a tuple, a list of written items -/
def tTup (t : TA) : TE := fun σ H Q => t σ H fun xs H1 => xs.length ≤ sizeLine ∧ ∀ p, H1 p = none → Q (.ref p) (upd H1 p (.tup xs))
def tLst (t : TA) : TE := fun σ H Q => t σ H fun xs H1 => xs.length ≤ sizeLine ∧ ∀ p, H1 p = none → Q (.ref p) (upd H1 p (.lst xs))
theorem pe_tup {x1} (h : PA X es t) : PE X (.Tuple es x1 pos) (tTup t) := by
  intro pins s σ H Q I hq
  refine wpAny_Tuple_spliced (thn (h pos pins s σ H _ I hq) fun us s1 ⟨xs, H1, I1, r, z, q⟩ => ⟨by rw [← r.length]; exact z, ?_⟩)
  have hf : H1 s1.heap.objs.size = none := I1.hok.fresh (Nat.le_refl _)
  refine ⟨.ref s1.heap.objs.size, upd H1 s1.heap.objs.size (.tup xs), I1.laid (t' := s1.toks) (fun b u e => Heap.get?_push_of_some _ e) (Nat.le_refl _) ?_, rfl, q _ hf⟩
  exact ⟨z, us, r, ⟨_, Heap.get?_push_size _ rfl, rfl, _, rfl⟩⟩
theorem pe_lst (h : PA X es t) : PE X (.List es pos) (tLst t) := by
  intro pins s σ H Q I hq
  refine wpAny_List_spliced (thn (h pos pins s σ H _ I hq) fun us s1 ⟨xs, H1, I1, r, z, q⟩ => ⟨by rw [← r.length]; exact z, ?_⟩)
  have hf : H1 s1.heap.objs.size = none := I1.hok.fresh (Nat.le_refl _)
  refine ⟨.ref s1.heap.objs.size, upd H1 s1.heap.objs.size (.lst xs), I1.laid (t' := s1.toks) (fun b u e => Heap.get?_push_of_some _ e) (Nat.le_refl _) ?_, rfl, q _ hf⟩
  exact ⟨z, us, 0, r, Heap.get?_push_size _ rfl⟩
end

/-! ### what a def promises -/
/-- a def's promise: the bound arguments in the parameters' order, the heap, the wanted end, the wanted exception -/
abbrev Sp := List V → Hp → VK → XK → Prop
/-- how an exception lies behind a call (file 08 gives it): the callers' frames, abstract heap and state ahead of the call, the wish, the exception, the state -/
abbrev CXT := List Env → Hp → Shared → XK → Value → Shared → Prop

/-- the state at a call -/
structure Env0 (P : Program) (w : World) (K : PySem.W.Frag) (mg : Str → Option Value) (base : Heap) (A : Around) (outer : List Env) (s : Shared) (H : Hp) : Prop where
  frames : A.frames = some outer
  mod : Mod K mg base
  bs : ∀ b o, base.get? b = some o → s.heap.get? b = some o ∧ H b = none
  bsz : base.objs.size ≤ s.heap.objs.size
  funs : s.heap.FunFrames base outer
  frf : ∀ b ∈ frs outer, H b = none
  hok : HOk P w H s.heap
  bare : AllBare s.gens
/-- a call's end -/
def CE (outer : List Env) (P : Program) (w : World) (H : Hp) (s : Shared) (Q : VK) (u : Value) (s' : Shared) : Prop :=
  ∃ v H', s'.os = s.os ∧ AllBare s'.gens ∧ Un (frs outer) [] H H' s.heap s'.heap ∧ HOk P w H' s'.heap ∧ RelV v u ∧ Q v H'
def CR (CX : CXT) (outer : List Env) (P : Program) (w : World) (H : Hp) (s : Shared) (Q : VK) (E : XK) (r : Result) (s' : Shared) : Prop :=
  match r with
  | .ok (.ret u) => CE outer P w H s Q u s'
  | .ok _ => False
  | .error e => CX outer H s E e s'
structure FnOk (P : Program) (w : World) (K : PySem.W.Frag) (mg : Str → Option Value) (base : Heap) (CX : CXT) (k : Nat) (f : Addr) (fd : FuncData) (ps : List Str) (sp : Sp) : Prop where
  len : ∀ vs H Q E, sp vs H Q E → vs.length = ps.length
  run : ∀ (A : Around) (outer : List Env) (s : Shared) (H : Hp) (args : Args) (us : List Value) (vs : List V) (Q : VK) (E : XK), Room k A → Env0 P w K mg base A outer s H → BindsTo s fd args (ps.zip us) → Vals vs us → sp vs H Q E →
    codeAny (model P w) A (.call (.ref f) args) (CR CX outer P w H s Q E) s
section
variable {X : Cx} {pins : List (Addr × Obj)} {σ : St} {H : Hp} {s s' : Shared}
/-- from a body: what a callee wants -/
theorem Inv.env0 (I : Inv X pins σ H s) : Env0 X.prog X.w X.K X.mg X.base X.A X.stack s H :=
  ⟨I.ok.frames, I.ok.mod, I.bs, Nat.le_trans I.ok.bsz I.sz, I.stack, I.stkFree, I.hok, I.bare⟩
/-- behind a call -/
theorem Inv.after {Q : VK} {u : Value} (I : Inv X pins σ H s) (h : CE X.stack X.prog X.w H s Q u s') : EP X pins σ Q u s' := by
  obtain ⟨v, H', os, bare, un, hok, r, q⟩ := h
  obtain ⟨hh, g, d, t, os'⟩ := s'
  obtain rfl : os' = s.os := os
  exact ⟨v, H', I.call (h' := hh) (g' := g) (d' := d) (t' := t) (ch := []) un hok bare (fun b z => absurd z (by simp)), r, q⟩
end

/-! ### calls -/
/-- f(..): the written arguments, then the defaults dvs; E: what is wanted of an exception -/
def tCall (sp : Sp) (dvs : List V) (E : XK) (t : TA) : TE := fun σ H Q => t σ H fun vs H1 => sp (vs ++ dvs) H1 Q E
/-- how the parameters are bound: us the positional arguments, kw the keywords' values by name, ds the defaults that fill up -/
def Binds (K : PySem.W.Frag) (fd : FuncData) (ps : List Str) (ds : List Value) : Prop :=
  ∀ (s : Shared) (us : List Value), K.In s.heap → (us ++ ds).length = ps.length → BindsTo s fd ⟨us, []⟩ (ps.zip (us ++ ds))
/-- every parameter is given -/
theorem Binds.all {K : PySem.W.Frag} {fd : FuncData} {ps : List Str} (h : ∀ us : List Value, us.length = ps.length → bindArgs fd ⟨us, []⟩ = pure (ps.zip us)) : Binds K fd ps [] := fun s us _ hl => by
  rw [List.append_nil] at hl ⊢
  exact .of_eq (h us hl)

/-- an exception of a callee reaches what this body wants of exceptions -/
def Passes (CX : CXT) (X : Cx) (E : XK) : Prop := ∀ (pins : List (Addr × Obj)) (σ : St) (H : Hp) (s : Shared) (e : Value) (s' : Shared), Inv X pins σ H s → CX X.stack H s E e s' → X.xe e s'

section
variable {X : Cx} {CX : CXT} {k : Nat} {f C : Addr} {fd : FuncData} {ps : List Str} {sp : Sp} {dvs : List V} {ds : List Value} {E : XK} {x m : Str} {p pos apos : Pos} {e o : Expr} {es : List Expr} {ta : TE} {t : TA}

/-- the callee runs -/
theorem run_fn {pins : List (Addr × Obj)} {σ : St} {H : Hp} {s : Shared} {Q : VK} {us : List Value} {vs : List V} (F : FnOk X.prog X.w X.K X.mg X.base CX k f fd ps sp) (hr : Room k X.A) (hb : Binds X.K fd ps ds) (hd : Vals dvs ds) (hx : Passes CX X E)
    (I : Inv X pins σ H s) (r : Vals vs us) (h : sp (vs ++ dvs) H Q E) : wpAny (model X.prog X.w) X.A (call (.ref f) us) (EP X pins σ Q) X.xe s := by
  have r2 : Vals (vs ++ dvs) (us ++ ds) := r.append hd
  have hl : (us ++ ds).length = ps.length := by rw [← r2.length]; exact F.len _ _ _ _ h
  refine wpAny_call (codeAny_mono (F.run X.A X.stack s H ⟨us, []⟩ (us ++ ds) (vs ++ dvs) Q E hr I.env0 (hb s us I.kIn hl) r2 h) fun r s' hq => ?_)
  cases r with
  | error e => exact hx pins σ H s e s' I hq
  | ok fl =>
    cases fl with
    | ret u => exact I.after hq
    | next => exact False.elim hq
    | brk => exact False.elim hq
    | cont => exact False.elim hq

theorem pe_call (F : FnOk X.prog X.w X.K X.mg X.base CX k f fd ps sp) (hr : Room k X.A) (hg : Gl X x) (hm : X.mg x = some (.ref f)) (hk : PySem.W.keepIn X.K (.ref f) = true) (hb : Binds X.K fd ps ds) (hd : Vals dvs ds) (hx : Passes CX X E)
    (ha : PA X (e :: es) t) (hdb : (x == ("__debug__" : Str)) = false := by decide) (he : starEach (e :: es) X.env = (false, eval e X.env) :: starEach es X.env := by rfl) (hpl : (backTo pos (starEach es X.env)).any (·.1) = false := by rfl) :
    PE X (.Call (.Name x p) (e :: es) [] pos) (tCall sp dvs E t) := by
  intro pins s σ H Q I h
  refine wpAny_Call_Name_kw (ld_glob I hg hm ?_ hdb)
  refine PySem.W.callWith_K (h₀ := X.base) I.ok.mod.kin hk (thn (ha pos pins s σ H _ I h) fun us s1 ⟨vs, H1, I1, r, q⟩ => ⟨I1.kIn, ?_⟩) he hpl
  exact run_fn F hr hb hd hx I1 r q
end

/-! ### keywords -/
section
variable {X : Cx} {CX : CXT} {k : Nat} {f C : Addr} {fd : FuncData} {ps ks : List Str} {sp : Sp} {E : XK} {x m : Str} {p pos apos kpos : Pos} {e o : Expr} {es : List Expr} {kws : List Keyword} {te ta : TE} {t tk : TA} {nm : Option Str}
variable {g : List Value → List Value → List Value} {gV : List V → List V → List V}
end

/-! ### a def's body keeps its promise -/
/-- names: the parameters first -/
structure FnScope (N P : List Str) (sc : Scope) : Prop where
  kind : sc.kind = .function
  co : sc.isCoroutine = false
  gen : sc.isGenerator = false
  nd : N.Nodup
  pre : N.take P.length = P
  par : ∀ x ∈ P, sc.names.lookup x = some .local ∨ sc.names.lookup x = some .cell
  nofree : ∀ y ∈ sc.names, y.2 ≠ .free

theorem bindL_out {kindOf : Str → Option NameKind} {x : Str} : ∀ {binds : List (Str × Value)} {m : Str → Option Value}, (∀ v, (x, v) ∉ binds) → bindL kindOf binds m x = m x
  | [], _, _ => rfl
  | (n, v) :: r, m, h => by
    unfold bindL
    rw [bindL_out fun w hw => h w (List.mem_cons_of_mem _ hw)]
    split
    · have : x ≠ n := by rintro rfl; exact h v List.mem_cons_self
      simp [this]
    · rfl
theorem bindC_out {kindOf : Str → Option NameKind} {x : Str} : ∀ {binds : List (Str × Value)} {m : Str → Option Value}, (∀ v, (x, v) ∉ binds) → bindC kindOf binds m x = m x
  | [], _, _ => rfl
  | (n, v) :: r, m, h => by
    unfold bindC
    rw [bindC_out fun w hw => h w (List.mem_cons_of_mem _ hw)]
    split
    · rfl
    · have : x ≠ n := by rintro rfl; exact h v List.mem_cons_self
      simp [this]
theorem bindL_get {kindOf : Str → Option NameKind} {x : Str} {v : Value} : ∀ {P : List Str} {vs : List Value} {i : Nat} {m : Str → Option Value}, P.Nodup → P[i]? = some x → vs[i]? = some v → kindOf x = some .local →
    bindL kindOf (P.zip vs) m x = some v
  | [], _, _, _, _, h, _, _ => by simp at h
  | _ :: _, [], _, _, _, _, h, _ => by simp at h
  | p :: P, w :: vs, 0, m, nd, h1, h2, hk => by
    simp at h1 h2; subst h1; subst h2
    show bindL kindOf ((p, w) :: P.zip vs) m p = _
    unfold bindL
    rw [bindL_out fun v hv => (List.nodup_cons.mp nd).1 (List.of_mem_zip hv).1, if_pos hk]
    simp
  | p :: P, w :: vs, i + 1, m, nd, h1, h2, hk => by
    show bindL kindOf ((p, w) :: P.zip vs) m x = _
    unfold bindL
    exact bindL_get (i := i) (List.nodup_cons.mp nd).2 (by simpa using h1) (by simpa using h2) hk
theorem bindC_get {kindOf : Str → Option NameKind} {x : Str} {v : Value} : ∀ {P : List Str} {vs : List Value} {i : Nat} {m : Str → Option Value}, P.Nodup → P[i]? = some x → vs[i]? = some v → kindOf x ≠ some .local →
    bindC kindOf (P.zip vs) m x = some v
  | [], _, _, _, _, h, _, _ => by simp at h
  | _ :: _, [], _, _, _, _, h, _ => by simp at h
  | p :: P, w :: vs, 0, m, nd, h1, h2, hk => by
    simp at h1 h2; subst h1; subst h2
    show bindC kindOf ((p, w) :: P.zip vs) m p = _
    unfold bindC
    rw [bindC_out fun v hv => (List.nodup_cons.mp nd).1 (List.of_mem_zip hv).1, if_neg hk]
    simp
  | p :: P, w :: vs, i + 1, m, nd, h1, h2, hk => by
    show bindC kindOf ((p, w) :: P.zip vs) m x = _
    unfold bindC
    exact bindC_get (i := i) (List.nodup_cons.mp nd).2 (by simpa using h1) (by simpa using h2) hk

/-- the names' values at the entry -/
def start (N : List Str) (vs : List V) : St := vs.map some ++ List.replicate (N.length - vs.length) none

/-- the context of a def's body, at its entry; an exception leaves the frame, then lies as CX says -/
def cxOf (CX : CXT) (P : Program) (w : World) (K : PySem.W.Frag) (mg : Str → Option Value) (base : Heap) (N : List Str) (qual : Str) (scope : Scope) (f : Addr) (cd : Value) (A : Around) (outer : List Env) (s : Shared) (H : Hp) (E : XK) : Cx where
  prog := P
  w := w
  K := K
  mg := mg
  base := base
  A := A.deeper (envOfC qual scope s.heap.objs.size f cd)
  N := N
  s₀ := s
  H₀ := H
  env := envOfC qual scope s.heap.objs.size f cd
  outer := outer
  stack := envOfC qual scope s.heap.objs.size f cd :: outer
  ex := []
  calm := true
  fn := fun _ => true
  pn := []
  xe := fun e s' => wpAny (model P w) (A.deeper (envOfC qual scope s.heap.objs.size f cd)) (leaving (envOfC qual scope s.heap.objs.size f cd) e) (fun _ s'' => CX outer H s E e s'') (fun e' s'' => CX outer H s E e' s'') s'

theorem cell_has {sc : Scope} {n : Nat} {x : Str} (h : sc.names.lookup x = some .cell) : ∃ c, (cellsFrom n sc.names []).lookup x = some c := by
  have q := PySem.W.cellsFrom_some sc.names n [] (.inl h)
  exact Option.isSome_iff_exists.mp q

theorem inv_start {CX : CXT} {P : Program} {w : World} {K : PySem.W.Frag} {mg : Str → Option Value} {base : Heap} {N ps : List Str} {qual : Str} {scope : Scope} {f : Addr} {cd : Value} {A : Around} {outer : List Env} {s s1 : Shared} {H : Hp} {E : XK} {us : List Value} {vs : List V}
    (S : FnScope N ps scope) (hd : A.handled = none) (e0 : Env0 P w K mg base A outer s H) (hl : vs.length = ps.length) (r : Vals vs us)
    (x : InCallC s s.heap.objs.size (bindL (envOfC qual scope s.heap.objs.size f cd).kindOf (ps.zip us) fun _ => none) (cellsFrom (s.heap.objs.size + 1) scope.names []) (bindC (envOfC qual scope s.heap.objs.size f cd).kindOf (ps.zip us) fun _ => none) s1) :
    Inv (cxOf CX P w K mg base N qual scope f cd A outer s H E) [] (start N vs) H s1 := by
  have hpl : ps.length ≤ N.length := by have := congrArg List.length S.pre; rw [List.length_take] at this; omega
  obtain ⟨h1, tk, rfl, hk⟩ := x.done
  have noA : ∀ b : Addr, b ∉ (cxOf CX P w K mg base N qual scope f cd A outer s H E).ex := fun b z => absurd (show b ∈ ([] : List Addr) from z) (by simp)
  refine ⟨⟨e0.mod, S.kind, rfl, rfl, Nat.le_refl _, fun y z c h1 h2 => ?_, fun y hy => ?_, fun y c _ h => ?_, fun _ => hd, Around.frames_deeper e0.frames, .inr ⟨rfl, rfl⟩, fun b z => absurd z (noA b), e0.bs, e0.bsz, fun b _ _ => noA b, fun b z => absurd z (noA b), e0.funs, e0.frf⟩,
    rfl, e0.bare, Un.kept hk, ⟨_, x.toInCall.ns, fun i y v h1 h2 h3 => ?_⟩, fun y c h => ⟨_, x.cell y c h⟩, e0.hok.fresh (Nat.le_refl _), fun y c h => ?_, fun p hp => absurd (show p ∈ ([] : List (Addr × Obj)) from hp) (by simp), e0.hok.kept hk, ?_⟩
  · exact name_of_addr x.apart (PySem.mem_of_lookup h1) (PySem.mem_of_lookup h2)
  · have hy : scope.names.lookup y = some .cell ∨ scope.names.lookup y = some .free := hy
    rcases hy with hy | hy
    · exact cell_has hy
    · exact absurd rfl (S.nofree _ (PySem.mem_of_lookup hy))
  · exact Nat.le_of_lt (x.above y c (PySem.mem_of_lookup h))
  · have hi : i < vs.length := by
      unfold start at h2
      by_cases hi : i < vs.length
      · exact hi
      · rw [List.getElem?_append_right (by simpa using hi)] at h2
        rw [List.getElem?_replicate] at h2
        split at h2 <;> cases h2
    have ha : vs[i]? = some v := by
      unfold start at h2
      rw [List.getElem?_append_left (by simpa using hi), List.getElem?_map] at h2
      cases e : vs[i]? with
      | none => rw [e] at h2; cases h2
      | some a => rw [e] at h2; cases h2; rfl
    obtain ⟨u, hu, rv⟩ := r.get ha
    have hp : ps[i]? = some y := by
      rw [← S.pre, List.getElem?_take_of_lt (by omega)]; exact h1
    have ndP : ps.Nodup := by rw [← S.pre]; exact S.nd.sublist (List.take_sublist _ _)
    refine ⟨u, rv, ?_⟩
    rcases S.par y (List.mem_of_getElem? hp) with k | k
    · exact .inl ⟨k, bindL_get ndP hp hu k⟩
    · obtain ⟨c, e⟩ := cell_has (n := s.heap.objs.size + 1) k
      refine .inr ⟨.inl k, c, e, ?_⟩
      have q := x.cell y c e
      rw [bindC_get ndP hp hu (by show scope.names.lookup y ≠ _; rw [k]; decide)] at q
      exact q
  · exact e0.hok.fresh (Nat.le_of_lt (x.above y c (PySem.mem_of_lookup h)))
  · unfold start
    show _ = N.length
    rw [List.length_append, List.length_map, List.length_replicate]
    omega

/-- THE RULE: a def (or a method) of the text, by its body. The body's reading t is chosen for each entry; it is run at the parameters' values -/
theorem fn_of {CX : CXT} {P : Program} {w : World} {K : PySem.W.Frag} {mg : Str → Option Value} {base : Heap} {k : Nat} {f : Addr} {name qual : Str} {params : Arguments} {body : List Stmt} {scope : Scope} {dV kV doc pm cdv ct oc : Value} {an od : Option Addr}
    {osl : Array (Option Value)} {N ps : List Str} {sp : Sp} (lk : K.lookup f = some ⟨oc, od, .func (PySem.W.fnOf name qual params body scope dV kV doc pm an cdv ct), osl⟩) (hcd : PySem.W.codeIn K cdv qual = true) (S : FnScope N ps scope)
    (len : ∀ vs H Q E, sp vs H Q E → vs.length = ps.length)
    (hbody : ∀ (A : Around) (outer : List Env) (s : Shared) (H : Hp) (vs : List V) (Q : VK) (E : XK), Room k (A.deeper (envOfC qual scope s.heap.objs.size f cdv)) → sp vs H Q E →
      ∃ t, PSs (cxOf CX P w K mg base N qual scope f cdv A outer s H E) body t ∧ t { nx := fun _ H' => Q .non H', rt := Q } (start N vs) H) :
    FnOk P w K mg base CX (k + 1) f (PySem.W.fnOf name qual params body scope dV kV doc pm an cdv ct) ps sp := by
  refine ⟨len, fun A outer s H args us vs Q E hr e0 hb r hsp => ?_⟩
  have hl := len _ _ _ _ hsp
  have KX : K.In s.heap := e0.mod.kin.keeps fun b o e => (e0.bs b o e).1
  have lim : s.heap.NoLimit := e0.mod.nolimit.keeps fun b o e => (e0.bs b o e).1
  have hkind : ∀ y ∈ ps.zip us, scope.names.lookup y.1 = some .local ∨ (scope.names.lookup y.1 = some .cell ∧ ((cellsFrom (s.heap.objs.size + 1) scope.names []).lookup y.1).isSome = true) := fun ⟨n, v⟩ hy => by
    rcases S.par n (List.of_mem_zip hy).1 with q | q
    · exact .inl q
    · exact .inr ⟨q, PySem.W.cellsFrom_some _ _ _ (.inl q)⟩
  refine codeAny_call_function hr.depth (KX _ _ lk) rfl S.co S.gen rfl (PySem.W.codeRec_of KX hcd) (hb _ _ _ _ ?_)
  refine wpAny_newFunctionEnv_cells S.kind hkind fun env he s1 x => ?_
  subst he
  refine ⟨lim.keeps x.toInCall.keep, codeAny_func ?_⟩
  obtain ⟨t, ht, hq⟩ := hbody A outer s H vs Q E (hr.deeper _) hsp
  have I : Inv (cxOf CX P w K mg base N qual scope f cdv A outer s H E) [] (start N vs) H s1 := inv_start S hr.hd e0 hl r x
  refine wpAny_mono (ht [] s1 (start N vs) H _ I hq) (fun fl s' hs => ?_) fun e s' hs => hs
  have fin : ∀ {σ' : St} {H' : Hp} {v : V} {u : Value}, Inv (cxOf CX P w K mg base N qual scope f cdv A outer s H E) [] σ' H' s' → RelV v u → Q v H' → CE outer P w H s Q u s' :=
    fun {σ' H' v u} J rv q => ⟨v, H', J.os, J.bare, J.base, J.hok, rv, q⟩
  cases fl with
  | ret u =>
    obtain ⟨v, σ', H', J, rv, q⟩ := hs
    exact fin J rv q
  | next =>
    obtain ⟨σ', H', J, q⟩ := hs
    exact fin (v := V.non) (u := Value.none) J rfl q
  | brk =>
    obtain ⟨_, _, _, q⟩ := hs
    exact False.elim q
  | cont =>
    obtain ⟨_, _, _, q⟩ := hs
    exact False.elim q
end L2

namespace L2
open PySem PySem.Spec PyProof.Rows
section
variable {X : Cx} {x : Str} {p pos : Pos} {e : Expr} {es : List Expr} {t : TA} {id T : String} {r : List V → Hp → VK → Prop}

def tCB (r : List V → Hp → VK → Prop) (t : TA) : TE := fun σ H Q => t σ H fun vs H1 => r vs H1 Q
/-- f(e, ..), f a built-in function -/
theorem pe_callB (hc : CallR X (.builtin id) r) (hg : Gl X x) (hm : X.mg x = none) (hv : bootBuiltins x = some (.builtin id)) (ha : PA X (e :: es) t) (hn : x ≠ "__name__" := by decide) (hdb : (x == ("__debug__" : Str)) = false := by decide)
    (he : starEach (e :: es) X.env = (false, eval e X.env) :: starEach es X.env := by rfl) (hpl : (backTo pos (starEach es X.env)).any (·.1) = false := by rfl) : PE X (.Call (.Name x p) (e :: es) [] pos) (tCB r t) := by
  intro pins s σ H Q I h
  refine wpAny_Call_Name_kw (ld_blt I hg hm hv ?_ hn hdb)
  exact PyProof.Rows.callWith_builtin1 (thn (ha pos pins s σ H _ I h) fun us s1 ⟨vs, H1, I1, r1, q1⟩ => hc pins s1 σ H1 vs us Q I1 r1 q1) he hpl
/-- T(e, ..), T a built-in type -/
theorem pe_callTy (hc : CallR X (.type T) r) (hg : Gl X x) (hm : X.mg x = none) (hv : bootBuiltins x = some (.type T)) (ha : PA X (e :: es) t) (hn : x ≠ "__name__" := by decide) (hdb : (x == ("__debug__" : Str)) = false := by decide)
    (he : starEach (e :: es) X.env = (false, eval e X.env) :: starEach es X.env := by rfl) (hpl : (backTo pos (starEach es X.env)).any (·.1) = false := by rfl) : PE X (.Call (.Name x p) (e :: es) [] pos) (tCB r t) := by
  intro pins s σ H Q I h
  refine wpAny_Call_Name_kw (ld_blt I hg hm hv ?_ hn hdb)
  exact PyProof.Rows.callWith_type1 (thn (ha pos pins s σ H _ I h) fun us s1 ⟨vs, H1, I1, r1, q1⟩ => hc pins s1 σ H1 vs us Q I1 r1 q1) he hpl
end
end L2

namespace HT
open PySem PyProof.Rows

section
open PySem.SeqAt
open PySem.AutoSeq1 (wpAny_loadPart')
open PySem.MeetsSeq PySem.MeetsSeq2 PySem.MeetsSeq3

end

section
variable {prog : Program} {w : World} {A : Around} {E : Value → Shared → Prop} {s : Shared}

/-! ### t[a:b], not the whole -/
/-- a slice's bound as a place among n (d where it is left out) -/
def sIx (n d : Nat) : Option Int → Nat
  | none => d
  | some v => if v < 0 then (v + (n : Int)).toNat else min v.toNat n
theorem sIx_none (n d : Nat) : sIx n d none = d := rfl
theorem sIx_nat (n d k : Nat) : sIx n d (some (k : Int)) = min k n := by
  show (if (k : Int) < 0 then ((k : Int) + (n : Int)).toNat else min (k : Int).toNat n) = min k n
  rw [if_neg (by omega), Int.toNat_natCast]
end
end HT

namespace L2
open PySem PySem.Spec PyProof.Rows

/-! ### the parts of a slice -/
abbrev TO := St → Hp → (Option Int → Hp → Prop) → Prop
/-- a slice's part (left out, or an int) -/
def PO (X : Cx) (e : Option Expr) (t : TO) : Prop :=
  ∀ (pins : List (Addr × Obj)) (s : Shared) (σ : St) (H : Hp) (Q : Option Int → Hp → Prop), Inv X pins σ H s → t σ H Q →
    wpAny (model X.prog X.w) X.A (evalPart e X.env) (fun u s' => ∃ o H', Inv X pins σ H' s' ∧ IsPart u o ∧ Q o H') X.xe s
def tNoPart : TO := fun _ H Q => Q none H
def tPart (t : TE) : TO := fun σ H Q => t σ H fun x H1 => ∃ i, x = .int i ∧ Q (some i) H1

section
variable {X : Cx} {e : Expr} {te : TE} {lo hi : Option Expr} {tl th : TO} {pos p2 : Pos}

theorem po_none : PO X none tNoPart := by
  intro pins s σ H Q I h
  rw [evalPart_none]
  exact wpAny_pure ⟨none, H, I, .none, h⟩
theorem po_some (h : PE X e te) : PO X (some e) (tPart te) := by
  intro pins s σ H Q I hw
  rw [evalPart_some]
  refine thn (h pins s σ H _ I hw) fun u s1 ⟨x, H1, I1, r1, q1⟩ => ?_
  obtain ⟨i, rfl, q⟩ := q1
  obtain ⟨t, rfl⟩ := r1
  exact ⟨some i, H1, I1, .int i t, q⟩

/-- what a slice of a value is, by values: the slice object stands at sl -/
def SlR (X : Cx) (r : V → Option Int → Option Int → Hp → VK → Prop) : Prop :=
  ∀ (pins : List (Addr × Obj)) (s : Shared) (σ : St) (H : Hp) (x : V) (v vl vu : Value) (lo hi : Option Int) (sl : Addr) (Q : VK), Inv X pins σ H s → RelV x v → s.heap.IsSliceOf sl vl vu .none → IsPart vl lo → IsPart vu hi → r x lo hi H Q →
    ∃ T id, typeLookup (.type T) "__getitem__" = pure (some (.builtin id)) ∧ s.TypeIs v T ∧ wpAny (model X.prog X.w) X.A (getItem v (.ref sl)) (EP X pins σ Q) X.xe s
def tSl (r : V → Option Int → Option Int → Hp → VK → Prop) (te : TE) (tl th : TO) : TE := fun σ H Q => te σ H fun x H1 => tl σ H1 fun l H2 => th σ H2 fun u H3 => r x l u H3 Q
/-- a[lo:hi], any a -/
theorem pe_slice {r : V → Option Int → Option Int → Hp → VK → Prop} (hr : SlR X r) (he : PE X e te) (hl : PO X lo tl) (hu : PO X hi th) : PE X (.Subscript e (.Slice lo hi none p2) pos) (tSl r te tl th) := by
  intro pins s σ H Q I h
  refine Subscript_ (thn (he pins s σ H _ I h) fun v s1 ⟨x, H1, I1, r1, q1⟩ => ?_)
  refine wpAny_Slice (thn (hl pins s1 σ H1 _ I1 q1) fun vl s2 ⟨l, H2, I2, pl, q2⟩ => thn (hu pins s2 σ H2 _ I2 q2) fun vu s3 ⟨u, H3, I3, pu, q3⟩ => ?_)
  rw [evalPart_none]
  refine wpAny_pure ?_
  have I4 : Inv X pins σ H3 { s3 with heap := s3.heap.push { cls := .type "slice", data := .fields #[vl, vu, .none] } } := I3.kept (t' := s3.toks) fun b ob q => Heap.get?_push_of_some _ q
  obtain ⟨T, id, hT, ht, hg⟩ := hr pins { s3 with heap := s3.heap.push { cls := .type "slice", data := .fields #[vl, vu, .none] } } σ H3 x v vl vu l u s3.heap.objs.size Q I4 r1 (Heap.IsSliceOf.new ..) pl pu q3
  show wpAny (model X.prog X.w) X.A (subscriptTail e (.Slice lo hi none p2) v (.ref s3.heap.objs.size)) (EP X pins σ Q) X.xe { s3 with heap := s3.heap.push { cls := .type "slice", data := .fields #[vl, vu, .none] } }
  exact tail_any (ops := [.ref s3.heap.objs.size, v]) ht hT hg (by with_unfolding_all rfl)

/-- the items of xs[lo:hi] -/
def cutV (xs : List V) (lo hi : Option Int) : List V := (xs.drop (HT.sIx xs.length 0 lo)).take (HT.sIx xs.length xs.length hi - HT.sIx xs.length 0 lo)
theorem cutV_length (xs : List V) (lo hi : Option Int) : (cutV xs lo hi).length ≤ xs.length := by
  unfold cutV
  rw [List.length_take, List.length_drop]
  omega
/-! ### t < u, t + u -/
end
end L2

namespace L2
open PySem PySem.Spec PyProof.Rows

/-! ### places -/
/-- the place that an index of any sign means -/
def ixN (n : Nat) (i : Int) : Option Nat := if 0 ≤ i then (if i < n then some i.toNat else none) else if -(n : Int) ≤ i then some (i + n).toNat else none
def atI {α : Type} (xs : List α) (i : Int) : Option α := (ixN xs.length i).bind fun j => xs[j]?
theorem ixN_seq {n : Nat} {i : Int} {j : Nat} (h : ixN n i = some j) : seqIndex? i n = some j ∧ j < n ∧ -(n : Int) ≤ i ∧ i < n := by
  unfold ixN at h
  by_cases h0 : 0 ≤ i
  · rw [if_pos h0] at h
    by_cases h1 : i < n
    · rw [if_pos h1] at h
      have e : i.toNat = j := Option.some.inj h
      exact ⟨by rw [seqIndex_of h0 h1, e], by omega, by omega, h1⟩
    · rw [if_neg h1] at h; cases h
  · rw [if_neg h0] at h
    by_cases h1 : -(n : Int) ≤ i
    · rw [if_pos h1] at h
      have e : (i + n).toNat = j := Option.some.inj h
      exact ⟨by rw [seqIndex_neg (by omega) h1, e], by omega, h1, by omega⟩
    · rw [if_neg h1] at h; cases h
theorem atI_get {α : Type} {xs : List α} {i : Int} {v : α} (h : atI xs i = some v) : ∃ j, seqIndex? i xs.length = some j ∧ xs[j]? = some v ∧ j < xs.length ∧ -(xs.length : Int) ≤ i ∧ i < xs.length := by
  unfold atI at h
  cases e : ixN xs.length i with
  | none => rw [e] at h; cases h
  | some j =>
    rw [e] at h
    obtain ⟨h1, h2, h3, h4⟩ := ixN_seq e
    exact ⟨j, h1, h, h2, h3, h4⟩
theorem atI_nat {α : Type} {xs : List α} {j : Nat} {v : α} (h : xs[j]? = some v) : atI xs (j : Int) = some v := by
  have hj : j < xs.length := (List.getElem?_eq_some_iff.mp h).1
  have e : ixN xs.length (j : Int) = some j := by
    unfold ixN
    rw [if_pos (by omega), if_pos (by omega)]; simp
  unfold atI; rw [e]; exact h
/-! ### what may be subscripted -/
/-- what stands as an index of a plain subscript -/
def PlainIx (b : Expr) : Prop := ∀ o i, subscripted b false o i = operate [o, i] (getItem o i)
/-- a subscript by values -/
def IxR (X : Cx) (r : R2) : Prop :=
  ∀ (value slice : Expr) (pins : List (Addr × Obj)) (s : Shared) (σ : St) (H : Hp) (x y : V) (v u : Value) (Q : VK), Inv X pins σ H s → RelV x v → RelV y u → r x y H Q →
    subscripted slice false v u = operate [v, u] (getItem v u) → wpAny (model X.prog X.w) X.A (subscriptTail value slice v u) (EP X pins σ Q) X.xe s
/-- a call of a builtin's method by values: the receiver, the arguments -/
def MtR (X : Cx) (id : String) (r : V → List V → Hp → VK → Prop) : Prop :=
  ∀ (pins : List (Addr × Obj)) (s : Shared) (σ : St) (H : Hp) (x : V) (xs : List V) (v : Value) (us : List Value) (Q : VK), Inv X pins σ H s → RelV x v → Vals xs us → r x xs H Q →
    wpAny (model X.prog X.w) X.A (call (.builtin id) (v :: us)) (EP X pins σ Q) X.xe s
section
variable {X : Cx} {a b : Expr} {ta tb : TE} {pos : Pos}
/-- a[b] -/
theorem pe_ix {r : R2} (hr : IxR X r) (ha : PE X a ta) (hb : PE X b tb) (hs : PlainIx b) : PE X (.Subscript a b pos) (tOp r ta tb) := by
  intro pins s σ H Q I h
  exact Subscript_ (binT ha hb I h fun v u s2 x y H2 I2 rx ry q => hr a b pins s2 σ H2 x y v u Q I2 rx ry q (hs _ _))

def rIxL (K : PySem.W.Frag) : R2 := fun x y H Q => ∃ p xs i v, x = .ref p ∧ y = .int i ∧ SqL K H p xs ∧ atI xs i = some v ∧ Q v H
def rIxT (K : PySem.W.Frag) : R2 := fun x y H Q => ∃ p xs i v, x = .ref p ∧ y = .int i ∧ SqT K H p xs ∧ atI xs i = some v ∧ Q v H
theorem ix_list : IxR X (rIxL X.K) := by
  intro value slice pins s σ H x y v u Q I rx ry h hs
  obtain ⟨p, xs, i, z, rfl, rfl, hq, he, q⟩ := h
  cases rx
  obtain ⟨t, rfl⟩ := ry
  obtain ⟨its, r, pl, hz⟩ := I.list hq
  obtain ⟨j, h1, h2, h3, h4, h5⟩ := atI_get he
  obtain ⟨w, ew, rw'⟩ := r.get h2
  have hl := r.length
  have hn := line63
  have fin : EP X pins σ Q w s := ⟨z, H, I, rw', q⟩
  by_cases h0 : 0 ≤ i
  · have hj : i.toNat = j := by
      rw [seqIndex_of h0 h5] at h1
      exact Option.some.inj h1
    exact item_listR pl.isList h0 (by omega) (by rw [hj]; simpa using ew) fin hs
  · have hj : (i + (its.toArray.size : Int)).toNat = j := by
      rw [seqIndex_neg (by omega) h4] at h1
      rw [List.size_toArray, ← hl]
      exact Option.some.inj h1
    exact subscriptTail_builtinR (x := w) pl.isList.typeIs slot_list_getitem.lookup
      (wpAny_getItem_list_neg (Q := fun r s' => r = w ∧ EP X pins σ Q r s') pl.isList (by omega) (by rw [List.size_toArray] <;> omega) (by omega) (by rw [hj]; simpa using ew) ⟨rfl, fin⟩) hs
theorem ix_tup : IxR X (rIxT X.K) := by
  intro value slice pins s σ H x y v u Q I rx ry h hs
  obtain ⟨p, xs, i, z, rfl, rfl, hq, he, q⟩ := h
  cases rx
  obtain ⟨t, rfl⟩ := ry
  obtain ⟨its, r, pl, hz⟩ := I.tuple hq
  obtain ⟨j, h1, h2, h3, h4, h5⟩ := atI_get he
  obtain ⟨w, ew, rw'⟩ := r.get h2
  have hl := r.length
  have hn := line63
  have fin : EP X pins σ Q w s := ⟨z, H, I, rw', q⟩
  exact subscriptTail_builtinR (x := w) pl.typeIs slot_tuple_getitem.lookup
    (getItem_tuple (j := j) (Q := fun r s' => r = w ∧ EP X pins σ Q r s') pl (by omega) (by omega) (by rw [List.size_toArray, ← hl]; exact h1) (by simpa using ew) ⟨rfl, fin⟩) hs
/-! ### xs[i] = v, any sign -/
/-- the list's object behind a store -/
theorem mapSeq_set (its : List Value) (n j : Nat) (u : Value) : Obj.mapSeq (·.setIfInBounds j u) { cls := .type "list", data := .seq its.toArray n } = { cls := .type "list", data := .seq (its.set j u).toArray n } := by
  simp [Obj.mapSeq]
theorem Inv.lst {pins : List (Addr × Obj)} {σ : St} {H : Hp} {s : Shared} {p : Addr} {xs : List V} (I : Inv X pins σ H s) (h : H p = some (.lst xs)) :
    ∃ (its : List Value) (n : Nat), Vals xs its ∧ s.heap.get? p = some { cls := .type "list", data := .seq its.toArray n } ∧ xs.length ≤ sizeLine := by
  obtain ⟨z, its, n, r, e⟩ := I.hok p _ h
  exact ⟨its, n, r, e, z⟩
/-- the list at p is written by an update of its object -/
theorem Inv.lstUpd {pins : List (Addr × Obj)} {σ : St} {H : Hp} {s : Shared} {p : Addr} {xs ys : List V} {its its' : List Value} {n n' : Nat} {f : Obj → Obj} (I : Inv X pins σ H s) (h : H p = some (.lst xs))
    (ho : s.heap.get? p = some { cls := .type "list", data := .seq its.toArray n }) (hf : f { cls := .type "list", data := .seq its.toArray n } = { cls := .type "list", data := .seq its'.toArray n' }) (r : Vals ys its') (hz : ys.length ≤ sizeLine) (t : Nat) :
    Inv X pins σ (upd H p (.lst ys)) { s with heap := s.heap.update p f, toks := t } := by
  have e : (s.heap.update p f).get? p = some { cls := .type "list", data := .seq its'.toArray n' } := by
    rw [Heap.get?_update_self f ho (by rw [hf] <;> rfl), hf]
  refine I.write (x := p) (e := p) (by rw [h]; trivial) (.inl rfl) (fun b u hb q => (Heap.get?_update_other _ _ (Ne.symm hb)).trans q) ⟨_, e⟩ ?_
  exact ⟨hz, its', n', r, e⟩
def rSetL : V → V → V → Hp → (Hp → Prop) → Prop := fun o i v H Q => ∃ p xs k j, o = .ref p ∧ i = .int k ∧ H p = some (.lst xs) ∧ ixN xs.length k = some j ∧ Q (upd H p (.lst (xs.set j v)))
theorem set_list : PSet X rSetL := by
  intro pins s σ H o i v ov iv u Q I ro ri rv h
  obtain ⟨p, xs, k, j, rfl, rfl, hp, hj, q⟩ := h
  cases ro
  obtain ⟨t, rfl⟩ := ri
  obtain ⟨its, n, r, ho, hz⟩ := I.lst hp
  obtain ⟨h1, h2, h3, h4⟩ := ixN_seq hj
  have hl := r.length
  have hn := line63
  have I' : Inv X pins σ (upd H p (.lst (xs.set j v))) { s with heap := s.heap.update p (Obj.mapSeq (·.setIfInBounds j u)) } :=
    I.lstUpd hp ho (mapSeq_set its n j u) (r.set rv j) (by rw [List.length_set]; exact hz) s.toks
  by_cases h0 : 0 ≤ k
  · have hk : k.toNat = j := by
      rw [seqIndex_of h0 h4] at h1
      exact Option.some.inj h1
    exact PySem.W.ki_setAt ho h0 (by omega) (by rw [List.size_toArray, ← hl]; exact h4) (by rw [hk]; exact ⟨_, I', q⟩)
  · have hk : (k + (its.toArray.size : Int)).toNat = j := by
      rw [seqIndex_neg (by omega) h3] at h1
      rw [List.size_toArray, ← hl]
      exact Option.some.inj h1
    exact PySem.W.ki_setBack ho (by omega) (by rw [List.size_toArray, ← hl]; exact h3) (by omega) (by rw [hk]; exact ⟨_, I', q⟩)

/-! ### slices -/
theorem slice_bounds (lo hi : Option Int) (n : Nat) : (sliceBounds lo hi none n).1 = ((HT.sIx n 0 lo : Nat) : Int) ∧ (sliceBounds lo hi none n).2.1 = ((HT.sIx n n hi : Nat) : Int) ∧ (sliceBounds lo hi none n).2.2 = 1 := by
  refine ⟨?_, ?_, rfl⟩
  · cases lo with
    | none => simp [sliceBounds, HT.sIx]
    | some i =>
      simp only [sliceBounds, HT.sIx, Option.getD_none, show (1 : Int) > 0 by decide, if_true]
      by_cases h : i < 0
      · simp only [h, if_true] <;> omega
      · simp only [h, if_false] <;> omega
  · cases hi with
    | none => simp [sliceBounds, HT.sIx]
    | some i =>
      simp only [sliceBounds, HT.sIx, Option.getD_none, show (1 : Int) > 0 by decide, if_true]
      by_cases h : i < 0
      · simp only [h, if_true] <;> omega
      · simp only [h, if_false] <;> omega
theorem slicePick_cut (its : List Value) (lo hi : Option Int) : slicePick its.toArray lo hi none = ((its.drop (HT.sIx its.length 0 lo)).take (HT.sIx its.length its.length hi - HT.sIx its.length 0 lo)).toArray := by
  obtain ⟨h1, h2, h3⟩ := slice_bounds lo hi its.toArray.size
  unfold slicePick
  rw [h1, h2, h3]
  simp only [sliceRange_one, pick_run, List.size_toArray] <;> rfl
/-- xs[lo:hi] of a list: a new list -/
def rSlL (K : PySem.W.Frag) : V → Option Int → Option Int → Hp → VK → Prop := fun x lo hi H Q => ∃ a xs, x = .ref a ∧ SqL K H a xs ∧ ∀ p, H p = none → Q (.ref p) (upd H p (.lst (cutV xs lo hi)))
theorem sl_list : SlR X (rSlL X.K) := by
  intro pins s σ H x v vl vu lo hi sl Q I rx hs pl pu h
  obtain ⟨a, xs, rfl, hx, q⟩ := h
  cases rx
  obtain ⟨its, r, ht, hz⟩ := I.list hx
  have hlen := r.length
  refine ⟨"list", _, slot_list_getitem.lookup, ht.isList.typeIs, ?_⟩
  refine wpAny_getItem_list_slice ht.isList hs pl pu .none (by simp) ?_ (by rw [List.size_toArray] <;> omega)
  rw [slicePick_cut, ← hlen]
  refine ⟨.ref s.heap.objs.size, _, I.laid (t' := s.toks) (o := .lst (cutV xs lo hi)) (fun b ob q => Heap.get?_push_of_some _ q) (Nat.le_refl _) ?_, rfl, q _ (I.hok.fresh (Nat.le_refl _))⟩
  exact ⟨Nat.le_trans (cutV_length xs lo hi) hz, _, 0, (r.drop (HT.sIx xs.length 0 lo)).take (HT.sIx xs.length xs.length hi - HT.sIx xs.length 0 lo), Heap.get?_push_size _ rfl⟩

/-! ### in, not in: flat items -/
/-! ### len, list(x), tuple(x) of any list or tuple that is read -/
theorem call_len_seq : CallR X (.builtin "len") (fun xs H Q => ∃ p ys, xs = [.ref p] ∧ (SqL X.K H p ys ∨ SqT X.K H p ys) ∧ Q (.int ys.length) H) := by
  intro pins s σ H xs us Q I r h
  obtain ⟨p, ys, rfl, hq, q⟩ := h
  obtain ⟨u, rfl, rx⟩ := vals1 r
  cases rx
  have hn := line63
  rcases hq with hq | hq
  · obtain ⟨its, r', pl, hz⟩ := I.list hq
    have hlen := r'.length
    exact Calls.call_len_list pl.isList (by simp only [List.size_toArray] <;> omega) ⟨.int ys.length, H, I.tok _, ⟨s.toks + 1, by rw [List.size_toArray, hlen]⟩, q⟩
  · obtain ⟨its, r', pl, hz⟩ := I.tuple hq
    have hlen := r'.length
    exact len_tuple pl (by simp only [List.size_toArray] <;> omega) ⟨.int ys.length, H, I.tok _, ⟨s.toks + 1, by rw [List.size_toArray, hlen]⟩, q⟩
theorem call_list_of : CallR X (.type "list") (fun xs H Q => ∃ p ys, xs = [.ref p] ∧ (SqL X.K H p ys ∨ SqT X.K H p ys) ∧ ∀ l, H l = none → Q (.ref l) (upd H l (.lst ys))) := by
  intro pins s σ H xs us Q I r h
  obtain ⟨p, ys, rfl, hq, q⟩ := h
  obtain ⟨u, rfl, rx⟩ := vals1 r
  cases rx
  have fin : ∀ (its : List Value), Vals ys its → ys.length ≤ sizeLine → ∀ (h' : Heap) (c' : Nat), (∀ b o', s.heap.get? b = some o' → h'.get? b = some o') →
      h'.get? s.heap.objs.size = some { cls := .type "list", dict := none, data := .seq its.toArray c', slots := #[] } → EP X pins σ Q (.ref s.heap.objs.size) { s with heap := h' } := fun its r' hz h' c' kp e =>
    ⟨.ref s.heap.objs.size, _, I.laid (t' := s.toks) kp (Nat.le_refl _) (show ObjOk X.prog X.w _ h' _ (.lst ys) from ⟨hz, its, c', r', e⟩), rfl, q _ (I.hok.fresh (Nat.le_refl _))⟩
  rcases hq with hq | hq
  · obtain ⟨its, r', pl, hz⟩ := I.list hq
    have hlen := r'.length
    obtain ⟨o, ho, hc, n, hd⟩ := pl.isList
    exact call_list_seq p (.inl rfl) ho hc hd (fun h' c' kp e => fin its r' hz h' c' kp e) (by simp only [List.size_toArray] <;> omega)
  · obtain ⟨its, r', pl, hz⟩ := I.tuple hq
    have hlen := r'.length
    obtain ⟨o, ho, hc, n, hd⟩ := pl
    exact call_list_seq p (.inr rfl) ho hc hd (fun h' c' kp e => fin its r' hz h' c' kp e) (by simp only [List.size_toArray] <;> omega)
/-! ### the call of a builtin's method: o.m(..) -/
/-- the value is of that builtin type -/
def tyV (K : PySem.W.Frag) (T : String) (x : V) (H : Hp) : Prop := match x with
  | .str _ => T = "str"
  | .int _ => T = "int"
  | .ref p => (T = "list" ∧ ∃ xs, SqL K H p xs) ∨ (T = "tuple" ∧ ∃ o, K.lookup p = some o ∧ o.cls = .type "tuple" ∧ o.dict = none) ∨
      (T = "dict" ∧ ((∃ kvs, H p = some (.dK kvs)) ∨ ∃ kvs, H p = some (.dT kvs))) ∨ (T = "set" ∧ ∃ S n, H p = some (.set S n))
  | _ => False
theorem tyV_is {pins : List (Addr × Obj)} {σ : St} {H : Hp} {s : Shared} {T : String} {x : V} {v : Value} (I : Inv X pins σ H s) (r : RelV x v) (ty : tyV X.K T x H) :
    s.TypeIs v T ∧ ∀ a, v = .ref a → ∃ ob, s.heap.get? a = some ob ∧ ob.dict = none := by
  cases x with
  | str z =>
    obtain ⟨t, rfl⟩ := r
    cases (show T = "str" from ty)
    exact ⟨typeIs_str s z t, fun _ e => nomatch e⟩
  | int i =>
    obtain ⟨t, rfl⟩ := r
    cases (show T = "int" from ty)
    exact ⟨typeIs_int s i t, fun _ e => nomatch e⟩
  | ref p =>
    cases r
    rcases ty with ⟨rfl, xs, hq⟩ | ⟨rfl, o, hk, hc, hd⟩ | ⟨rfl, hk⟩ | ⟨rfl, S, n, hk⟩
    · obtain ⟨its, _, pl, _⟩ := I.list hq
      refine ⟨pl.isList.typeIs, fun a e => ?_⟩
      cases e
      obtain ⟨o, n, e, c, hd, _⟩ := pl
      exact ⟨o, e, hd⟩
    · refine ⟨⟨o, I.kIn p o hk, hc⟩, fun a e => ?_⟩
      cases e
      exact ⟨o, I.kIn _ o hk, hd⟩
    · have z : ∃ o, s.heap.get? p = some o ∧ o.ExactDict := by
        rcases hk with ⟨kvs, hk⟩ | ⟨kvs, hk⟩
        · obtain ⟨_, _, _, _, o, _, _, e, ex, _⟩ := I.hok p _ hk
          exact ⟨o, e, ex⟩
        · obtain ⟨_, _, _, _, o, _, _, e, ex, _⟩ := I.hok p _ hk
          exact ⟨o, e, ex⟩
      obtain ⟨o, e, ex⟩ := z
      refine ⟨⟨o, e, ex.1⟩, fun a e2 => ?_⟩
      cases e2
      exact ⟨o, e, ex.2.1⟩
    · obtain ⟨o, _, _, _, e, ex, _⟩ := I.hok p _ hk
      refine ⟨⟨o, e, ex.1⟩, fun a e2 => ?_⟩
      cases e2
      exact ⟨o, e, ex.2.1⟩
  | _ => exact False.elim ty
def tBM (K : PySem.W.Frag) (T : String) (r : V → List V → Hp → VK → Prop) (to : TE) (t : TA) : TE := fun σ H Q => to σ H fun x H1 => tyV K T x H1 ∧ t σ H1 fun xs H2 => r x xs H2 Q
variable {o e : Expr} {es : List Expr} {to : TE} {t : TA} {name : Str} {apos cpos : Pos} {T id : String} {r : V → List V → Hp → VK → Prop}
theorem pe_bm (pa : PlainAttrs T) (slot : Slot T name id) (hty : typeOf (.builtin id) = pure (.type "method_descriptor")) (hm : MtR X id r) (ho : PE X o to) (ha : PA X (e :: es) t)
    (hbase : attributeBase o name X.env (eval o X.env) = eval o X.env := by rfl)
    (hfew : ((backTo cpos (starEach (e :: es) X.env)).all (fun x => !x.1) && (backToKw cpos (keywordEach [] X.env)).all (fun x => x.1.isSome)
      && decide ((e :: es).length + ([] : List Keyword).length + (if ([] : List Keyword).isEmpty then 0 else 1) < 30)) = true := by rfl)
    (hline : (apos.endLine == cpos.line) = true := by rfl) (hs : starEach (e :: es) X.env = (false, eval e X.env) :: starEach es X.env := by rfl) (hplain : (backTo cpos (starEach es X.env)).any (·.1) = false := by rfl) :
    PE X (.Call (.Attribute o name apos) (e :: es) [] cpos) (tBM X.K T r to t) := by
  intro pins s σ H Q I h
  refine wpAny_Call_method_late hbase hfew hline rfl (thn (ho pins s σ H _ I h) fun v s1 ⟨x, H1, I1, r1, ty, q1⟩ => ?_)
  obtain ⟨h1, h2⟩ := tyV_is I1 r1 ty
  refine ⟨T, id, pa, slot, hty, h1, h2, ?_⟩
  have hA := ha cpos pins s1 σ H1 _ I1 q1
  rw [hs] at hA ⊢
  refine Calls.callWith_builtin (by show (false || (backTo cpos (starEach es X.env)).any (·.1)) = false; rw [hplain] <;> rfl) (Calls.evalArgs_plain ?_)
  exact thn hA fun us s2 ⟨vs, H2, I2, r2, q2⟩ => hm pins s2 σ H2 x vs v us Q I2 r1 r2 q2
/- xs.append(e), list.index on a module's tuple .. are MtR facts of 06m -/
end
end L2

namespace L2
open PySem PySem.Spec PyProof.Rows

def MtM (X : Cx) (id : String) (r : V → List V → Hp → VK → Prop) : Prop :=
  ∀ (pins : List (Addr × Obj)) (s : Shared) (σ : St) (H : Hp) (x : V) (xs : List V) (v : Value) (us : List Value) (Q : VK), Inv X pins σ H s → RelV x v → Vals xs us → r x xs H Q →
    wpAny (model X.prog X.w) X.A (call (.builtin id) (v :: us)) (EP X pins σ Q) X.xe s

/-! ### lists of values -/
theorem Vals.one : ∀ {x : V} {us : List Value}, Vals [x] us → ∃ u, us = [u] ∧ RelV x u
  | _, _, .cons r .nil => ⟨_, rfl, r⟩
section
variable {X : Cx} {pins : List (Addr × Obj)} {σ : St} {H : Hp} {s : Shared} {l b : Addr} {xs ys zs : List V}

/-! ### the two steps: a tracked list is rewritten, a new list is laid -/
theorem Inv.lset {its its' : List Value} {n : Nat} {f : Array Value → Array Value} {t' : Nat} (I : Inv X pins σ H s) (hH : H l = some (.lst xs))
    (e : s.heap.get? l = some { cls := .type "list", data := .seq its.toArray n }) (hf : f its.toArray = its'.toArray) (hv : Vals ys its') (hz : ys.length ≤ sizeLine) :
    Inv X pins σ (upd H l (.lst ys)) { s with heap := s.heap.update l (Obj.mapSeq f), toks := t' } := by
  have q := PySem.IsL.update e f
  rw [hf] at q
  refine I.write (x := l) (e := l) (by rw [hH]; exact trivial) (.inl rfl) (fun b' u hb hu => (Heap.get?_update_other s.heap (Obj.mapSeq f) (Ne.symm hb)).trans hu) ⟨_, q⟩ ?_
  exact ⟨hz, its', _, hv, q⟩
theorem Inv.lnew {its : List Value} {t' : Nat} (I : Inv X pins σ H s) (hv : Vals ys its) (hz : ys.length ≤ sizeLine) :
    Inv X pins σ (upd H s.heap.objs.size (.lst ys)) { s with heap := s.heap.push { cls := .type "list", data := .seq its.toArray }, toks := t' } :=
  I.laid (fun _ _ q => Heap.get?_push_of_some _ q) (Nat.le_refl _) ⟨hz, its, 0, hv, Heap.get?_push_size _ rfl⟩
theorem Inv.fresh (I : Inv X pins σ H s) : H s.heap.objs.size = none := I.hok.fresh (Nat.le_refl _)
theorem Inv.lstM (I : Inv X pins σ H s) (hH : H l = some (.lst xs)) : xs.length ≤ sizeLine ∧ ∃ (its : List Value) (n : Nat), Vals xs its ∧ xs.length = its.length ∧ s.heap.get? l = some { cls := .type "list", data := .seq its.toArray n } := by
  obtain ⟨z, its, n, r, e⟩ := I.hok l _ hH
  exact ⟨z, its, n, r, r.length, e⟩

theorem notLongL {n : Nat} (h : n ≤ sizeLine) : Builtin.List.listTooLong n = false := by
  unfold Builtin.List.listTooLong
  exact decide_eq_false (by omega)
end

section
variable {X : Cx}

/-! ### methods -/
def rAppend : V → List V → Hp → VK → Prop := fun x vs H Q => ∃ l xs y, x = .ref l ∧ vs = [y] ∧ H l = some (.lst xs) ∧ xs.length < sizeLine ∧ Q .non (upd H l (.lst (xs ++ [y])))
theorem mt_append : MtM X "list.append" rAppend := by
  intro pins s σ H x vs v us Q I rx rv h
  obtain ⟨l, xs, y, rfl, rfl, hH, hz, q⟩ := h
  cases rx
  obtain ⟨u, rfl, ru⟩ := rv.one
  obtain ⟨z, its, n, r, hl, e⟩ := I.lstM hH
  refine call_meets F.slot_list_append ⟨_, e, rfl⟩ F.entry_list_append (F.args_list_append_2 _ _) (PySem.list_append l its.toArray n u (by rw [List.size_toArray]; omega)) ⟨e, ?_⟩
  refine ⟨.non, _, I.lset (its' := its ++ [u]) hH e (by simp) (r.append (.cons ru .nil)) ?_, rfl, q⟩
  rw [List.length_append, List.length_singleton]
  omega

def rExtend : V → List V → Hp → VK → Prop := fun x vs H Q => ∃ l b xs zs, x = .ref l ∧ vs = [.ref b] ∧ H l = some (.lst xs) ∧ H b = some (.lst zs) ∧ xs.length + zs.length ≤ sizeLine ∧ Q .non (upd H l (.lst (xs ++ zs)))
theorem mt_extend : MtM X "list.extend" rExtend := by
  intro pins s σ H x vs v us Q I rx rv h
  obtain ⟨l, b, xs, zs, rfl, rfl, hH, hB, hz, q⟩ := h
  cases rx
  obtain ⟨u, rfl, ru⟩ := rv.one
  cases ru
  obtain ⟨z, its, n, r, hl, e⟩ := I.lstM hH
  obtain ⟨z2, its2, n2, r2, hl2, e2⟩ := I.lstM hB
  have hsz : its.toArray.size + its2.toArray.size ≤ sizeLine := by rw [List.size_toArray, List.size_toArray]; omega
  have hlong : ¬ (!its.toArray.isEmpty && Builtin.List.listTooLong (its.toArray.size + its2.toArray.size)) = true := by
    rw [notLongL hsz, Bool.and_false]
    exact Bool.false_ne_true
  refine call_meets F.slot_list_extend ⟨_, e, rfl⟩ F.entry_list_extend (F.args_list_extend_2 _ _)
    (AutoSeq1.list_extend_list_list_0 l its.toArray n b its2.toArray n2 hlong (by rw [List.size_toArray]; omega) (by omega)) ⟨e, e2, ?_⟩
  refine ⟨.non, _, I.lset (its' := its ++ its2) hH e (by simp) (r.append r2) ?_, rfl, q⟩
  rw [List.length_append]
  omega

/-! ### list + list, list += list, list * int -/
def rCat : R2 := fun x y H Q => ∃ l b xs zs, x = .ref l ∧ y = .ref b ∧ H l = some (.lst xs) ∧ H b = some (.lst zs) ∧ xs.length + zs.length ≤ sizeLine ∧ ∀ p, H p = none → Q (.ref p) (upd H p (.lst (xs ++ zs)))
theorem op_cat : OpR X (binaryOp .Add) rCat := by
  intro pins s σ H x y v u Q I rx ry h
  obtain ⟨l, b, xs, zs, rfl, rfl, hH, hB, hz, q⟩ := h
  cases rx
  cases ry
  obtain ⟨z, its, n, r, hl, e⟩ := I.lstM hH
  obtain ⟨z2, its2, n2, r2, hl2, e2⟩ := I.lstM hB
  refine PySem.P.add_list e e2 ?_ (by rw [List.size_toArray, List.size_toArray]; omega)
  have ea : its.toArray ++ its2.toArray = (its ++ its2).toArray := by simp
  rw [ea]
  exact ⟨.ref _, _, I.lnew (t' := s.toks) (r.append r2) (by rw [List.length_append]; omega), rfl, q _ I.fresh⟩
/-! ### del xs[i] -/
end

/-! ### xs[a:b] = ys -/
section
variable {prog : Program} {w : World} {A : Around} {E : Value → Shared → Prop} {s : Shared}
end

section
variable {X : Cx}
end
end L2

namespace Att
open PySem PySem.W PySem.Calls PyProof.Rows

/-! ### the script -/
theorem ints_of_wellAll {P : Params} {h : Heap} : ∀ (ns : List Int) (vs : List Value), WellAll P h vs (ns.map WData.int) → IntsAre vs ns := by
  intro ns
  induction ns with
  | nil =>
    intro vs w
    rw [List.map_nil] at w
    cases w
    exact .nil
  | cons n ns ih =>
    intro vs w
    rw [List.map_cons] at w
    cases w with
    | cons a b =>
      cases a
      exact .cons _ _ (ih _ b)

theorem script_of {l : OpenLaw} {n : Nat} (hn : l.most = some n) {P : Params} {h : Heap} {args : List WData} {vals : List Value}
    (hpre : l.row.toRowW.claim.pre args = true) (hwl : WellAll P h vals args) :
    ∃ a vs ns, vals = [Value.ref a] ∧ args = [WData.list (ns.map WData.int)] ∧ h.get? a = some { cls := .type "list", data := .seq vs.toArray } ∧ IntsAre vs ns ∧ ns.length ≤ n := by
  have hsh : WShape.hasAll [] args [.list .int] = true := (pre_splitW hpre).1
  have hc : l.pre.holds [] { args := args } = true := (pre_splitW hpre).2
  obtain ⟨d, r, rfl, h1, h2⟩ := hasAllW_cons hsh
  obtain rfl := hasAllW_nil h2
  obtain ⟨xs, rfl, h3⟩ := hasW_list h1
  obtain ⟨ns, rfl⟩ := items_int h3
  have hlen : ns.length ≤ n := by
    unfold OpenLaw.pre at hc
    have h4 : (WTm.not (.lt (.lit (.int (n : Int))) (.len (.arg 0)))).holds [] { args := [.list (ns.map .int)] } = true := by
      have h4 := (holds_andW hc).1
      rw [hn] at h4
      exact h4
    have h5 := condW_of h4 (w_not (w_lt w_lit (w_len_list (w_arg rfl))))
    rw [List.length_map] at h5
    refine Nat.le_of_not_lt fun q => ?_
    have q' : (n : Int) < ((ns.length : Nat) : Int) := by omega
    first
      | (rw [decide_eq_true q'] at h5; exact absurd h5 (by decide))
      | (simp at h5; omega)
  cases hwl with
  | cons w1 w2 =>
    cases w2
    cases w1 with
    | list ho hall => exact ⟨_, _, ns, rfl, rfl, ho, ints_of_wellAll ns _ hall, hlen⟩

theorem post_true (l : OpenLaw) (args : List WData) : l.row.toRowW.claim.post args (.bool true) args = true :=
  postW_of (r := l.row.toRowW) (X := (true == true))
    (show WShape.has [] (.bool true) .bool = true by first | rfl | decide | simp [WShape.has, WShape.arms, WShape.armsAll])
    (show (WTm.eq .res (.lit (.bool true))).value [] { args := args, res := some (.bool true), after := args } = some (.bool (true == true)) from w_eq_bool (w_res rfl) w_lit) rfl

/-! ### the attachment: holds_open's last premise (the goal 'hc' behind k_head) from a wpAny of the law's body -/
/-- the same from a codeAny of the CALL (for a layer whose function contracts speak of calls) -/
theorem attach_call {l : OpenLaw} {n : Nat} {q : Program} {loose : List Str} {XP : (Str → Option Value) → Heap → Prop} {YP : World → Heap → Prop} {d : DefRec}
    (hn : l.most = some n) (hdf : d.params.defaults = [])
    (call : ∀ (w : World) (s₀ s₁ : Shared) (mg mb : Str → Option Value) (fa : Addr) (o : Obj) (pm cd doc : Value) (a : Addr) (vs : List Value) (ns : List Int),
      Ground q loose [] XP w s₀ mg mb s₁.heap → YP w s₁.heap →
      s₁.heap.get? fa = some o → o.data = .func (docDef d.name d.params d.body d.scope pm cd doc) → s₁.heap.CodeRec cd d.name → mg d.name = some (.ref fa) →
      s₁.heap.get? a = some { cls := .type "list", data := .seq vs.toArray } → IntsAre vs ns → ns.length ≤ n → s₁.gens = #[] →
      codeAny (model l.prog w) callerA (.call (.ref fa) ⟨[.ref a], []⟩) (fun r s' => r = .ok (.ret (.bool true)) ∧ OldK s₁.heap s'.heap ∧ s'.os = s₁.os ∧ AllBare s'.gens) s₁) :
    WalkO q loose XP YP l.row.toRowW d [] (fun f vs => PySem.call f vs) := by
  intro w s₀ s₁ mg mb G Y fa o pm cd doc dV kV ho hd hcd hD hmg hg args vals as hpre hlay hrd hwl hlo
  obtain rfl : dV = .none := Dflts.none hD hdf
  obtain rfl : kV = .none := Dflts.noKw hD
  obtain ⟨a, vs, ns, rfl, rfl, hobj, hints, hlen⟩ := script_of hn hpre hwl
  refine enter_call (codeAny_mono (call w s₀ s₁ mg mb fa o pm cd doc a vs ns G Y ho (fd_plain hd) hcd hmg hobj hints hlen hg) fun r s' hq => ?_)
  obtain ⟨rfl, h2, h3, h4⟩ := hq
  exact ⟨.inl ⟨.bool true, .bool true, [], rfl, fun _ => rfl, .bool true, post_true l _, fun _ => ⟨List.Pairwise.nil, fun _ hm => (nomatch hm)⟩⟩, h2, h3, h4⟩

/-! ### rules over ANY heap (no ledger) from facts about the written part K: the library's own take a ledger (News) for what they write -/
section
variable {prog : Program} {w : World} {A : Around} {E : Value → Shared → Prop} {s : Shared} {K : Frag}

/-! the whole heap as the ledger: makes every rule that writes through a ledger a rule over any heap -/
def ledger (h : Heap) (L d : Addr) : List (Addr × Obj) := (List.range h.objs.size).filterMap fun a => if a = L ∨ a = d then none else (h.get? a).map fun o => (a, o)
end
end Att

namespace L2
open PySem PySem.Spec PyProof.Rows

theorem vals_ints : ∀ {vs : List Value} {ns : List Int}, IntsAre vs ns → Vals (ns.map V.int) vs
  | _, _, .nil => .nil
  | _, _, .cons n t h => .cons ⟨t, rfl⟩ (vals_ints h)

/-- nothing is tracked but the script, known to the object (or it is an object of the module) -/
def Only (H : Hp) : Prop := ∀ b, H b = none ∨ ∃ o xs, H b = some (.frz o (.lst xs))

/-- THE HEAD: the law's promise, at the heap behind the top. F, the promise of the law's def, may use that base is part of the heap (so K.In base, base.Ns mainGlobals mg stand in Mod) -/
theorem law_call {P : Program} {w : World} {K : PySem.W.Frag} {mg mb : Str → Option Value} {CX : CXT} {k : Nat} {fa a : Addr} {fd : FuncData} {x : Str} {sp : Sp} {s₁ : Shared} {vs : List Value} {ns : List Int}
    (KX : K.In s₁.heap) (hns : s₁.heap.Ns mainGlobals mg) (hb : s₁.heap.Ns builtinsNs mb) (hbb : ∀ x : Str, x ≠ "__name__" → mb x = bootBuiltins x) (hlim : s₁.heap.NoLimit) (hg : s₁.gens = #[])
    (ha : s₁.heap.get? a = some { cls := .type "list", data := .seq vs.toArray }) (hi : IntsAre vs ns) (hl : ns.length ≤ sizeLine) (hr : Room k callerA)
    (F : ∀ base : Heap, K.In base → base.Ns mainGlobals mg → FnOk P w K mg base CX k fa fd [x] sp) (hbind : ∀ (s : Shared) (u : Value), BindsTo s fd ⟨[u], []⟩ [(x, u)])
    (hsp : ∀ H : Hp, Only H → SqL K H a (ns.map V.int) → sp [.ref a] H (fun v _ => v = .bl true) fun _ _ _ => False)
    (hCX : ∀ H e s', CX [] H s₁ (fun _ _ _ => False) e s' → False) :
    codeAny (model P w) callerA (.call (.ref fa) ⟨[.ref a], []⟩) (fun r s' => r = .ok (.ret (.bool true)) ∧ OldK s₁.heap s'.heap ∧ s'.os = s₁.os ∧ AllBare s'.gens) s₁ := by
  have rv := vals_ints hi
  have lenV := hi.length
  -- from an abstract heap in which nothing but the script may be tracked
  have core : ∀ H : Hp, Only H → SqL K H a (ns.map V.int) → HOk P w H s₁.heap → (∀ b, H b ≠ none → b = a) → (H a ≠ none → K.lookup a = none) →
      codeAny (model P w) callerA (.call (.ref fa) ⟨[.ref a], []⟩) (fun r s' => r = .ok (.ret (.bool true)) ∧ OldK s₁.heap s'.heap ∧ s'.os = s₁.os ∧ AllBare s'.gens) s₁ := by
    intro H hO hS hok hA hK
    have base_of : ∀ {b : Addr} {o : Obj}, s₁.heap.get? b = some o → H b = none → (hidT s₁.heap H).get? b = some o := fun e n => hidT_get e n
    have noA : ∀ {b : Addr} {o : Obj} {es : Array DictEntry} {ep : Nat}, s₁.heap.get? b = some o → o.data = .dict es ep → H b = none := fun {b o es ep} e d => by
      cases q : H b with
      | none => rfl
      | some u =>
        have e' : b = a := hA b (by rw [q]; simp)
        subst e'
        rw [ha] at e; cases e
        have d' : Data.seq vs.toArray _ = Data.dict es ep := d
        cases d'
    have nsK : ∀ {b : Addr} {m : Str → Option Value}, s₁.heap.Ns b m → (hidT s₁.heap H).Ns b m := fun {b m} ⟨o, es, ep, e, d, r⟩ => ⟨o, es, ep, base_of e (noA e d), d, r⟩
    have hKb : K.In (hidT s₁.heap H) := fun b o e => base_of (KX b o e) (by
      cases q : H b with
      | none => rfl
      | some u =>
        have e' : b = a := hA b (by rw [q]; simp)
        subst e'
        rw [hK (by rw [q]; simp)] at e; cases e)
    have hM : Mod K mg (hidT s₁.heap H) := ⟨hKb, nsK hns, ⟨mb, nsK hb, hbb⟩, let ⟨mc, h1, h2⟩ := hlim; ⟨mc, nsK h1, h2⟩⟩
    have e0 : Env0 P w K mg (hidT s₁.heap H) callerA [] s₁ H := ⟨rfl, hM, fun b o e => of_hidT e, Nat.le_of_eq (hidT_size _ _), trivial, fun b hb => absurd (show b ∈ ([] : List Addr) from hb) (by simp), hok, .of_eq hg⟩
    refine codeAny_mono ((F _ hKb (nsK hns)).run callerA [] s₁ H ⟨[.ref a], []⟩ [.ref a] [.ref a] _ _ hr e0 (hbind s₁ (.ref a)) (.cons rfl .nil) (hsp H hO hS)) fun r s' h => ?_
    cases r with
    | error e => exact (hCX H e s' h).elim
    | ok fl =>
      cases fl with
      | next => exact False.elim h
      | brk => exact False.elim h
      | cont => exact False.elim h
      | ret u =>
        obtain ⟨v, H', os, bare, un, hok', r', q⟩ := h
        have q' : v = .bl true := q
        subst q'
        obtain rfl : u = Value.bool true := r'
        refine ⟨rfl, OldK.of_keep fun b o e => ?_, os, bare⟩
        cases q : H b with
        | none => exact un.keep b o e q (by intro z; exact absurd (show b ∈ ([] : List Addr) from z) (by simp)) (by simp)
        | some u =>
          rcases hO b with z | ⟨ob, xs, z⟩
          · rw [q] at z; cases z
          · have z2 := un.frzs b ob _ z
            obtain ⟨e1, _⟩ := hok b _ z
            obtain ⟨e2, _⟩ := hok' b _ z2
            rw [e] at e1; cases e1
            exact e2
  cases hk : K.lookup a with
  | some o =>
    -- the script is one of the module's own objects
    have e := KX a o hk
    rw [ha] at e
    cases e
    refine core (fun _ => none) (fun _ => .inl rfl) (.inr ⟨_, vs.toArray, _, hk, rfl, rfl, rfl, by rw [List.size_toArray, lenV]; exact hl, by simpa using rv⟩) (fun b u z => by have z' : (none : Option HO) = some u := z; cases z') (fun b z => absurd rfl z) fun z => absurd rfl z
  | none =>
    refine core (fun b => if b = a then some (.frz { cls := .type "list", data := .seq vs.toArray } (.lst (ns.map V.int))) else none) (fun b => ?_) (.inl (.inr ⟨{ cls := .type "list", data := .seq vs.toArray }, if_pos rfl⟩)) (fun b u z => ?_) (fun b z => ?_) fun _ => hk
    · by_cases hb : b = a
      · exact .inr ⟨_, _, if_pos hb⟩
      · exact .inl (if_neg hb)
    · by_cases hb : b = a
      · have z' := (if_pos hb).symm.trans z
        cases z'
        subst hb
        exact ⟨ha, by rw [List.length_map]; exact hl, vs, _, rv, ha⟩
      · have z' := (if_neg hb).symm.trans z
        cases z'
    · by_cases hb : b = a
      · exact hb
      · exact absurd (if_neg hb) z
end L2

namespace L2
open PySem PySem.Spec PyProof.Rows

abbrev KOf {K : PySem.W.Frag} {h : Heap} (_ : K.In h) : PySem.W.Frag := K

/-- the goal that k_head leaves (case hc), from the law's promise. F gives the function object fd (K's own) once, then the promise over every base -/
theorem walk_of {l : PySem.W.OpenLaw} {n k : Nat} {q : Program} {loose : List Str} {XP : (Str → Option Value) → Heap → Prop} {YP : World → Heap → Prop} {d : DefRec} {K : Params → PySem.W.Frag} {CX : World → CXT} {sp : World → Sp} {x : Str}
    (hn : l.most = some n) (hn2 : n ≤ sizeLine) (hdf : d.params.defaults = []) (hr : Room k callerA)
    (hY : ∀ (w : World) (h : Heap), YP w h → (K w.params).In h)
    (F : ∀ (w : World) (mg : Str → Option Value) (fa : Addr) (h : Heap), (K w.params).In h → h.Ns mainGlobals mg → mg d.name = some (.ref fa) →
      ∃ fd : FuncData, (∀ (s : Shared) (u : Value), BindsTo s fd ⟨[u], []⟩ [(x, u)]) ∧
        ∀ base : Heap, (K w.params).In base → base.Ns mainGlobals mg → FnOk l.prog w (K w.params) mg base (CX w) k fa fd [x] (sp w))
    (hsp : ∀ (w : World) (H : Hp) (a : Addr) (ns : List Int), ns.length ≤ n → Only H → SqL (K w.params) H a (ns.map V.int) → sp w [.ref a] H (fun v _ => v = .bl true) fun _ _ _ => False)
    (hCX : ∀ (w : World) (H : Hp) (s : Shared) (e : Value) (s' : Shared), CX w [] H s (fun _ _ _ => False) e s' → False) :
    PySem.W.WalkO q loose XP YP l.row.toRowW d [] (fun f vs => PySem.call f vs) := by
  refine Att.attach_call hn hdf fun w s₀ s₁ mg mb fa o pm cd doc a vs ns G Y ho hd hcd hmg hobj hints hlen hg => ?_
  have KX := hY w _ Y
  obtain ⟨fd, hb, hF⟩ := F w mg fa _ KX G.T.g hmg
  exact law_call KX G.T.g G.T.b G.T.builtins G.T.nolimit hg hobj hints (Nat.le_trans hlen hn2) hr hF hb (fun H hO hS => hsp w H a ns hlen hO hS) fun H e s' => hCX w H s₁ e s'
end L2

/- THE LAST THEOREM (shape; LID, My.* are yours):
   My.Adr: a structure of the addresses that your layer names (classes, functions); My.Txt K t: a structure (Prop) of the equations over K;
   My.txt_mk : {K} {implicit addresses ..} (e1 : nsIn K mainGlobals "law" = some (some (.ref f))) (e2 : K.lookup f = some ⟨oc, od, .func (fnOf "law" "law" params body scope dV kV doc pm an cdv ct), sl⟩) (e3 : codeIn K cdv "law" = true) .. : ∃ t, My.Txt K t

set_option maxRecDepth 100000 in
set_option maxHeartbeats 0 in
theorem PySem.Challenge.cw_LID_holds : PySem.Challenge.rw_LID.Holds := by
  w_on; o_law; k_head; (case hw => w_witness2)
  k_fill
  refine L2.walk_of (l := PySem.Challenge.rw_LID) (n := 63) (k := 40) (x := "script") (CX := fun w => ..) (sp := fun _ => My.sp_law) rfl (by decide) rfl ⟨rfl, by decide, by decide⟩ (fun w h Y => PySem.W.kIn_of Y) ?F ?S ?C
  case F =>
    intro w mg fa h KX G hmg
    have T : ∃ t, My.Txt (L2.KOf KX) t := by
      dsimp only [L2.KOf]                          -- K must stand as «<heap const> w.params» for k_is
      refine' My.txt_mk ?e1 ?e2 ?e3 ..
      (case e1 => PySem.W.k_is)                    -- in the order: a name -> its address -> its object -> its parts
      (case e2 => PySem.W.k_is)
      ..
    obtain ⟨t, T⟩ := T
    have e0 := hmg.symm.trans (PySem.W.mg_of KX G T.law)
    cases e0                                       -- fa is the law's own address
    exact ⟨_, fun s u => .of_eq rfl, fun base kb nb => My.law_fn T kb nb⟩     -- if «.of_eq rfl» comes too early: refine' ⟨_, ?b, fun base kb nb => My.law_fn T kb nb⟩; exact fun s u => .of_eq rfl
  case S => exact fun w H a ns hl hO hS => ..
  case C => exact ..
(the tactic k_is has no namespace: write k_is) -/

/-! SHORT WORDS over the layer: a def of the text, its body, what a loop and a test want. -/
namespace L2
open PySem PySem.Spec PyProof.Rows

/-! ### the text by places -/
def defArgs (s : Stmt) : Arguments := match s with
  | .FunctionDef _ a _ _ _ _ _ _ _ _ => a
  | _ => { posonlyargs := [], args := [], vararg := none, kwonlyargs := [], kw_defaults := [], kwarg := none, defaults := [] }
def defBody (s : Stmt) : List Stmt := match s with
  | .FunctionDef _ _ b _ _ _ _ _ _ _ => b
  | _ => []
def defScope (s : Stmt) : Scope := match s with
  | .FunctionDef _ _ _ _ _ _ sc _ _ _ => sc
  | _ => { kind := .function, names := [], isGenerator := false, isCoroutine := false }

/-! ### no exception leaves a def -/
abbrev CX0 : CXT := fun _ _ _ _ _ _ => False
abbrev E0 : XK := fun _ _ _ => False
theorem pass0 {X : Cx} : Passes CX0 X E0 := fun _ _ _ _ _ _ _ h => h.elim

/-! ### a def (or method) of the text as it stands behind the top -/
structure Fun (K : PySem.W.Frag) (x qual : Str) (st : Stmt) (f : Addr) (fd : FuncData) : Prop where
  ex : ∃ (oc : Value) (od : Option Addr) (kV doc pm : Value) (an : Option Addr) (cdv ct : Value) (osl : Array (Option Value)),
    fd = PySem.W.fnOf x qual (defArgs st) (defBody st) (defScope st) .none kV doc pm an cdv ct ∧ K.lookup f = some ⟨oc, od, .func fd, osl⟩ ∧ PySem.W.codeIn K cdv qual = true
  kp : PySem.W.keepIn K (.ref f) = true
section
variable {P : Program} {w : World} {K : PySem.W.Frag} {mg : Str → Option Value} {base : Heap}
/-- THE RULE for a def: its body as a term of rules, and the reading of that term -/
theorem Fun.ok {x qual : Str} {st : Stmt} {f : Addr} {fd : FuncData} {N ps : List Str} {k : Nat} {sp : Sp} (F : Fun K x qual st f fd) (S : FnScope N ps (defScope st)) (len : ∀ vs H Q E, sp vs H Q E → vs.length = ps.length)
    (hbody : ∀ (cdv : Value) (A : Around) (outer : List Env) (s : Shared) (H : Hp) (vs : List V) (Q : VK) (E : XK), Room k (A.deeper (envOfC qual (defScope st) s.heap.objs.size f cdv)) → sp vs H Q E →
      ∃ t, PSs (cxOf CX0 P w K mg base N qual (defScope st) f cdv A outer s H E).nox (defBody st) t ∧ t { nx := fun _ H' => Q .non H', rt := Q } (start N vs) H) : FnOk P w K mg base CX0 (k + 1) f fd ps sp := by
  obtain ⟨oc, od, kV, doc, pm, an, cdv, ct, osl, rfl, lk, hcd⟩ := F.ex
  refine fn_of lk hcd S len fun A outer s H vs Q E hr hsp => ?_
  obtain ⟨t, h, q⟩ := hbody cdv A outer s H vs Q E hr hsp
  exact ⟨t, h.nox, q⟩
/-- how its arguments bind (no defaults): h is «fun _ _ _ _ _ _ us hl => match us, hl with | [_, _], _ => rfl», one _ a parameter -/
theorem Fun.binds {x qual : Str} {st : Stmt} {f : Addr} {fd : FuncData} {ps : List Str} (F : Fun K x qual st f fd)
    (h : ∀ (kV doc pm : Value) (an : Option Addr) (cdv ct : Value) (us : List Value), us.length = ps.length → bindArgs (PySem.W.fnOf x qual (defArgs st) (defBody st) (defScope st) .none kV doc pm an cdv ct) ⟨us, []⟩ = pure (ps.zip us)) : Binds K fd ps [] := by
  obtain ⟨oc, od, kV, doc, pm, an, cdv, ct, osl, rfl, lk, hcd⟩ := F.ex
  exact .all (h kV doc pm an cdv ct)
theorem fun_mk {x qual : Str} {st : Stmt} {f : Addr} {oc : Value} {od an : Option Addr} {osl : Array (Option Value)} {kV doc pm cdv ct : Value} (l : K.lookup f = some ⟨oc, od, .func (PySem.W.fnOf x qual (defArgs st) (defBody st) (defScope st) .none kV doc pm an cdv ct), osl⟩)
    (c : PySem.W.codeIn K cdv qual = true) (k : PySem.W.keepIn K (.ref f) = true) : Fun K x qual st f (PySem.W.fnOf x qual (defArgs st) (defBody st) (defScope st) .none kV doc pm an cdv ct) := ⟨⟨oc, od, kV, doc, pm, an, cdv, ct, osl, rfl, l, c⟩, k⟩
end
theorem small1000 {n : Nat} (h : n ≤ 1000) : n < sizeLine := Nat.lt_of_le_of_lt h (by decide)

/-! ### expressions in short: the name that stands in the i-th slot -/
section
variable {X : Cx}
theorem pv (i : Nat) {x : Str} {pos : Pos} (hN : X.N[i]? = some x := by rfl) (hv : Vis X.env.scope x := by first | exact Or.inl rfl | exact Or.inr (Or.inl rfl) | exact Or.inr (Or.inr rfl)) (hd : (x == ("__debug__" : Str)) = false := by decide)
    (hcd : (x == ("__classdict__" : Str)) = false := by decide) : PE X (.Name x pos) (tVar i) := pe_var hN hv hd hcd
end

/-! ### tests -/
theorem iteF {A B : Prop} (h : B) : if false = true then A else B := by
  rw [if_neg Bool.false_ne_true]
  exact h
theorem iteT {A B : Prop} (h : A) : if true = true then A else B := by
  rw [if_pos rfl]
  exact h
theorem ite2 {c A B : Prop} [Decidable c] (h1 : c → A) (h2 : ¬ c → B) : if c then A else B := by
  by_cases h : c
  · rw [if_pos h]
    exact h1 h
  · rw [if_neg h]
    exact h2 h
theorem iteNS {c A B : Prop} [Decidable c] (hc : c) (h : B) : if (!decide c) = true then A else B := by
  rw [decide_eq_true hc]
  exact iteF h

/-! ### heaps -/
/-- all that was tracked is as it was -/
def Same (H H' : Hp) : Prop := ∀ b o, H b = some o → H' b = some o
theorem Same.refl (H : Hp) : Same H H := fun _ _ h => h
theorem Same.trans {H H1 H2 : Hp} (a : Same H H1) (b : Same H1 H2) : Same H H2 := fun c o h => b c o (a c o h)
theorem Same.free {H H' : Hp} (e : Same H H') {l : Addr} (h : H' l = Option.none) : H l = Option.none := by
  cases q : H l with
  | none => rfl
  | some o =>
    rw [e l o q] at h
    cases h
theorem Same.seq {K : PySem.W.Frag} {H H' : Hp} {a : Addr} {xs : List V} (e : Same H H') (h : SqL K H a xs) : SqL K H' a xs := by
  rcases h with (h | ⟨o, h⟩) | h
  · exact .inl (.inl (e _ _ h))
  · exact .inl (.inr ⟨o, e _ _ h⟩)
  · exact .inr h

end L2
set_option maxHeartbeats 4000000

namespace L2
open PySem PySem.Spec PyProof.Rows

/-! ## comprehensions -/
/-- the cells of the free names of a block -/
def clOf (env : Env) : List (Str × NameKind) → List (Str × Addr) → List (Str × Addr)
  | [], acc => acc
  | (n, k) :: r, acc => if k == .free then (match env.cells.lookup n with
      | some c => clOf env r ((n, c) :: acc)
      | none => clOf env r acc) else clOf env r acc

theorem closure_is {scope : Scope} {env : Env} (h : ∀ y ∈ scope.names, y.2 = .free → ∃ c, env.cells.lookup y.1 = some c) :
    closureFor scope env = pure (clOf env scope.names []) := by
  have key : ∀ (l : List (Str × NameKind)) (acc : List (Str × Addr)), (∀ y ∈ l, y.2 = .free → ∃ c, env.cells.lookup y.1 = some c) →
      (forIn l acc fun (x : Str × NameKind) (cs : List (Str × Addr)) => (if (x.2 == NameKind.free) = true then (do
          let a ← cellOf env x.1
          pure (ForInStep.yield ((x.1, a) :: cs))) else pure (ForInStep.yield cs) : Sem (ForInStep (List (Str × Addr))))) = (pure (clOf env l acc) : Sem (List (Str × Addr))) := by
    intro l
    induction l with
    | nil => intro acc _; rfl
    | cons y r ih =>
      intro acc hy
      obtain ⟨n, k⟩ := y
      rw [List.forIn_cons]
      have hr : ∀ z ∈ r, z.2 = .free → ∃ c, env.cells.lookup z.1 = some c := fun z hz => hy z (List.mem_cons_of_mem _ hz)
      by_cases hk : k = .free
      · subst hk
        obtain ⟨c, hc⟩ := hy (n, .free) List.mem_cons_self rfl
        have e1 : cellOf env n = pure c := by
          have hc' : env.cells.lookup n = some c := hc
          unfold cellOf
          rw [hc']
        have e2 : clOf env ((n, .free) :: r) acc = clOf env r ((n, c) :: acc) := by
          have hc' : env.cells.lookup n = some c := hc
          simp only [clOf, beq_self_eq_true, if_true, hc']
        rw [e2, ← ih _ hr]
        simp only [beq_self_eq_true, if_true, e1]
        rfl
      · have hb : (k == NameKind.free) = false := by simpa using hk
        have e2 : clOf env ((n, k) :: r) acc = clOf env r acc := by
          simp only [clOf, hb, Bool.false_eq_true, if_false]
        rw [e2, ← ih _ hr]
        simp only [hb, Bool.false_eq_true, if_false]
        rfl
  have := key scope.names [] h
  unfold closureFor
  first
    | exact this
    | (simp only [bind_pure]; exact this)
    | (rw [← this]; rfl)

theorem clOf_mem {env : Env} : ∀ {l : List (Str × NameKind)} {acc : List (Str × Addr)}, (∀ p ∈ acc, env.cells.lookup p.1 = some p.2) → ∀ p ∈ clOf env l acc, env.cells.lookup p.1 = some p.2
  | [], _, h, p, hp => h p hp
  | (n, k) :: r, acc, h, p, hp => by
    unfold clOf at hp
    split at hp
    · split at hp
      · rename_i c hc
        exact clOf_mem (l := r) (fun q hq => by
          rcases List.mem_cons.mp hq with rfl | hq
          · exact hc
          · exact h q hq) p hp
      · exact clOf_mem (l := r) h p hp
    · exact clOf_mem (l := r) h p hp
theorem clOf_in {env : Env} {x : Str} : ∀ {l : List (Str × NameKind)} {acc : List (Str × Addr)}, ((∃ p ∈ acc, p.1 = x) ∨ ((x, NameKind.free) ∈ l ∧ ∃ c, env.cells.lookup x = some c)) → ∃ p ∈ clOf env l acc, p.1 = x
  | [], _, h => by
    rcases h with h | ⟨h, _⟩
    · exact h
    · exact absurd h (by simp)
  | (n, k) :: r, acc, h => by
    unfold clOf
    split
    · rename_i hk
      split
      · rename_i c hc
        refine clOf_in (l := r) ?_
        rcases h with ⟨p, hp, e⟩ | ⟨h, hx⟩
        · exact .inl ⟨p, List.mem_cons_of_mem _ hp, e⟩
        · rcases List.mem_cons.mp h with e | h
          · have e' : x = n := congrArg Prod.fst e
            exact .inl ⟨(n, c), List.mem_cons_self, e'.symm⟩
          · exact .inr ⟨h, hx⟩
      · rename_i hc
        refine clOf_in (l := r) ?_
        rcases h with h | ⟨h, c, hx⟩
        · exact .inl h
        · rcases List.mem_cons.mp h with e | h
          · have e' : x = n := congrArg Prod.fst e
            rw [← e', hx] at hc; cases hc
          · exact .inr ⟨h, c, hx⟩
    · rename_i hk
      refine clOf_in (l := r) ?_
      rcases h with h | ⟨h, hx⟩
      · exact .inl h
      · rcases List.mem_cons.mp h with e | h
        · have e' : NameKind.free = k := congrArg Prod.snd e
          rw [← e'] at hk
          exact absurd rfl hk
        · exact .inr ⟨h, hx⟩
theorem lookup_of_key {α : Type} {x : Str} : ∀ {l : List (Str × α)}, (∃ p ∈ l, p.1 = x) → ∃ c, l.lookup x = some c
  | [], h => by obtain ⟨p, hp, _⟩ := h; exact absurd hp (by simp)
  | (n, c) :: r, h => by
    by_cases e : x = n
    · subst e
      exact ⟨c, by simp [List.lookup_cons]⟩
    · have hb : (x == n) = false := by simpa using e
      obtain ⟨p, hp, e'⟩ := h
      rcases List.mem_cons.mp hp with rfl | hp
      · exact absurd e'.symm e
      · obtain ⟨c', h'⟩ := lookup_of_key (l := r) ⟨p, hp, e'⟩
        exact ⟨c', by simp only [List.lookup_cons, hb]; exact h'⟩

/-- the context of a comprehension's block -/
def compCx (X : Cx) (N : List Str) (scope : Scope) (C : Addr) (s₀ : Shared) (H₀ : Hp) (fp : List Addr) : Cx where
  prog := X.prog
  w := X.w
  K := X.K
  mg := X.mg
  base := X.base
  A := X.A
  N := N
  s₀ := s₀
  H₀ := H₀
  env := compEnvC scope (clOf X.env scope.names []) C X.env
  outer := X.stack
  stack := X.stack
  ex := fp
  fn := fun _ => false
  calm := X.calm
  pn := []
  xe := fun _ _ => False

/-- what of the text a comprehension must have: N the block's own names (the loop's first), ix: the places of the captured ones among the names around -/
structure CompOk (X : Cx) (N : List Str) (ix : List (Option Nat)) (scope : Scope) : Prop where
  kind : scope.kind = .function
  nocell : ∀ y ∈ scope.names, y.2 ≠ .cell
  names : ∀ y ∈ scope.names, y.2 = .local → scope.names.lookup y.1 = some .local
  fre : ∀ y ∈ scope.names, y.2 = .free → X.env.kindOf y.1 = some .cell ∨ X.env.kindOf y.1 = some .free
  len : ix.length = N.length
  at' : ∀ (i j : Nat), ix[i]? = some (some j) → ∃ x, N[i]? = some x ∧ X.N[j]? = some x ∧ scope.names.lookup x = some .free

def compChk (N XN : List Str) (xk : Str → Option NameKind) (ix : List (Option Nat)) (scope : Scope) : Bool :=
  scope.kind == .function && scope.names.all (fun y => y.2 != .cell) && scope.names.all (fun y => y.2 != .local || scope.names.lookup y.1 == some .local) &&
  scope.names.all (fun y => y.2 != .free || (xk y.1 == some .cell || xk y.1 == some .free)) && ix.length == N.length &&
  (List.range ix.length).all (fun i => match ix[i]? with
    | some (some j) => (match N[i]?, XN[j]? with
      | some x, some y => x == y && scope.names.lookup x == some .free
      | _, _ => false)
    | _ => true)
theorem CompOk.of {X : Cx} {N : List Str} {ix : List (Option Nat)} {scope : Scope} (h : compChk N X.N X.env.kindOf ix scope = true) : CompOk X N ix scope := by
  unfold compChk at h
  simp only [Bool.and_eq_true] at h
  obtain ⟨⟨⟨⟨⟨h1, h2⟩, h3⟩, h4⟩, h5⟩, h6⟩ := h
  refine ⟨eq_of_beq h1, fun y hy => ?_, fun y hy e => ?_, fun y hy e => ?_, eq_of_beq h5, fun i j e => ?_⟩
  · have := List.all_eq_true.mp h2 y hy
    simpa using this
  · have := List.all_eq_true.mp h3 y hy
    rw [e] at this
    have q : (scope.names.lookup y.1 == some NameKind.local) = true := by simpa using this
    exact eq_of_beq q
  · have := List.all_eq_true.mp h4 y hy
    rw [e] at this
    have q : (X.env.kindOf y.1 == some NameKind.cell || X.env.kindOf y.1 == some NameKind.free) = true := by simpa using this
    rcases Bool.or_eq_true_iff.mp q with q | q
    · exact .inl (eq_of_beq q)
    · exact .inr (eq_of_beq q)
  · have hi : i < ix.length := (List.getElem?_eq_some_iff.mp e).1
    have := List.all_eq_true.mp h6 i (List.mem_range.mpr hi)
    rw [e] at this
    simp only at this
    split at this
    · rename_i x y e1 e2
      obtain ⟨q1, q2⟩ := Bool.and_eq_true_iff.mp this
      have q1' : x = y := eq_of_beq q1
      subst q1'
      exact ⟨x, e1, e2, eq_of_beq q2⟩
    · cases this

/-- the captured names' values -/
def capt (ix : List (Option Nat)) (σ : St) : St := ix.map fun o => match o with
  | none => none
  | some j => (σ[j]?).getD none
theorem capt_get {ix : List (Option Nat)} {σ : St} {i : Nat} {v : V} (h : (capt ix σ)[i]? = some (some v)) : ∃ j, ix[i]? = some (some j) ∧ σ[j]? = some (some v) := by
  unfold capt at h
  rw [List.getElem?_map] at h
  cases e : ix[i]? with
  | none => rw [e] at h; cases h
  | some o =>
    rw [e] at h
    cases o with
    | none => cases h
    | some j =>
      refine ⟨j, rfl, ?_⟩
      have h' : (σ[j]?).getD none = some v := Option.some.inj h
      cases q : σ[j]? with
      | none => rw [q] at h'; cases h'
      | some z => rw [q] at h'; exact congrArg some h'

theorem relabel_kind {scope : Scope} {env : Env} {x : Str} {k : NameKind} (h : (relabel scope env).names.lookup x = some k) : (x, k) ∈ scope.names ∨ ((x, NameKind.free) ∈ scope.names ∧ k = .cell) := by
  have hm := PySem.mem_of_lookup h
  obtain ⟨⟨n, k'⟩, hn, e⟩ := List.mem_map.mp hm
  dsimp only at e
  split at e
  · rename_i hc
    have e1 : n = x := congrArg Prod.fst e
    have e2 : NameKind.cell = k := congrArg Prod.snd e
    subst e1
    refine .inr ⟨?_, e2.symm⟩
    have hk : k' = .free := by
      simp only [Bool.and_eq_true] at hc
      exact eq_of_beq hc.1.1
    rw [← hk]
    exact hn
  · have e1 : n = x := congrArg Prod.fst e
    have e2 : k' = k := congrArg Prod.snd e
    subst e1 e2
    exact .inl hn

theorem relabel_free {scope : Scope} {env : Env} {x : Str} (h : scope.names.lookup x = some .free) : (relabel scope env).names.lookup x = some .cell ∨ (relabel scope env).names.lookup x = some .free := by
  have key : ∀ (l : List (Str × NameKind)), l.lookup x = some .free → (l.map fun (n, k) => if (k == NameKind.free && env.scope.kind == .function && env.kindOf n == some .cell) then (n, NameKind.cell) else (n, k)).lookup x = some .cell ∨
      (l.map fun (n, k) => if (k == NameKind.free && env.scope.kind == .function && env.kindOf n == some .cell) then (n, NameKind.cell) else (n, k)).lookup x = some .free := by
    intro l
    induction l with
    | nil => intro h; simp at h
    | cons y r ih =>
      intro h
      obtain ⟨n, k⟩ := y
      rw [List.map_cons]
      dsimp only
      cases hx : x == n with
      | true =>
        simp only [List.lookup_cons, hx] at h
        cases h
        split
        · exact .inl (by simp [List.lookup_cons, hx])
        · exact .inr (by simp [List.lookup_cons, hx])
      | false =>
        simp only [List.lookup_cons, hx] at h
        have := ih h
        split
        · simpa only [List.lookup_cons, hx] using this
        · simpa only [List.lookup_cons, hx] using this
  exact key scope.names h

section
variable {X : Cx} {pins : List (Addr × Obj)} {σ : St} {H : Hp} {s : Shared} {N : List Str} {ix : List (Option Nat)} {scope : Scope}

theorem clOf_is (x : Str) (c : Addr) (h : (clOf X.env scope.names []).lookup x = some c) : X.env.cells.lookup x = some c :=
  clOf_mem (env := X.env) (l := scope.names) (acc := []) (fun p hp => absurd hp (by simp)) (x, c) (PySem.mem_of_lookup h)
theorem clOf_has (ok : X.Ok) (ck : CompOk X N ix scope) (x : Str) (h : (x, NameKind.free) ∈ scope.names) : ∃ c, (clOf X.env scope.names []).lookup x = some c := by
  obtain ⟨c, hc⟩ := ok.has x (ck.fre (x, .free) h rfl)
  exact lookup_of_key (clOf_in (.inr ⟨h, c, hc⟩))

/-- the block's context is one: s the state ahead of its frame -/
theorem compCx_ok (I : Inv X pins σ H s) (ck : CompOk X N ix scope) {fp : List Addr} (hf : ∀ b ∈ fp, FpOk X pins H b) (hfp : ∀ b ∈ fp, b < s.heap.objs.size) : (compCx X N scope s.heap.objs.size s H fp).Ok where
  mod := I.ok.mod
  kind := ck.kind
  glob := I.ok.glob
  blt := I.ok.blt
  above := Nat.le_refl _
  inj := fun x y c h1 h2 => I.ok.inj x y c (clOf_is x c h1) (clOf_is y c h2)
  has := fun x hx => by
    have hx' : (relabel scope X.env).names.lookup x = some .cell ∨ (relabel scope X.env).names.lookup x = some .free := hx
    have hm : (x, NameKind.free) ∈ scope.names := by
      rcases hx' with q | q
      · rcases relabel_kind q with z | ⟨z, _⟩
        · exact absurd rfl (ck.nocell _ z)
        · exact z
      · rcases relabel_kind q with z | ⟨_, z⟩
        · exact z
        · cases z
    exact clOf_has I.ok ck x hm
  cab := fun _ _ h _ => absurd (show false = true from h) Bool.false_ne_true
  hd := I.ok.hd
  frames := I.ok.frames
  stk := .inl rfl
  exf := fun b hb => ⟨Nat.ne_of_lt (hfp b hb), fun x c h => (hf b hb).2.2.2.2.1 x c (clOf_is x c h)⟩
  bs := I.bs
  bsz := Nat.le_trans I.ok.bsz I.sz
  noex := fun b o e hb => by
    rcases (hf b hb).2.2.2.1 with z | z
    · exact I.ok.noex b o e z
    · exact absurd (Nat.lt_of_lt_of_le (Heap.lt_size (I.ok.bs b o e).1) z) (Nat.lt_irrefl _)
  exfs := fun b hb z => by
    rcases List.mem_cons.mp (I.stkSub b z) with q | q
    · exact (hf b hb).2.1 q
    · exact (hf b hb).2.2.1 q
  funs := I.stack
  frf := I.stkFree

/-- the state behind the block's frame was made -/
theorem compCx_inv (I : Inv X pins σ H s) (ck : CompOk X N ix scope) {fp : List Addr} (hf : ∀ b ∈ fp, FpOk X pins H b) (hfp : ∀ b ∈ fp, b < s.heap.objs.size) {h1 : Heap} {t1 : Nat} {m : Str → Option Value}
    (hn : h1.Ns s.heap.objs.size m) (k : ∀ b o, s.heap.get? b = some o → h1.get? b = some o) :
    Inv (compCx X N scope s.heap.objs.size s H fp) [] (capt ix σ) H { s with heap := h1, toks := t1 } where
  ok := compCx_ok I ck hf hfp
  os := rfl
  bare := I.bare
  base := Un.kept k
  loc := ⟨m, hn, fun i x v e1 e2 _ => by
    obtain ⟨j, hj, hv⟩ := capt_get e2
    obtain ⟨x', q1, q2, q3'⟩ := ck.at' i j hj
    have q3 : (x', NameKind.free) ∈ scope.names := PySem.mem_of_lookup q3'
    have e1' : N[i]? = some x := e1
    rw [e1'] at q1; cases q1
    have hk := ck.fre (x, .free) q3 rfl
    have vis : Vis X.env.scope x := hk.elim (fun z => .inr (.inl z)) fun z => .inr (.inr z)
    obtain ⟨mX, hnX, hlX⟩ := I.loc
    obtain ⟨u, r, l⟩ := hlX j x v q2 hv vis
    refine ⟨u, r, .inr ⟨?_, ?_⟩⟩
    · exact relabel_free q3'
    · obtain ⟨c, hc⟩ := clOf_has I.ok ck x q3
      refine ⟨c, hc, ?_⟩
      have hcX := clOf_is x c hc
      rcases l with ⟨hl, _⟩ | ⟨_, c', hc', z⟩
      · rcases hk with q | q
        · rw [q] at hl; cases hl
        · rw [q] at hl; cases hl
      · rw [hcX] at hc'; cases hc'
        obtain ⟨o, ho, hd⟩ := z
        exact ⟨o, k c o ho, hd⟩⟩
  cell := fun x c e => by
    obtain ⟨v, o, ho, hd⟩ := I.cell x c (clOf_is x c e)
    exact ⟨v, o, k c o ho, hd⟩
  free := I.hok.fresh (Nat.le_refl _)
  freeC := fun x c e => I.freeC x c (clOf_is x c e)
  pin := fun p hp => absurd (show p ∈ ([] : List (Addr × Obj)) from hp) (by simp)
  hok := I.hok.kept k
  len := by
    show (capt ix σ).length = N.length
    unfold capt
    rw [List.length_map]
    exact ck.len
end
end L2

namespace L2
open PySem PySem.Spec PyProof.Rows
/-- the loop of a comprehension, whatever its target -/
theorem comp_loopG {prog : Program} {w : World} {A : Around} {R : Result → Shared → Prop} {s : Shared} {elt target iter : Expr} {ifs : List Expr} {scope : Scope} {pos : Pos} {it acc : Value} {env : Env} (I : Nat → Shared → Prop)
    (turn : ∀ n s, I n s → wpAny (model prog w) A (pyNext it) (fun r s1 => match r with
      | none => R (.ok .next) s1
      | some v => wpAny (model prog w) A (letOwnedTupleGo target it v) (fun _ s1' => wpAny (model prog w) A (assign target env v) (fun _ s2 =>
          wpAny (model prog w) A (forIn ifs true fun c r => if r = true then do let ok ← isTrue c env (eval c env); pure (ForInStep.yield ok) else pure (ForInStep.yield r)) (fun ok s3 =>
            if ok = true then wpAny (model prog w) A (eval elt env) (fun x s4 =>
              wpAny (model prog w) A (call (.builtin "list.append") [acc, x]) (fun _ s5 => ∃ m, m < n ∧ I m s5) (fun _ _ => False) s4) (fun _ _ => False) s3
            else ∃ m, m < n ∧ I m s3) (fun _ _ => False) s2) (fun _ _ => False) s1') (fun _ _ => False) s1) (fun _ _ => False) s)
    (n : Nat) (h : I n s) : codeAny (model prog w) A (.compLoop (.ListComp elt [⟨target, iter, ifs, 0⟩] scope pos) 0 it acc env) R s := by
  refine codeAny_loop rfl I (fun n s hI => ?_) n h
  show wpAny _ A ((compTurn (.ListComp elt [⟨target, iter, ifs, 0⟩] scope pos) 0 it acc env).onRaise (fun x => do noteFrame x env; theTreesLotGoes x)) _ _ s
  refine wpAny_noted ?_
  rw [compTurn_list]
  refine wpAny_bind (wpAny_standAt (wpAny_bind (wpAny_mono (turn n s hI) (fun r s1 h1 => ?_) fun _ _ z => z.elim)))
  cases r with
  | none => exact wpAny_pure h1
  | some v =>
    refine wpAny_bind (wpAny_mono h1 (fun _ s1' h1' => ?_) fun _ _ z => z.elim)
    refine wpAny_bind (wpAny_mono h1' (fun _ s2 h2 => wpAny_bind (wpAny_mono h2 (fun ok s3 h3 => ?_) fun _ _ z => z.elim)) fun _ _ z => z.elim)
    cases ok with
    | false => exact wpAny_pure ⟨rfl, h3⟩
    | true =>
      exact wpAny_bind (wpAny_bind (wpAny_mono h3 (fun x s4 h4 => wpAny_bind (wpAny_mono h4 (fun _ s5 h5 => wpAny_pure (wpAny_pure ⟨rfl, h5⟩)) fun _ _ z => z.elim)) fun _ _ z => z.elim))

/-- the tests of a comprehension -/
def PTs (X : Cx) (ifs : List Expr) (t : TT) : Prop :=
  ∀ (pins : List (Addr × Obj)) (s : Shared) (σ : St) (H : Hp) (Q : Bool → Hp → Prop), Inv X pins σ H s → t σ H Q →
    wpAny (model X.prog X.w) X.A (forIn ifs true fun c r => if r = true then do let ok ← isTrue c X.env (eval c X.env); pure (ForInStep.yield ok) else pure (ForInStep.yield r)) (TP X pins σ Q) X.xe s
def tYes : TT := fun _ H Q => Q true H
theorem pts_nil {X : Cx} : PTs X [] tYes := fun _ _ _ H _ I h => wpAny_tests_nil ⟨H, I, h⟩
/-- W: the word by the turn and a measure; D the list that grows -/
def tCompL (J : It) (g : TG) (tt : TT) (te : TE) (D : Addr) (σ0 : St) (H1 : Hp) (Q : VK) : Prop :=
  ∃ W : Nat → Nat → St → Hp → Prop, (∃ m, W 0 m σ0 (upd H1 D (.lst []))) ∧ ∀ i m σ H, W i m σ H →
    (J.stop i H ∧ Q (.ref D) H) ∨ (J.go i H ∧ ∀ x H', J.yld i H x H' → g x σ H' fun σ2 H2 => tt σ2 H2 fun b H3 =>
      if b = true then ∃ N : V → Hp → Prop, (∀ y H4, N y H4 → ∃ ys, H4 D = some (.lst ys) ∧ ys.length < sizeLine ∧ ∃ m', m' < m ∧ W (i + 1) m' σ2 (upd H4 D (.lst (ys ++ [y])))) ∧ te σ2 H3 N
      else ∃ m', m' < m ∧ W (i + 1) m' σ2 H3)
def tComp (wi : TI) (ix : List (Option Nat)) (g : TG) (tt : TT) (te : TE) : TE := fun σ H Q => wi σ H fun J H1 => ∀ D, H1 D = none → tCompL J g tt te D (capt ix σ) H1 Q

section
variable {X : Cx} {pins : List (Addr × Obj)} {σ : St} {N : List Str} {ix : List (Option Nat)} {scope : Scope} {elt iter tg : Expr} {ifs : List Expr} {pos : Pos} {g : TG} {tt : TT} {te : TE} {wi : TI}

theorem comp_core {H2 : Hp} {s2 : Shared} {it : Addr} {fp : List Addr} {tn : Nat → Heap → Prop} {J : It} {Q : VK} {RR : Value → Addr → Result → Shared → Prop} {E : Value → Shared → Prop} (hc : X.calm = true) (ck : CompOk X N ix scope)
    (I2 : Inv X pins σ H2 s2) (T : Turn X.prog X.w X.K tg J fp it tn) (st : tn 0 s2.heap) (f2 : ∀ b ∈ fp, FpOk X pins H2 b)
    (hg : ∀ C s₀ H₀ fp, PG (compCx X N scope C s₀ H₀ fp) tg g) (htt : ∀ C s₀ H₀ fp, PTs (compCx X N scope C s₀ H₀ fp) ifs tt) (he : ∀ C s₀ H₀ fp, PE (compCx X N scope C s₀ H₀ fp) elt te)
    (hw : ∀ D, H2 D = none → tCompL J g tt te D (capt ix σ) H2 Q)
    (hRR : ∀ (D C : Addr) (H' : Hp) (s' : Shared) (m : Str → Option Value), Inv X pins σ H' s' → s'.heap.Ns C m → H' C = none → C ≠ X.env.locals → X.s₀.heap.objs.size ≤ C → (∀ x c, X.env.cells.lookup x = some c → c ≠ C) → (∀ p ∈ X.pn ++ pins, p.1 ≠ C) →
      Q (.ref D) H' → RR (.ref D) C (.ok .next) s') :
    wpAny (model X.prog X.w) X.A (newList []) (fun acc s3 => wpAny (model X.prog X.w) X.A (newFunctionEnv scope X.env.globals (clOf X.env scope.names []) [] X.env.qual none .none (some X.env)) (fun cenv s4 =>
      codeAny (model X.prog X.w) X.A (.compStart (.ListComp elt [⟨tg, iter, ifs, 0⟩] scope pos) 0 (.ref it) acc { cenv with scope := relabel scope X.env }) (RR acc cenv.locals) s4) E s3) E s2 := by
  have ob := T.obj 0 _ st
  have lt2 : ∀ b ∈ fp, b < s2.heap.objs.size := fun b hb => by
    obtain ⟨o, e, _⟩ := ob b hb
    exact Heap.lt_size e
  have hD : H2 s2.heap.objs.size = none := I2.hok.fresh (Nat.le_refl _)
  have I3 : Inv X pins σ (upd H2 s2.heap.objs.size (.lst [])) { s2 with heap := s2.heap.push { cls := .type "list", dict := none, data := .seq ([] : List Value).toArray }, toks := s2.toks } := I2.lnew (ys := []) .nil (Nat.zero_le _)
  refine wpAny_newObj_type (wpAny_newFunctionEnv ck.nocell (by intro y hy; simp at hy) (fun h1 hns hsb => ?_) ck.kind)
  dsimp only at hns hsb ⊢
  generalize hs3 : ({ s2 with heap := s2.heap.push { cls := .type "list", dict := none, data := .seq ([] : List Value).toArray }, toks := s2.toks } : Shared) = s3 at I3
  have eh : s2.heap.push { cls := .type "list", dict := none, data := .seq ([] : List Value).toArray } = s3.heap := by rw [← hs3]
  have sz3 : s3.heap.objs.size = s2.heap.objs.size + 1 := by rw [← hs3]; exact Heap.size_push ..
  rw [eh] at hns hsb ⊢
  have f3 : ∀ b ∈ fp, FpOk X pins (upd H2 s2.heap.objs.size (.lst [])) b := fun b hb => by
    refine ⟨?_, (f2 b hb).2⟩
    rw [upd_ne (Nat.ne_of_lt (lt2 b hb))]
    exact (f2 b hb).1
  have lt3 : ∀ b ∈ fp, b < s3.heap.objs.size := fun b hb => by rw [sz3]; exact Nat.lt_succ_of_lt (lt2 b hb)
  have k1 : ∀ b o, s3.heap.get? b = some o → h1.get? b = some o := fun b o e => hsb.extBut b o (Nat.ne_of_lt (Heap.lt_size e)) (Heap.get?_push_of_some _ e)
  have st1 : tn 0 h1 := T.keep 0 _ _ st fun b hb o e => k1 b o (by rw [← eh]; exact Heap.get?_push_of_some _ e)
  obtain ⟨W, ⟨m0, w0⟩, turn⟩ := hw _ hD
  -- the facts that stay
  let X' := compCx X N scope s3.heap.objs.size s3 (upd H2 s2.heap.objs.size (.lst [])) fp
  have ok' : X'.Ok := compCx_ok I3 ck f3 lt3
  have stat : ∀ {H' : Hp}, (∀ b ∈ fp, H' b = none) → ∀ b ∈ fp, FpOk X' [] H' b := fun hn b hb =>
    ⟨hn b hb, (ok'.exf b hb).1, ok'.exfs b hb, .inl hb, (ok'.exf b hb).2, fun p hp => absurd (show p ∈ ([] : List (Addr × Obj)) from hp) (by simp)⟩
  have back : ∀ {σ' : St} {H' : Hp} {s' : Shared}, Inv X' [] σ' H' s' → Inv X pins σ H' s' := fun {σ' H' s'} J' => by
    refine I3.call' (ch := fp) J'.os J'.base J'.hok J'.bare fun b hb => ?_
    obtain ⟨q0, q1, q2, q3, q4, q5⟩ := f3 b hb
    exact ⟨q3, q1, q4, q5⟩
  have loop : ∀ s4 : Shared, s4 = { s3 with heap := h1, toks := s3.toks + ([] : List (Str × Value)).length } →
      codeAny (model X.prog X.w) X.A (.compLoop (.ListComp elt [⟨tg, iter, ifs, 0⟩] scope pos) 0 (.ref it) (.ref s2.heap.objs.size) X'.env) (RR (.ref s2.heap.objs.size) s3.heap.objs.size) s4 := by
    rintro s4 rfl
    refine comp_loopG (fun n s' => ∃ i σ' H', Inv X' [] σ' H' s' ∧ tn i s'.heap ∧ (∀ b ∈ fp, H' b = none) ∧ W i n σ' H') ?_ m0 ⟨0, capt ix σ, _, compCx_inv I3 ck f3 lt3 hns k1, st1, fun b hb => (f3 b hb).1, w0⟩
    rintro n s5 ⟨i, σ5, H5, I5, st5, fr5, w5⟩
    rcases turn i n σ5 H5 w5 with ⟨stop, q⟩ | ⟨go, step⟩
    · refine thn (T.done X' rfl rfl rfl hc i [] s5 σ5 H5 _ I5 (stat fr5) st5 stop) fun r s6 ⟨hr, I6⟩ => ?_
      subst hr
      obtain ⟨m6, hn6, _⟩ := I6.loc
      have J6 := back I6
      have low : X.env.locals < s3.heap.objs.size := I3.lt
      exact hRR _ _ H5 s6 m6 J6 hn6 I6.free (Nat.ne_of_gt low) I3.sz (fun x c e z => by
        obtain ⟨v, qc⟩ := I3.cell x c e
        exact absurd qc.lt (by rw [z]; exact Nat.lt_irrefl _)) (fun p hp z => absurd (Heap.lt_size (I3.pin p hp).1) (by rw [z]; exact Nat.lt_irrefl _)) q
    · refine thn (T.item X' rfl rfl rfl hc i [] s5 σ5 H5 _ I5 (stat fr5) st5 go) fun r s6 ⟨u, hr, h6⟩ => ?_
      subst hr
      refine thn h6 fun _ s7 ⟨x, H7, I7, r7, y7, st7, fr7⟩ => ?_
      have I7' := I7.pinned (stat fr7) (T.obj _ _ st7)
      refine thn (hg _ _ _ _ _ s7 σ5 H7 x u _ I7' r7 (step x H7 y7)) fun _ s8 ⟨σ8, H8, I8, q8⟩ => ?_
      refine thn (htt _ _ _ _ _ s8 σ8 H8 _ I8 q8) fun b s9 ⟨H9, I9, q9⟩ => ?_
      have again : ∀ {H : Hp} {s' : Shared}, Inv X' ([] ++ pinsAt fp s7.heap) σ8 H s' → (∃ m', m' < n ∧ W (i + 1) m' σ8 H) → ∃ m, m < n ∧ ∃ i σ' H', Inv X' [] σ' H' s' ∧ tn i s'.heap ∧ (∀ b ∈ fp, H' b = none) ∧ W i m σ' H' := fun {H s'} J ⟨m', hm, w'⟩ => by
        refine ⟨m', hm, i + 1, σ8, H, J.unpinned, T.keep _ _ _ st7 fun b hb o e => (J.pin (b, o) (List.mem_append_right _ (List.mem_append_right _ (mem_pinsAt hb e)))).1, fun b hb => ?_, w'⟩
        obtain ⟨o, e, d⟩ := T.obj _ _ st7 b hb
        exact (J.pin (b, o) (List.mem_append_right _ (List.mem_append_right _ (mem_pinsAt hb e)))).2.1
      cases b with
      | false =>
        rw [if_neg Bool.false_ne_true] at q9 ⊢
        exact again I9 q9
      | true =>
        rw [if_pos rfl] at q9 ⊢
        obtain ⟨Nx, hNx, q9⟩ := q9
        refine thn (he _ _ _ _ _ s9 σ8 H9 _ I9 q9) fun z s10 ⟨y, H10, I10, r10, n10⟩ => ?_
        obtain ⟨ys, hD10, hz10, q10⟩ := hNx y H10 n10
        exact thn (mt_append (X := X') _ s10 σ8 H10 (.ref s2.heap.objs.size) [y] (.ref s2.heap.objs.size) [z] (fun _ H => ∃ m', m' < n ∧ W (i + 1) m' σ8 H) I10 rfl (.cons r10 .nil) ⟨_, ys, y, rfl, rfl, hD10, hz10, q10⟩) fun _ s11 ⟨v11, H11, I11, _, q11⟩ => again I11 q11
  exact codeAny_compStart_list (loop _ (by rw [← hs3])) (T.self _ 0 _ _ _ st1 (loop _ (by rw [← hs3])))

theorem comp_closure {s : Shared} {H : Hp} (I : Inv X pins σ H s) (ck : CompOk X N ix scope) : closureFor scope X.env = pure (clOf X.env scope.names []) :=
  closure_is fun y hy e => I.ok.has y.1 (ck.fre y hy e)

/-- [elt for tg in iter if ..] -/
theorem pe_comp (hc : X.calm = true) (ck : CompOk X N ix scope) (hi : PI X tg iter wi)
    (hg : ∀ C s₀ H₀ fp, PG (compCx X N scope C s₀ H₀ fp) tg g) (htt : ∀ C s₀ H₀ fp, PTs (compCx X N scope C s₀ H₀ fp) ifs tt) (he : ∀ C s₀ H₀ fp, PE (compCx X N scope C s₀ H₀ fp) elt te)
    (hs : ∀ x, foldedSetIterable iter X.env x = pure x := by intro _; rfl) : PE X (.ListComp elt [⟨tg, iter, ifs, 0⟩] scope pos) (tComp wi ix g tt te) := by
  intro pins s σ H Q I h
  rw [eval_ListComp]
  refine wpAny_comprehension_free (use := none) rfl hs (comp_closure I ck) ck.kind ck.names (thn (hi pins s σ H _ I h) fun v s1 h1 => thn h1 fun itv s2 h2 => ?_)
  obtain ⟨it, fp, tn, J, H2, e, I2, T, st2, f2, hw⟩ := h2
  subst e
  refine comp_core (Q := Q) (RR := fun acc C => compPost (model X.prog X.w) X.A X.xe none (EP X pins σ Q) acc C) hc ck I2 T st2 f2 hg htt he hw ?_
  intro D C H' s' m J' hn hfree hL hsz hcell hpin q
  exact ⟨m, hn, fun h' hs' => ⟨.ref D, H', J'.turned (t' := s'.toks) (fun b o hb e => hs'.extBut b o hb e) hfree hL (.inr hsz) hcell hpin, rfl, q⟩⟩

/-- name = [..], the name a local one, on one row: the name is stored ahead of the block's end -/
theorem ps_comp {i : Nat} {y : Str} {py spos : Pos} (hN : X.N.Nodup) (hi' : X.N[i]? = some y) (hy : X.env.scope.names.lookup y = some .local) (hc : X.calm = true) (ck : CompOk X N ix scope) (hi : PI X tg iter wi)
    (hg : ∀ C s₀ H₀ fp, PG (compCx X N scope C s₀ H₀ fp) tg g) (htt : ∀ C s₀ H₀ fp, PTs (compCx X N scope C s₀ H₀ fp) ifs tt) (he : ∀ C s₀ H₀ fp, PE (compCx X N scope C s₀ H₀ fp) elt te)
    (hsw : swapsWith (.ListComp elt [⟨tg, iter, ifs, 0⟩] scope pos) (some (.Name y py)) spos.line X.env = pure true := by rfl)
    (hs : ∀ x, foldedSetIterable iter X.env x = pure x := by intro _; rfl) : PS X (.Assign [.Name y py] (.ListComp elt [⟨tg, iter, ifs, 0⟩] scope pos) spos) (tAsg (tComp wi ix g tt te) (gName i)) := by
  intro pins s σ H Dn I h
  rw [exec_Assign_Name_used _ _ _ _ hsw]
  refine wpAny_bind (wpAny_standAt (wpAny_bind ?_))
  show wpAny _ X.A (do let _ ← comprehension (.ListComp elt [⟨tg, iter, ifs, 0⟩] scope pos) scope X.env _ (newList []) false (eval iter X.env) (some (assign (.Name y py) X.env))) _ _ s
  refine wpAny_bind (wpAny_mono (wpAny_comprehension_free (use := some (assign (.Name y py) X.env)) (Q := fun _ s' => SP X pins Dn .next s') rfl hs (comp_closure I ck) ck.kind ck.names (thn (hi pins s σ H _ I h) fun v s1 h1 => thn h1 fun itv s2 h2 => ?_))
    (fun _ s' hq => wpAny_pure (wpAny_pure hq)) fun _ _ e => e)
  obtain ⟨it, fp, tn, J, H2, e, I2, T, st2, f2, hw⟩ := h2
  subst e
  refine comp_core (Q := fun v H1 => Dn.nx (σ.set i (some v)) H1) (RR := fun acc C => compPost (model X.prog X.w) X.A X.xe (some (assign (.Name y py) X.env)) (fun _ s' => SP X pins Dn .next s') acc C) hc ck I2 T st2 f2 hg htt he hw ?_
  intro D C H' s' m J' hn hfree hL hsz hcell hpin q
  show wpAny _ X.A (assign (.Name y py) X.env (.ref D)) _ _ _
  refine wpAny_assign_Name (store_ok2 J' hN hi' (.inl hy) (v := .ref D) rfl (fun s'' I'' hb => ?_) (.inr hy))
  obtain ⟨a, sb, ha⟩ := hb
  have neC : C ≠ a := by
    rcases ha with ha | ha
    · rw [ha]; exact hL
    · exact fun z => hcell _ _ ha z.symm
  refine ⟨m, hn.sameBut sb neC, fun h' hs' => ⟨_, H', I''.turned (t' := s''.toks) (fun b o hb e => hs'.extBut b o hb e) hfree hL (.inr hsz) hcell hpin, q⟩⟩
end
end L2

namespace L2
open PySem PySem.Spec PyProof.Rows

/-! ## more of Python's own -/
section
variable {X : Cx}
theorem vals_to_ints {ns : List Int} {its : List Value} (r : Vals (ns.map V.int) its) : IntsAre its ns := by
  induction ns generalizing its with
  | nil => cases r; exact .nil
  | cons n ns ih =>
    rw [List.map_cons] at r
    cases r with
    | cons r1 r2 =>
      obtain ⟨t, rfl⟩ := r1
      exact .cons n t (ih r2)
theorem vals_to_bools {bs : List Bool} {its : List Value} (r : Vals (bs.map V.bl) its) : LSm.BoolsAre its bs := by
  induction bs generalizing its with
  | nil => cases r; exact .nil
  | cons b bs ih =>
    rw [List.map_cons] at r
    cases r with
    | cons r1 r2 =>
      cases r1
      exact .cons b (ih r2)
/-- sum of a list of ints -/
theorem call_sumI (hc : X.calm = true) : CallR X (.builtin "sum") (fun xs H Q => ∃ (p : Addr) (ns : List Int), xs = [.ref p] ∧ SqL X.K H p (ns.map V.int) ∧ Q (.int ns.sum) H) := by
  intro pins s σ H xs us Q I r h
  obtain ⟨p, ns, rfl, hq, q⟩ := h
  obtain ⟨u, rfl, rx⟩ := vals1 r
  cases rx
  obtain ⟨its, r', pl, hz⟩ := I.list hq
  have hi := vals_to_ints r'
  obtain ⟨xs, hx⟩ := hi.allInts.items
  have hl : s.heap.IsList p its.toArray := pl.isList
  have hl' : s.heap.IsList p (intItems xs) := hx ▸ hl
  refine sum_intListG (I.ok.hd hc) hl' fun h' tk t' hk => ?_
  have e1 : ns = xs.toList.map (·.1) := by
    rw [← nums_intItems, ← hx]
    exact (show numsOf its.toArray.toList = ns from hi.numsOf).symm
  have e2 : preSum (numAt xs) xs.size = ns.sum := by
    rw [preSum_eq, List.take_of_length_le (by simp), e1]
  rw [e2]
  exact ⟨.int ns.sum, H, I.kept hk, ⟨_, rfl⟩, q⟩
/-- all, any of a list of bools -/
theorem call_allB (hc : X.calm = true) : CallR X (.builtin "all") (fun xs H Q => ∃ (p : Addr) (bs : List Bool), xs = [.ref p] ∧ SqL X.K H p (bs.map V.bl) ∧ Q (.bl (bs.all id)) H) := by
  intro pins s σ H xs us Q I r h
  obtain ⟨p, bs, rfl, hq, q⟩ := h
  obtain ⟨u, rfl, rx⟩ := vals1 r
  cases rx
  obtain ⟨its, r', pl, hz⟩ := I.list hq
  have hb := vals_to_bools r'
  have hl : s.heap.IsList p its.toArray := pl.isList
  have hlt : p < s.heap.objs.size := by obtain ⟨_, e, _⟩ := hl; exact Heap.lt_size e
  refine call_all_walk (wpAny_pyIter_list hl ?_)
  refine ⟨s.heap.objs.size, [s.heap.objs.size, p], [s.heap.objs.size], its.toArray.size, _, _, fun i => (bs[i]?).getD true, rfl, Walks.list (A := X.A.in1) (I.ok.hd hc) _ p (Nat.ne_of_lt hlt) its.toArray,
    ⟨⟨_, Heap.get?_push_size _ rfl, rfl, rfl⟩, hl.push _⟩, fun i v s' Q' E' hP hQ => ?_, fun h' tk hk => ?_⟩
  · obtain ⟨b, e, rfl⟩ := hb.get i v (by simpa using hP)
    simp only [e, Option.getD_some] at hQ
    exact wpAny_truthy_bool hQ
  · have e : ((List.range its.toArray.size).all fun i => (bs[i]?).getD true) = bs.all id := by
      rw [List.size_toArray, hb.length]; exact LSm.range_all bs
    rw [e]
    exact ⟨.bl (bs.all id), H, I.kept (LSm.kept_iter hk), rfl, q⟩
end

/-! ## data behind values, and == -/
mutual
inductive RdD (K : PySem.W.Frag) (H : Hp) : V → PyData → Prop
  | non : RdD K H .non .none
  | bl (b : Bool) : RdD K H (.bl b) (.bool b)
  | int (i : Int) : RdD K H (.int i) (.int i)
  | str (x : Str) : RdD K H (.str x) (.str x)
  | lst {p : Addr} {xs : List V} {ds : List PyData} : SqL K H p xs → RdA K H xs ds → RdD K H (.ref p) (.list ds)
  | tup {p : Addr} {xs : List V} {ds : List PyData} : SqT K H p xs → RdA K H xs ds → RdD K H (.ref p) (.tuple ds)
inductive RdA (K : PySem.W.Frag) (H : Hp) : List V → List PyData → Prop
  | nil : RdA K H [] []
  | cons {x : V} {xs : List V} {d : PyData} {ds : List PyData} : RdD K H x d → RdA K H xs ds → RdA K H (x :: xs) (d :: ds)
end
section
variable {X : Cx} {pins : List (Addr × Obj)} {σ : St} {H : Hp} {s : Shared}
mutual
theorem RdD.reads (I : Inv X pins σ H s) : ∀ {x : V} {d : PyData} {u : Value}, RdD X.K H x d → RelV x u → ∃ as, Reads s.heap u d as
  | _, _, _, .non, r => by cases r; exact ⟨_, .none⟩
  | _, _, _, .bl b, r => by cases r; exact ⟨_, .bool b⟩
  | _, _, _, .int i, r => by obtain ⟨t, rfl⟩ := r; exact ⟨_, .int i t⟩
  | _, _, _, .str x, r => by obtain ⟨t, rfl⟩ := r; exact ⟨_, .str x t⟩
  | _, _, _, .lst hq ha, r => by
    cases r
    obtain ⟨its, rv, ⟨o, n, e, hc, _, hd⟩, _⟩ := I.list hq
    obtain ⟨as, z⟩ := RdA.reads I ha rv
    exact ⟨_, .list e hc hd z⟩
  | _, _, _, .tup hq ha, r => by
    cases r
    obtain ⟨its, rv, ⟨o, e, hc, n, hd⟩, _⟩ := I.tuple hq
    obtain ⟨as, z⟩ := RdA.reads I ha rv
    exact ⟨_, .tuple e hc hd z⟩
theorem RdA.reads (I : Inv X pins σ H s) : ∀ {xs : List V} {ds : List PyData} {us : List Value}, RdA X.K H xs ds → Vals xs us → ∃ as, ReadsAll s.heap us ds as
  | _, _, _, .nil, r => by cases r; exact ⟨_, .nil⟩
  | _, _, _, .cons h t, r => by
    cases r with
    | cons r1 r2 =>
      obtain ⟨as, z⟩ := RdD.reads I h r1
      obtain ⟨bs, y⟩ := RdA.reads I t r2
      exact ⟨_, .cons z y⟩
end
/-- == over data -/
def rEqD (K : PySem.W.Frag) : R2 := fun x y H Q => ∃ d e, RdD K H x d ∧ RdD K H y e ∧ SeqAt.shaped d = true ∧ SeqAt.shaped e = true ∧ Q (.bl (PyData.eqv d e)) H
def rNeD (K : PySem.W.Frag) : R2 := fun x y H Q => ∃ d e, RdD K H x d ∧ RdD K H y e ∧ SeqAt.shaped d = true ∧ SeqAt.shaped e = true ∧ Q (.bl (!PyData.eqv d e)) H
theorem op_eqD {k : Nat} (hr : Room k X.A) : OpR X (compareOp .Eq) (rEqD X.K) := by
  intro pins s σ H x y v u Q I rx ry h
  obtain ⟨d, e, h1, h2, h3, h4, q⟩ := h
  obtain ⟨as, r1⟩ := h1.reads I rx
  obtain ⟨bs, r2⟩ := h2.reads I ry
  exact SeqAt.compareEq_shaped r1 r2 h3 h4 hr.units ⟨.bl _, H, I, rfl, q⟩
theorem op_neD {k : Nat} (hr : Room k X.A) : OpR X (compareOp .NotEq) (rNeD X.K) := by
  intro pins s σ H x y v u Q I rx ry h
  obtain ⟨d, e, h1, h2, h3, h4, q⟩ := h
  obtain ⟨as, r1⟩ := h1.reads I rx
  obtain ⟨bs, r2⟩ := h2.reads I ry
  exact SeqAt.compareNe_shaped r1 r2 h3 h4 hr.units ⟨.bl _, H, I, rfl, q⟩
end

/-- a row of ints, a table of rows, as data -/
def rowD (ns : List Int) : PyData := .list (ns.map PyData.int)
def tabD (t : List (List Int)) : PyData := .list (t.map rowD)
theorem eqv_ints : ∀ (ns ms : List Int), PyData.eqvAll (ns.map PyData.int) (ms.map PyData.int) = decide (ns = ms)
  | [], [] => by simp [PyData.eqvAll]
  | [], m :: ms => by simp [PyData.eqvAll]
  | n :: ns, [] => by simp [PyData.eqvAll]
  | n :: ns, m :: ms => by
    rw [List.map_cons, List.map_cons, PyData.eqvAll, eqv_ints ns ms, PyData.eqv]
    by_cases h : n = m <;> simp [h]
theorem eqv_row (ns ms : List Int) : PyData.eqv (rowD ns) (rowD ms) = decide (ns = ms) := by
  unfold rowD
  rw [PyData.eqv, eqv_ints]
theorem eqv_rows : ∀ (t u : List (List Int)), PyData.eqvAll (t.map rowD) (u.map rowD) = decide (t = u)
  | [], [] => by simp [PyData.eqvAll]
  | [], m :: ms => by simp [PyData.eqvAll]
  | n :: ns, [] => by simp [PyData.eqvAll]
  | n :: ns, m :: ms => by
    rw [List.map_cons, List.map_cons, PyData.eqvAll, eqv_rows ns ms, eqv_row]
    by_cases h : n = m <;> simp [h]
theorem eqv_tab (t u : List (List Int)) : PyData.eqv (tabD t) (tabD u) = decide (t = u) := by
  unfold tabD
  rw [PyData.eqv, eqv_rows]
theorem canLay_ints : ∀ ns : List Int, PyData.canLayAll0 (ns.map PyData.int) = true
  | [] => by simp [PyData.canLayAll0]
  | n :: ns => by simp [PyData.canLayAll0, PyData.canLay0, canLay_ints ns]
theorem canLay_rows : ∀ t : List (List Int), PyData.canLayAll0 (t.map rowD) = true
  | [] => by simp [PyData.canLayAll0]
  | r :: t => by simp [PyData.canLayAll0, PyData.canLay0, rowD, canLay_ints r, canLay_rows t]
theorem depth_ints : ∀ ns : List Int, PyData.depthAll (ns.map PyData.int) ≤ 1
  | [] => by simp [PyData.depthAll]
  | n :: ns => by
    have := depth_ints ns
    simp only [List.map_cons, PyData.depthAll, PyData.depth]
    omega
theorem depth_rows : ∀ t : List (List Int), PyData.depthAll (t.map rowD) ≤ 3
  | [] => by simp [PyData.depthAll]
  | r :: t => by
    have h1 := depth_rows t
    have h2 := depth_ints r
    simp only [List.map_cons, PyData.depthAll, PyData.depth, rowD]
    omega
theorem shaped_tab (t : List (List Int)) : SeqAt.shaped (tabD t) = true := by
  have h1 := depth_rows t
  unfold SeqAt.shaped tabD
  rw [Bool.and_eq_true]
  refine ⟨by simp only [PyData.canLay0]; exact canLay_rows t, decide_eq_true ?_⟩
  simp only [PyData.depth]
  omega
/-! ## a list of ints, a table, in the heap -/
abbrev IsRow (H : Hp) (r : Addr) (row : List Int) : Prop := H r = some (.lst (row.map V.int))
structure Tab (H : Hp) (p : Addr) (rs : List Addr) (t : List (List Int)) : Prop where
  top : H p = some (.lst (rs.map V.ref))
  rows : Paired (IsRow H) rs t
  nd : rs.Nodup
theorem rdA_ints {K : PySem.W.Frag} {H : Hp} : ∀ ns : List Int, RdA K H (ns.map V.int) (ns.map PyData.int)
  | [] => .nil
  | n :: ns => .cons (.int n) (rdA_ints ns)
theorem rdD_row {K : PySem.W.Frag} {H : Hp} {r : Addr} {row : List Int} (h : IsRow H r row) : RdD K H (.ref r) (rowD row) := .lst (SqL.of h) (rdA_ints row)
theorem rdA_rows {K : PySem.W.Frag} {H : Hp} : ∀ {rs : List Addr} {t : List (List Int)}, Paired (IsRow H) rs t → RdA K H (rs.map V.ref) (t.map rowD)
  | _, _, .nil => .nil
  | _, _, .cons h t => .cons (rdD_row h) (rdA_rows t)
theorem Tab.rd {K : PySem.W.Frag} {H : Hp} {p : Addr} {rs : List Addr} {t : List (List Int)} (h : Tab H p rs t) : RdD K H (.ref p) (tabD t) := .lst (SqL.of h.top) (rdA_rows h.rows)
end L2

namespace L2
open PySem PySem.Spec PyProof.Rows

/-! ## the forms of comprehensions that one uses -/
theorem set0_eq {σ σ0 : St} {v : Option V} (h : σ.set 0 none = σ0.set 0 none) : σ.set 0 v = σ0.set 0 v := by
  have := congrArg (fun l : St => l.set 0 v) h
  simpa only [List.set_set] using this
/-- over a list, by a word of the turn, the items so far and the heap -/
theorem comp_list {K : PySem.W.Frag} {a D : Addr} {xs : List V} {te : TE} {σ0 : St} {H1 : Hp} {Q : VK} (Pv : Nat → List V → Hp → Prop) (hz : xs.length ≤ sizeLine) (h0 : Pv 0 [] (upd H1 D (.lst [])))
    (hl : ∀ i ys H, i ≤ xs.length → Pv i ys H → SqL K H a xs ∧ ys.length ≤ i)
    (hs : ∀ i x ys H, xs[i]? = some x → Pv i ys H → te (σ0.set 0 (some x)) H fun y H4 => H4 D = some (.lst ys) ∧ Pv (i + 1) (ys ++ [y]) (upd H4 D (.lst (ys ++ [y]))))
    (hd : ∀ ys H, Pv xs.length ys H → Q (.ref D) H) : tCompL (Itl K a) (gName 0) tYes te D σ0 H1 Q := by
  refine ⟨fun i m σ H => m = xs.length - i ∧ i ≤ xs.length ∧ σ.set 0 none = σ0.set 0 none ∧ ∃ ys, Pv i ys H, ⟨xs.length, by simp, Nat.zero_le _, rfl, [], h0⟩, ?_⟩
  rintro i m σ H ⟨rfl, hi, hσ, ys, p⟩
  obtain ⟨q, hy⟩ := hl i ys H hi p
  by_cases hlt : i < xs.length
  · refine .inr ⟨⟨xs, xs[i], q, by simp [hlt]⟩, fun x H' y => ?_⟩
    obtain ⟨e, y⟩ := y
    subst e
    have hx := y xs q
    refine ⟨fun y H4 => H4 D = some (.lst ys) ∧ Pv (i + 1) (ys ++ [y]) (upd H4 D (.lst (ys ++ [y]))), fun y H4 ⟨e4, p4⟩ => ⟨ys, e4, by omega, xs.length - (i + 1), by omega, rfl, hlt, by rw [List.set_set]; exact hσ, _, p4⟩, ?_⟩
    rw [set0_eq hσ]
    exact hs i x ys _ hx p
  · have e : i = xs.length := by omega
    subst e
    exact .inl ⟨⟨xs, q, Nat.le_refl _⟩, hd ys H p⟩
/-- over a range -/
theorem comp_range {lo : Int} {n : Nat} {D : Addr} {te : TE} {σ0 : St} {H1 : Hp} {Q : VK} (Pv : Nat → List V → Hp → Prop) (hz : n ≤ sizeLine) (h0 : Pv 0 [] (upd H1 D (.lst [])))
    (hl : ∀ i ys H, i ≤ n → Pv i ys H → ys.length ≤ i)
    (hs : ∀ i ys H, i < n → Pv i ys H → te (σ0.set 0 (some (.int (lo + i)))) H fun y H4 => H4 D = some (.lst ys) ∧ Pv (i + 1) (ys ++ [y]) (upd H4 D (.lst (ys ++ [y]))))
    (hd : ∀ ys H, Pv n ys H → Q (.ref D) H) : tCompL (Itr lo n) (gName 0) tYes te D σ0 H1 Q := by
  refine ⟨fun i m σ H => m = n - i ∧ i ≤ n ∧ σ.set 0 none = σ0.set 0 none ∧ ∃ ys, Pv i ys H, ⟨n, by simp, Nat.zero_le _, rfl, [], h0⟩, ?_⟩
  rintro i m σ H ⟨rfl, hi, hσ, ys, p⟩
  have hy := hl i ys H hi p
  by_cases hlt : i < n
  · refine .inr ⟨hlt, fun x H' y => ?_⟩
    obtain ⟨e, y⟩ := y
    subst e y
    refine ⟨fun y H4 => H4 D = some (.lst ys) ∧ Pv (i + 1) (ys ++ [y]) (upd H4 D (.lst (ys ++ [y]))), fun y H4 ⟨e4, p4⟩ => ⟨ys, e4, by omega, n - (i + 1), by omega, rfl, hlt, by rw [List.set_set]; exact hσ, _, p4⟩, ?_⟩
    rw [set0_eq hσ]
    exact hs i ys _ hlt p
  · have e : i = n := by omega
    subst e
    exact .inl ⟨Nat.le_refl _, hd ys H p⟩
/-- element and test read alone, they change nothing -/
theorem comp_pure {K : PySem.W.Frag} {a D : Addr} {xs : List V} {tt : TT} {te : TE} {σ0 : St} {H1 : Hp} {Q : VK} (p : V → Bool) (f : V → V) (hz : xs.length ≤ sizeLine) (hq : SqL K H1 a xs) (hD : H1 D = none)
    (ht : ∀ x ∈ xs, ∀ ys R, R (p x) (upd H1 D (.lst ys)) → tt (σ0.set 0 (some x)) (upd H1 D (.lst ys)) R)
    (he : ∀ x ∈ xs, p x = true → ∀ ys R, R (f x) (upd H1 D (.lst ys)) → te (σ0.set 0 (some x)) (upd H1 D (.lst ys)) R)
    (hd : Q (.ref D) (upd H1 D (.lst ((xs.filter p).map f)))) : tCompL (Itl K a) (gName 0) tt te D σ0 H1 Q := by
  have same : ∀ ys, Same H1 (upd H1 D (.lst ys)) := fun ys b o e => by rw [upd_ne (ne_of_none e hD)]; exact e
  refine ⟨fun i m σ H => m = xs.length - i ∧ i ≤ xs.length ∧ σ.set 0 none = σ0.set 0 none ∧ H = upd H1 D (.lst (((xs.take i).filter p).map f)), ⟨xs.length, by simp, Nat.zero_le _, rfl, by simp⟩, ?_⟩
  rintro i m σ H ⟨rfl, hi, hσ, rfl⟩
  have q := (same (((xs.take i).filter p).map f)).seq hq
  by_cases hlt : i < xs.length
  · refine .inr ⟨⟨xs, xs[i], q, by simp [hlt]⟩, fun x H' y => ?_⟩
    obtain ⟨e, y⟩ := y
    subst e
    have hx := y xs q
    have hm : x ∈ xs := List.mem_of_getElem? hx
    show tt (σ.set 0 (some x)) _ _
    rw [set0_eq hσ]
    refine ht x hm _ _ ?_
    have hts : (xs.take (i + 1)).filter p = (xs.take i).filter p ++ (if p x then [x] else []) := take_succ_filter p xs i x hx
    have hlen : (((xs.take i).filter p).map f).length ≤ i := by
      rw [List.length_map]
      refine Nat.le_trans (List.length_filter_le _ _) ?_
      rw [List.length_take]
      omega
    cases hp : p x with
    | true =>
      refine iteT ⟨fun y H4 => y = f x ∧ H4 = upd H1 D (.lst (((xs.take i).filter p).map f)), fun y H4 ⟨e3, e4⟩ => ?_, he x hm hp _ _ ⟨rfl, rfl⟩⟩
      subst e3 e4
      refine ⟨_, upd_same, by omega, xs.length - (i + 1), by omega, rfl, hlt, by rw [List.set_set], ?_⟩
      rw [upd_upd, hts, hp]
      simp
    | false =>
      refine iteF ⟨xs.length - (i + 1), by omega, rfl, hlt, by rw [List.set_set], ?_⟩
      rw [hts, hp]
      simp
  · have e : i = xs.length := by omega
    subst e
    refine .inl ⟨⟨xs, q, Nat.le_refl _⟩, ?_⟩
    rw [List.take_length]
    exact hd

/-! ## defs of the text, called by name -/
/-- what a caller needs of a def -/
def Callee (P : Program) (w : World) (K : PySem.W.Frag) (mg : Str → Option Value) (base : Heap) (k : Nat) (x : Str) (ps : List Str) (sp : Sp) : Prop :=
  ∃ f fd, FnOk P w K mg base CX0 k f fd ps sp ∧ mg x = some (.ref f) ∧ PySem.W.keepIn K (.ref f) = true ∧ Binds K fd ps []
/-- a def as it stands behind the top -/
structure DefAt (K : PySem.W.Frag) (mg : Str → Option Value) (x : Str) (st : Stmt) (ps : List Str) (f : Addr) (fd : FuncData) : Prop where
  fn : Fun K x x st f fd
  there : mg x = some (.ref f)
  bi : Binds K fd ps []
section
variable {X : Cx} {k : Nat} {x : Str} {ps : List Str} {sp : Sp} {e : Expr} {es : List Expr} {t : TA} {p pos : Pos}
theorem pe_def (G : Callee X.prog X.w X.K X.mg X.base k x ps sp) (hr : Room k X.A) (hg : Gl X x) (ha : PA X (e :: es) t) (hdb : (x == ("__debug__" : Str)) = false := by decide)
    (he : starEach (e :: es) X.env = (false, eval e X.env) :: starEach es X.env := by rfl) (hpl : (backTo pos (starEach es X.env)).any (·.1) = false := by rfl) : PE X (.Call (.Name x p) (e :: es) [] pos) (tCall sp [] E0 t) := by
  intro pins s σ H Q I h
  obtain ⟨f, fd, F, hm, hk, hb⟩ := G
  exact pe_call F hr hg hm hk hb .nil pass0 ha hdb he hpl pins s σ H Q I h
theorem pe_globI {i : Int} (hg : Gl X x) (hm : ∃ t, X.mg x = some (.int i t)) (hd : (x == ("__debug__" : Str)) = false := by decide) : PE X (.Name x pos) (tC (.int i)) := by
  obtain ⟨t, hm⟩ := hm
  exact pe_glob hg hm ⟨t, rfl⟩ hd
end
section
variable {P : Program} {w : World} {K : PySem.W.Frag} {mg : Str → Option Value} {base : Heap}
theorem DefAt.callee {x : Str} {st : Stmt} {ps : List Str} {f : Addr} {fd : FuncData} {k : Nat} {sp : Sp} (D : DefAt K mg x st ps f fd) (F : FnOk P w K mg base CX0 k f fd ps sp) : Callee P w K mg base k x ps sp :=
  ⟨f, fd, F, D.there, D.fn.kp, D.bi⟩
/-- a def's promise, from its body -/
theorem DefAt.ok {x : Str} {st : Stmt} {N ps : List Str} {f : Addr} {fd : FuncData} {k : Nat} {sp : Sp} (D : DefAt K mg x st ps f fd) (S : FnScope N ps (defScope st)) (len : ∀ vs H Q E, sp vs H Q E → vs.length = ps.length)
    (hbody : ∀ (cdv : Value) (A : Around) (outer : List Env) (s : Shared) (H : Hp) (vs : List V) (Q : VK) (E : XK), Room k (A.deeper (envOfC x (defScope st) s.heap.objs.size f cdv)) → sp vs H Q E →
      ∃ t, PSs (cxOf CX0 P w K mg base N x (defScope st) f cdv A outer s H E).nox (defBody st) t ∧ t { nx := fun _ H' => Q .non H', rt := Q } (start N vs) H) : Callee P w K mg base (k + 1) x ps sp :=
  D.callee (D.fn.ok S len hbody)
end

/-! ## heaps -/
/-- all that was tracked is as it was, but at S -/
def Ext (S : List Addr) (H H' : Hp) : Prop := ∀ b o, H b = some o → b ∉ S → H' b = some o
/-- the script: a frozen list, or one of the module's -/
def Scr (K : PySem.W.Frag) (H : Hp) (a : Addr) (ns : List Int) : Prop :=
  (∃ o, H a = some (.frz o (.lst (ns.map V.int)))) ∨ ∃ (o : Obj) (its : Array Value) (n : Nat), K.lookup a = some o ∧ o.cls = .type "list" ∧ o.dict = none ∧ o.data = .seq its n ∧ its.size ≤ sizeLine ∧ Vals (ns.map V.int) its.toList
theorem Scr.seq {K : PySem.W.Frag} {H : Hp} {a : Addr} {ns : List Int} (h : Scr K H a ns) : SqL K H a (ns.map V.int) := h.elim (fun ⟨o, e⟩ => .inl (.inr ⟨o, e⟩)) .inr
theorem Scr.of {K : PySem.W.Frag} {H : Hp} {a : Addr} {ns : List Int} (hO : Only H) (h : SqL K H a (ns.map V.int)) : Scr K H a ns := by
  rcases h with (h | ⟨o, h⟩) | h
  · rcases hO a with z | ⟨o, xs, z⟩
    · rw [h] at z; cases z
    · rw [h] at z; cases z
  · exact .inl ⟨o, h⟩
  · exact .inr h
theorem Scr.ext {K : PySem.W.Frag} {H H' : Hp} {a p : Addr} {ns : List Int} {xs : List V} (h : Scr K H a ns) (hp : H p = some (.lst xs)) (e : Ext [p] H H') : Scr K H' a ns := by
  rcases h with ⟨o, h⟩ | h
  · refine .inl ⟨o, e a _ h fun z => ?_⟩
    rw [List.mem_singleton.mp z, hp] at h
    cases h
  · exact .inr h
theorem Scr.same {K : PySem.W.Frag} {H H' : Hp} {a : Addr} {ns : List Int} (h : Scr K H a ns) (e : Same H H') : Scr K H' a ns := by
  rcases h with ⟨o, h⟩ | h
  · exact .inl ⟨o, e a _ h⟩
  · exact .inr h
theorem Ext.refl (S : List Addr) (H : Hp) : Ext S H H := fun _ _ h _ => h
theorem Ext.trans {S : List Addr} {H H1 H2 : Hp} (a : Ext S H H1) (b : Ext S H1 H2) : Ext S H H2 := fun c o h hc => b c o (a c o h hc) hc
theorem Ext.new {S : List Addr} {H H' : Hp} {b : Addr} {o : HO} (e : Ext S H H') (h : H b = none) : Ext S H (upd H' b o) := fun c u hc hs => by
  rw [upd_ne (ne_of_none hc h)]; exact e c u hc hs
theorem Ext.at {S : List Addr} {H H' : Hp} {b : Addr} {o : HO} (e : Ext S H H') (h : b ∈ S) : Ext S H (upd H' b o) := fun c u hc hs => by
  rw [upd_ne (show c ≠ b from fun z => hs (z ▸ h))]; exact e c u hc hs
theorem Ext.same {H H' : Hp} (e : Same H H') (S : List Addr) : Ext S H H' := fun b o h _ => e b o h
theorem Same.new {H H' : Hp} {b : Addr} {o : HO} (e : Same H H') (h : H b = none) : Same H (upd H' b o) := fun c u hc => by
  rw [upd_ne (ne_of_none hc h)]; exact e c u hc
theorem Same.upd_new {H : Hp} {b : Addr} {o : HO} (h : H b = none) : Same H (upd H b o) := (Same.refl H).new h

/-! ## tables -/
theorem pr_get {α β : Type} {F : α → β → Prop} : ∀ {l : List α} {m : List β} {i : Nat} {a : α}, Paired F l m → l[i]? = some a → ∃ b, m[i]? = some b ∧ F a b
  | _, _, _, _, .nil, e => by simp at e
  | _, _, 0, _, .cons r _, e => by simp at e; subst e; exact ⟨_, rfl, r⟩
  | _, _, i + 1, a, .cons _ t, e => by
    obtain ⟨b, h1, h2⟩ := pr_get (i := i) (a := a) t (by simpa using e)
    exact ⟨b, by simpa using h1, h2⟩
theorem pr_imp {α β : Type} {F G : α → β → Prop} : ∀ {l : List α} {m : List β}, Paired F l m → (∀ a b, a ∈ l → F a b → G a b) → Paired G l m
  | _, _, .nil, _ => .nil
  | _, _, .cons r t, f => .cons (f _ _ List.mem_cons_self r) (pr_imp t fun a b ha h => f a b (List.mem_cons_of_mem _ ha) h)
theorem pr_setAt {α β : Type} {F G : α → β → Prop} {b : β} : ∀ {l : List α} {m : List β} {i : Nat} {a : α}, Paired F l m → l[i]? = some a → l.Nodup → (∀ x y, x ∈ l → x ≠ a → F x y → G x y) → G a b → Paired G l (m.set i b)
  | _, _, _, _, .nil, e, _, _, _ => by simp at e
  | x :: l, y :: m, 0, a, .cons r t, e, nd, f, g => by
    simp at e
    subst e
    refine .cons g (pr_imp t fun c d hc h => f c d (List.mem_cons_of_mem _ hc) (fun z => ?_) h)
    exact (List.nodup_cons.mp nd).1 (z ▸ hc)
  | x :: l, y :: m, i + 1, a, .cons r t, e, nd, f, g => by
    have e' : l[i]? = some a := by simpa using e
    have hne : x ≠ a := fun z => (List.nodup_cons.mp nd).1 (z ▸ List.mem_of_getElem? e')
    exact .cons (f x y List.mem_cons_self hne r) (pr_setAt (i := i) t e' (List.nodup_cons.mp nd).2 (fun c d hc => f c d (List.mem_cons_of_mem _ hc)) g)
theorem Tab.len {H : Hp} {p : Addr} {rs : List Addr} {t : List (List Int)} (h : Tab H p rs t) : rs.length = t.length := Paired.length h.rows
theorem Tab.there {H : Hp} {p : Addr} {rs : List Addr} {t : List (List Int)} (h : Tab H p rs t) {r : Addr} (hr : r ∈ rs) : ∃ row ∈ t, H r = some (.lst (row.map V.int)) := by
  obtain ⟨i, hi⟩ := List.getElem?_of_mem hr
  obtain ⟨b, h1, h2⟩ := pr_get h.rows hi
  exact ⟨b, List.mem_of_getElem? h1, h2⟩
theorem Tab.notTop {H : Hp} {p : Addr} {rs : List Addr} {t : List (List Int)} (h : Tab H p rs t) : p ∉ rs := fun hp => by
  obtain ⟨row, _, e⟩ := h.there hp
  rw [h.top] at e
  have e' : rs.map V.ref = row.map V.int := by injection Option.some.inj e
  cases rs with
  | nil => cases hp
  | cons a l =>
    cases row with
    | nil => cases e'
    | cons b m =>
      rw [List.map_cons, List.map_cons] at e'
      injection e' with e1 _
      cases e1
/-- a store elsewhere -/
theorem Tab.off {H : Hp} {p : Addr} {rs : List Addr} {t : List (List Int)} {b : Addr} {o : HO} (h : Tab H p rs t) (h1 : b ≠ p) (h2 : b ∉ rs) : Tab (upd H b o) p rs t :=
  ⟨by rw [upd_ne (Ne.symm h1)]; exact h.top, pr_imp h.rows fun a row ha e => by show upd H b o a = _; rw [upd_ne (show a ≠ b from fun z => h2 (z ▸ ha))]; exact e, h.nd⟩
theorem Tab.new {H : Hp} {p : Addr} {rs : List Addr} {t : List (List Int)} {b : Addr} {o : HO} (h : Tab H p rs t) (h1 : H b = none) : Tab (upd H b o) p rs t :=
  h.off (fun z => by rw [z, h.top] at h1; cases h1) fun hb => by
    obtain ⟨row, _, e⟩ := h.there hb
    rw [h1] at e; cases e
theorem Tab.same {H H' : Hp} {p : Addr} {rs : List Addr} {t : List (List Int)} (h : Tab H p rs t) (e : Same H H') : Tab H' p rs t :=
  ⟨e _ _ h.top, pr_imp h.rows fun a row _ q => e _ _ q, h.nd⟩
theorem Tab.ext {H H' : Hp} {S : List Addr} {p : Addr} {rs : List Addr} {t : List (List Int)} (h : Tab H p rs t) (e : Ext S H H') (h1 : p ∉ S) (h2 : ∀ r ∈ rs, r ∉ S) : Tab H' p rs t :=
  ⟨e _ _ h.top h1, pr_imp h.rows fun a row ha q => e _ _ q (h2 a ha), h.nd⟩
/-- a row is written -/
theorem Tab.row {H : Hp} {p : Addr} {rs : List Addr} {t : List (List Int)} {i : Nat} {r : Addr} {row : List Int} (h : Tab H p rs t) (hr : rs[i]? = some r) : Tab (upd H r (.lst (row.map V.int))) p rs (t.set i row) := by
  have hm : r ∈ rs := List.mem_of_getElem? hr
  refine ⟨by rw [upd_ne (show p ≠ r from fun z => h.notTop (z ▸ hm))]; exact h.top, pr_setAt h.rows hr h.nd (fun x y _ hne e => ?_) ?_, h.nd⟩
  · show upd H r _ x = _
    rw [upd_ne hne]; exact e
  · show upd H r _ r = _
    rw [upd_same]
/-- one row more -/
theorem Tab.push {H : Hp} {p : Addr} {rs : List Addr} {t : List (List Int)} {r : Addr} {row : List Int} (h : Tab H p rs t) (hr : H r = some (.lst (row.map V.int))) (hn : r ∉ rs) (hp : r ≠ p) : Tab (upd H p (.lst ((rs ++ [r]).map V.ref))) p (rs ++ [r]) (t ++ [row]) := by
  refine ⟨upd_same, Paired.snoc (pr_imp h.rows fun a row ha e => ?_) ?_, ?_⟩
  · show upd H p _ a = _
    rw [upd_ne (show a ≠ p from fun z => h.notTop (z ▸ ha))]; exact e
  · show upd H p _ r = _
    rw [upd_ne hp]; exact hr
  · exact List.nodup_append.mpr ⟨h.nd, by simp, fun a ha b hb => by
      rw [List.mem_singleton.mp hb]
      exact fun z => hn (z ▸ ha)⟩
/-! ## rules that name K themselves (inside a comprehension's block) -/
section
variable {X : Cx} {K : PySem.W.Frag}
theorem call_list_ofK (h : X.K = K) : CallR X (.type "list") (fun xs H Q => ∃ p ys, xs = [.ref p] ∧ (SqL K H p ys ∨ SqT K H p ys) ∧ ∀ l, H l = none → Q (.ref l) (upd H l (.lst ys))) := by subst h; exact call_list_of
theorem call_sumIK (h : X.K = K) (hc : X.calm = true) : CallR X (.builtin "sum") (fun xs H Q => ∃ (p : Addr) (ns : List Int), xs = [.ref p] ∧ SqL K H p (ns.map V.int) ∧ Q (.int ns.sum) H) := by subst h; exact call_sumI hc
theorem ix_listK (h : X.K = K) : IxR X (rIxL K) := by subst h; exact ix_list
theorem ix_tupK (h : X.K = K) : IxR X (rIxT K) := by subst h; exact ix_tup
end
end L2

namespace L2
open PySem PySem.Spec PyProof.Rows

/-! ## zip of two lists -/
section
variable {X : Cx} {pins : List (Addr × Obj)} {σ : St} {H : Hp} {s : Shared}
/-- records of ours at ch have turned, a new object was laid -/
theorem Inv.turnNew {h' : Heap} {t' : Nat} {ch : List Addr} {o : HO} (I : Inv X pins σ H s) (hf : ∀ b ∈ ch, FpOk X pins H b) (k : ∀ b u, b ∉ ch → s.heap.get? b = some u → h'.get? b = some u)
    (new : ObjOk X.prog X.w (upd H s.heap.objs.size o) h' s.heap.objs.size o) : Inv X pins σ (upd H s.heap.objs.size o) { s with heap := h', toks := t' } := by
  have hT : H s.heap.objs.size = none := I.hok.fresh (Nat.le_refl _)
  have old : ∀ b u, s.heap.get? b = some u → b ≠ s.heap.objs.size := fun b u e => Nat.ne_of_lt (Heap.lt_size e)
  refine I.step (g' := s.gens) (d' := s.drawn) (ch := ch) (fun b hb => ?_) (fun b u _ _ hc e _ => k b u hc e) (fun b u _ _ hc e _ => ⟨u.slots, k b u hc e⟩) (fun b u _ e n => ?_)
    (fun b u hc e => ⟨u, k b u hc e⟩) (fun b xs e => ?_) (fun b u xs e => ?_) (fun b ps e => ⟨#[], ?_⟩) (fun m hm => ?_) (fun b u e => ?_) I.bare
  · obtain ⟨f0, f1, f2, f3, f4, f5⟩ := hf b hb
    exact ⟨f3, f1, f4, f5⟩
  · rw [upd_ne (old b u e)]; exact n
  · rw [upd_ne (ne_of_none e hT)]; exact e
  · rw [upd_ne (ne_of_none e hT)]; exact e
  · rw [upd_ne (ne_of_none e hT), e]; simp
  · obtain ⟨u, es, ep, hu, r⟩ := hm
    exact ⟨u, es, ep, k _ u (fun z => (hf _ z).2.1 rfl) hu, r⟩
  · by_cases hb : b = s.heap.objs.size
    · subst hb
      rw [upd_same] at e; cases e
      exact new
    · rw [upd_ne hb] at e
      refine (I.hok b u e).stay (fun c v hc q => k c v (fun z => ?_) q) (fun c q => by rw [upd_ne (ne_of_none q hT)]; exact q) fun c xs q => by rw [upd_ne (ne_of_none q hT)]; exact q
      have hn := (hf c z).1
      rcases hc with hc | hc
      · rw [hc, e] at hn; cases hn
      · rw [hc] at hn; cases hn
end
/-- the lists at a and b, side by side: a new pair at each turn -/
def Itz (K : PySem.W.Frag) (a b : Addr) : It :=
  ⟨fun i H => (∃ xs x, SqL K H a xs ∧ xs[i]? = some x) ∧ ∃ ys y, SqL K H b ys ∧ ys[i]? = some y,
   fun i H v H' => ∃ T x y, H T = none ∧ v = .ref T ∧ H' = upd H T (.tup [x, y]) ∧ (∀ xs, SqL K H a xs → xs[i]? = some x) ∧ ∀ ys, SqL K H b ys → ys[i]? = some y,
   fun i H => (∃ xs, SqL K H a xs ∧ ∃ ys, SqL K H b ys ∧ (xs.length ≤ i ∨ ys.length ≤ i))⟩
def ZipAt (z TI TO i1 i2 a b : Addr) (i : Nat) (h : Heap) : Prop :=
  IsZip h z TI TO .none ∧ IsPair h TI (.ref i1) (.ref i2) ∧ (∃ u v, IsPair h TO u v) ∧ h.IsListIter i1 a i ∧ h.IsListIter i2 b i
theorem turn_zip {P : Program} {w : World} {K : PySem.W.Frag} {elts : List Expr} {x1} {tp : Pos} {z TI TO i1 i2 a b : Addr} (D : ZipApart z TI TO i1 i2 a b) :
    Turn P w K (.Tuple elts x1 tp) (Itz K a b) [z, TI, TO, i1, i2] z (ZipAt z TI TO i1 i2 a b) where
  mem := by simp
  obj := fun i h st c hc => by
    obtain ⟨hz, hTI, ⟨u, v, hTO⟩, ⟨o1, e1, _, d1⟩, ⟨o2, e2, _, d2⟩⟩ := st
    simp only [List.mem_cons, List.not_mem_nil, or_false] at hc
    rcases hc with rfl | rfl | rfl | rfl | rfl
    · exact ⟨_, hz, fun v q => by have q' : Data.fields _ = Data.cell v := q; cases q'⟩
    · exact ⟨_, hTI, fun v q => by have q' : Data.seq _ _ = Data.cell v := q; cases q'⟩
    · exact ⟨_, hTO, fun v q => by have q' : Data.seq _ _ = Data.cell v := q; cases q'⟩
    · exact ⟨_, e1, fun v q => by rw [d1] at q; cases q⟩
    · exact ⟨_, e2, fun v q => by rw [d2] at q; cases q⟩
  keep := fun i h h' st k => by
    obtain ⟨hz, hTI, ⟨u, v, hTO⟩, h1, h2⟩ := st
    exact ⟨k z (by simp) _ hz, k TI (by simp) _ hTI, ⟨u, v, k TO (by simp) _ hTO⟩, h1.at fun o e => k i1 (by simp) o e, h2.at fun o e => k i2 (by simp) o e⟩
  item := by
    intro X hP hw hK hc i pins s σ H E I hf st hg
    subst hP hw hK
    obtain ⟨⟨xs, x, hq1, hx⟩, ys, y, hq2, hy⟩ := hg
    obtain ⟨hz, hTI, ⟨u, v, hTO⟩, h1, h2⟩ := st
    obtain ⟨its1, rv1, p1, _⟩ := I.list hq1
    obtain ⟨its2, rv2, p2, _⟩ := I.list hq2
    obtain ⟨ux, hux, rx⟩ := rv1.get hx
    obtain ⟨uy, huy, ry⟩ := rv2.get hy
    refine wpAny_pyNext_zip_item D hz hTI hTO h1 h2 p1.isList p2.isList (x := ux) (y := uy) (by simpa using hux) (by simpa using huy) fun h' a1 a2 a3 a4 a5 a6 hk => ⟨_, rfl, ?_⟩
    refine wpAny_letOwnedTupleGo_zip (s := { s with heap := h' }) a1 fun h'' hz'' sb => ?_
    have k : ∀ c o, c ∉ [z, TO, i1, i2] → s.heap.get? c = some o → h''.get? c = some o := fun c o hc e => by
      simp only [List.mem_cons, List.not_mem_nil, or_false, not_or] at hc
      exact sb.extBut c o hc.1 (hk c o hc.1 hc.2.1 hc.2.2.1 hc.2.2.2 e)
    have neT : ∀ c ∈ [z, TI, TO, i1, i2], c ≠ s.heap.objs.size := fun c hc e => by
      have hlt : c < s.heap.objs.size := by
        obtain ⟨o1, e1, _⟩ := id h1
        obtain ⟨o2, e2, _⟩ := id h2
        simp only [List.mem_cons, List.not_mem_nil, or_false] at hc
        rcases hc with rfl | rfl | rfl | rfl | rfl
        · exact Heap.lt_size hz
        · exact Heap.lt_size hTI
        · exact Heap.lt_size hTO
        · exact Heap.lt_size e1
        · exact Heap.lt_size e2
      exact Nat.lt_irrefl _ (e ▸ hlt)
    have eT : h''.get? s.heap.objs.size = some { cls := .type "tuple", data := .seq #[ux, uy] } := sb.extBut _ _ (fun q => neT z (by simp) q.symm) a5
    have I1 : Inv X pins σ (upd H s.heap.objs.size (.tup [x, y])) { s with heap := h'', toks := s.toks } := by
      refine I.turnNew (ch := [z, TO, i1, i2]) (fun c hc => hf c ?_) k ⟨by show 2 ≤ sizeLine; exact Nat.le_of_lt (small1000 (by decide)), [ux, uy], .cons rx (.cons ry .nil), ⟨_, eT, rfl, _, rfl⟩⟩
      simp only [List.mem_cons, List.not_mem_nil, or_false] at hc ⊢
      rcases hc with hc | hc | hc | hc
      · exact .inl hc
      · exact .inr (.inr (.inl hc))
      · exact .inr (.inr (.inr (.inl hc)))
      · exact .inr (.inr (.inr (.inr hc)))
    refine ⟨.ref s.heap.objs.size, _, I1, rfl, ⟨_, x, y, I.hok.fresh (Nat.le_refl _), rfl, rfl, fun zs hzs => by rw [I.list_inj hzs hq1]; exact hx, fun zs hzs => by rw [I.list_inj hzs hq2]; exact hy⟩, ?_, fun c hc => ?_⟩
    · refine ⟨hz'', sb.extBut _ _ D.TIz (hk _ _ D.TIz D.TITO D.TIi1 D.TIi2 hTI), ⟨_, _, sb.extBut _ _ D.TOz a2⟩, a3.extBut sb.extBut D.i1z, a4.extBut sb.extBut D.i2z⟩
    · rw [upd_ne (neT c hc)]
      exact (hf c hc).1
  done := by
    intro X hP hw hK hc i pins s σ H E I hf st hg
    subst hP hw hK
    obtain ⟨xs, hq1, ys, hq2, hend⟩ := hg
    obtain ⟨hz, hTI, ⟨u, v, hTO⟩, h1, h2⟩ := st
    obtain ⟨its1, rv1, p1, _⟩ := I.list hq1
    obtain ⟨its2, rv2, p2, _⟩ := I.list hq2
    have l1 := rv1.length
    have l2 := rv2.length
    refine wpAny_pyNext_zip_end (I.ok.hd hc) D hz hTI hTO h1 h2 p1.isList p2.isList (by
      rcases hend with h | h
      · exact .inl (by simp; omega)
      · exact .inr (by simp; omega)) fun h' hk => ⟨rfl, ?_⟩
    refine I.step (g' := s.gens) (d' := s.drawn) (t' := s.toks) (ch := [z, TO, i1, i2]) (fun c hc => ?_) (fun c o _ _ hc e _ => ?_) (fun c o _ _ hc e _ => ⟨o.slots, ?_⟩) (fun _ _ _ _ n => n) (fun c o hc e => ⟨o, ?_⟩)
      (fun _ _ e => e) (fun _ _ _ e => e) (fun b ps e => ⟨#[], by rw [e]; simp⟩) (fun m hm => ?_) (fun c o e => ?_) I.bare
    · have hc' : c ∈ [z, TI, TO, i1, i2] := by
        simp only [List.mem_cons, List.not_mem_nil, or_false] at hc ⊢
        rcases hc with hc | hc | hc | hc
        · exact .inl hc
        · exact .inr (.inr (.inl hc))
        · exact .inr (.inr (.inr (.inl hc)))
        · exact .inr (.inr (.inr (.inr hc)))
      obtain ⟨f0, f1, f2, f3, f4, f5⟩ := hf c hc'
      exact ⟨f3, f1, f4, f5⟩
    · simp only [List.mem_cons, List.not_mem_nil, or_false, not_or] at hc
      exact hk c o hc.1 hc.2.1 hc.2.2.1 hc.2.2.2 e
    · simp only [List.mem_cons, List.not_mem_nil, or_false, not_or] at hc
      exact hk c o hc.1 hc.2.1 hc.2.2.1 hc.2.2.2 e
    · simp only [List.mem_cons, List.not_mem_nil, or_false, not_or] at hc
      exact hk c o hc.1 hc.2.1 hc.2.2.1 hc.2.2.2 e
    · obtain ⟨o, es, ep, ho, r⟩ := hm
      exact ⟨o, es, ep, hk _ o (Ne.symm (hf z (by simp)).2.1) (Ne.symm (hf TO (by simp)).2.1) (Ne.symm (hf i1 (by simp)).2.1) (Ne.symm (hf i2 (by simp)).2.1) ho, r⟩
    · have nn : ∀ {d : Addr} {q : HO}, H d = some q → d ≠ z ∧ d ≠ TO ∧ d ≠ i1 ∧ d ≠ i2 := fun e => ⟨ne_of_none e (hf z (by simp)).1, ne_of_none e (hf TO (by simp)).1, ne_of_none e (hf i1 (by simp)).1, ne_of_none e (hf i2 (by simp)).1⟩
      refine (I.hok c o e).stay (fun d v hd q => ?_) (fun _ q => q) fun _ _ q => q
      have hd' : ∃ q, H d = some q := by
        rcases hd with hd | hd
        · exact ⟨_, by rw [hd]; exact e⟩
        · exact ⟨_, hd⟩
      obtain ⟨q', hq'⟩ := hd'
      obtain ⟨n1, n2, n3, n4⟩ := nn hq'
      exact hk d v n1 n2 n3 n4 q
  self := fun _ _ _ _ _ st h => wpAny_pyIter_zip st.1 h
def iZip (K : PySem.W.Frag) (t : TA) : TI := fun σ H R => t σ H fun vs H2 => ∃ p q, vs = [.ref p, .ref q] ∧ (∃ xs, SqL K H2 p xs) ∧ (∃ ys, SqL K H2 q ys) ∧ R (Itz K p q) H2
section
variable {X : Cx} {K : PySem.W.Frag} {a b : Expr} {t : TA} {elts : List Expr} {x1 : Nat} {tp p pos : Pos}
theorem pi_zip2 (hg : Gl X "zip") (hm : X.mg "zip" = none) (ha : PA X [a, b] t) (hs : starEach [a, b] X.env = [(false, eval a X.env), (false, eval b X.env)] := by rfl) (hs2 : starEach [b] X.env = [(false, eval b X.env)] := by rfl) :
    PI X (.Tuple elts x1 tp) (.Call (.Name "zip" p) [a, b] [] pos) (iZip X.K t) := by
  intro pins s σ H R I h
  refine Call_ (ld_blt I hg hm boot_zip (PyProof.Rows.callWith_type1 (thn (ha pos pins s σ H _ I h) fun us s1 ⟨vs, H1, I1, r1, q1⟩ => ?_) (by rw [hs, hs2]) (by rw [hs2]; rfl)))
  · obtain ⟨p, q, e, ⟨xs, h1⟩, ⟨ys, h2⟩, hR⟩ := q1
    subst e
    obtain ⟨u, v, rfl, ru, rv⟩ := vals2 r1
    cases ru
    cases rv
    obtain ⟨its1, rv1, p1, _⟩ := I1.list h1
    obtain ⟨its2, rv2, p2, _⟩ := I1.list h2
    have lp : @LT.lt Nat _ p s1.heap.objs.size := by obtain ⟨o, e, _⟩ := p1.isList; exact Heap.lt_size e
    have lq : @LT.lt Nat _ q s1.heap.objs.size := by obtain ⟨o, e, _⟩ := p2.isList; exact Heap.lt_size e
    refine call_zip_2 p1.isList p2.isList fun h' a1 a2 a3 a4 a5 a6 hk => ?_
    refine wpAny_pyIter_zip (s := { s1 with heap := h' }) a1 ?_
    have I2 : Inv X pins σ H1 { s1 with heap := h' } := I1.kept (t' := s1.toks) hk
    refine ⟨s1.heap.objs.size + 4, [s1.heap.objs.size + 4, s1.heap.objs.size + 2, s1.heap.objs.size + 3, s1.heap.objs.size, s1.heap.objs.size + 1], _, _, H1, rfl, I2, turn_zip (a := p) (b := q) ⟨?_, ?_, ?_, ?_, ?_, ?_, ?_, ?_, ?_, ?_, ?_, ?_, ?_, ?_, ?_, ?_, ?_, ?_⟩, ⟨a1, a2, ⟨_, _, a3⟩, a4, a5⟩, fun b hb => ?_, hR⟩
    case refine_19 =>
      have hb' : s1.heap.objs.size ≤ b := by
        simp only [List.mem_cons, List.not_mem_nil, or_false] at hb
        rcases hb with rfl | rfl | rfl | rfl | rfl <;> first | exact Nat.le_refl _ | exact Nat.le_add_right _ _
      have fr : H1 b = none := I1.hok.fresh hb'
      obtain ⟨f0, f1, f2, f3, f4, f5⟩ := I1.fpOk hb' fr
      exact ⟨f0, f1, f2, f3, f4, f5⟩
    all_goals (intro z; have z' : (_ : Nat) = _ := z; omega)
theorem pg_tupK {es : List Expr} {k : Nat} {t : TGs} {n : Nat} (hK : X.K = K) (hc : X.calm = true) (h : PGs X es t) (hn : (assignEach es X.env).length = n := by rfl) (hst : (assignEach es X.env).findIdx? (·.1) = none := by rfl) :
    PG X (.Tuple es k pos) (gTup K n t) := by subst hK; exact pg_tup hc h hn hst
end
theorem set01_eq {σ σ0 : St} {u v : Option V} (h : (σ.set 0 none).set 1 none = (σ0.set 0 none).set 1 none) : (σ.set 0 u).set 1 v = (σ0.set 0 u).set 1 v := by
  have e : ∀ τ : St, (((τ.set 0 none).set 1 none).set 0 u).set 1 v = (τ.set 0 u).set 1 v := fun τ => by
    match τ with
    | [] => rfl
    | [_] => rfl
    | _ :: _ :: _ => rfl
  rw [← e σ, h, e σ0]
/-- over two lists side by side -/
theorem comp_zip {K : PySem.W.Frag} {a b D : Addr} {xs ys : List V} {te : TE} {σ0 : St} {H1 : Hp} {Q : VK} (Pv : Nat → List V → Hp → Prop) (hz : xs.length ≤ sizeLine) (hlen : xs.length = ys.length) (h0 : Pv 0 [] (upd H1 D (.lst [])))
    (hl : ∀ i zs H, i ≤ xs.length → Pv i zs H → SqL K H a xs ∧ SqL K H b ys ∧ zs.length ≤ i)
    (hs : ∀ i x y zs H T, xs[i]? = some x → ys[i]? = some y → Pv i zs H → H T = none → te ((σ0.set 0 (some x)).set 1 (some y)) (upd H T (.tup [x, y])) fun v H4 => H4 D = some (.lst zs) ∧ Pv (i + 1) (zs ++ [v]) (upd H4 D (.lst (zs ++ [v]))))
    (hd : ∀ zs H, Pv xs.length zs H → Q (.ref D) H) : tCompL (Itz K a b) (gTup K 2 (gCons (gName 0) (gCons (gName 1) gNil))) tYes te D σ0 H1 Q := by
  refine ⟨fun i m σ H => m = xs.length - i ∧ i ≤ xs.length ∧ (σ.set 0 none).set 1 none = (σ0.set 0 none).set 1 none ∧ ∃ zs, Pv i zs H, ⟨xs.length, by simp, Nat.zero_le _, rfl, [], h0⟩, ?_⟩
  rintro i m σ H ⟨rfl, hi, hσ, zs, p⟩
  obtain ⟨q1, q2, hy⟩ := hl i zs H hi p
  by_cases hlt : i < xs.length
  · refine .inr ⟨⟨⟨xs, xs[i], q1, by simp [hlt]⟩, ys, ys[i], q2, by simp [hlt, ← hlen]⟩, fun v H' yl => ?_⟩
    obtain ⟨T, x, y, hT, e1, e2, gx, gy⟩ := yl
    subst e1 e2
    have hx := gx xs q1
    have hyy := gy ys q2
    refine ⟨T, [x, y], rfl, .inl (.inl upd_same), rfl, x, [y], rfl, y, [], rfl, rfl, ?_⟩
    refine ⟨fun v H4 => H4 D = some (.lst zs) ∧ Pv (i + 1) (zs ++ [v]) (upd H4 D (.lst (zs ++ [v]))), fun v H4 ⟨e4, p4⟩ => ⟨zs, e4, by omega, xs.length - (i + 1), by omega, rfl, hlt, ?_, _, p4⟩, ?_⟩
    · rw [← hσ]
      match σ with
      | [] => rfl
      | [_] => rfl
      | _ :: _ :: _ => rfl
    · rw [set01_eq hσ]
      exact hs i x y zs _ T hx hyy p hT
  · have e : i = xs.length := by omega
    subst e
    exact .inl ⟨⟨xs, q1, ys, q2, .inl (Nat.le_refl _)⟩, hd zs H p⟩

/-! ## large ints -/
def Fit (b : Nat) (x : Int) : Prop := x.natAbs < 2 ^ b
theorem Fit.mono {b c : Nat} {x : Int} (h : Fit b x) (hc : b ≤ c) : Fit c x := Nat.lt_of_lt_of_le h (Nat.pow_le_pow_right (by decide) hc)
theorem Fit.mul {b c : Nat} {x y : Int} (hx : Fit b x) (hy : Fit c y) : Fit (b + c) (x * y) := by
  unfold Fit at *
  rw [Int.natAbs_mul, Nat.pow_add]
  exact Nat.mul_lt_mul'' hx hy
theorem Fit.bits {b : Nat} {x : Int} (h : Fit b x) : Builtin.Int.intBits x ≤ b := by
  unfold Builtin.Int.intBits
  split
  · exact Nat.zero_le _
  · rename_i hx
    have hn : x.natAbs ≠ 0 := by
      intro z
      refine hx ?_
      have : x = 0 := by omega
      rw [this]; rfl
    have := (Nat.log2_lt hn).mpr h
    omega
section
variable {X : Cx}
theorem op_fdivB : OpR X (binaryOp .FloorDiv) (rI (fun _ j => 0 < j ∧ ∃ b, b ≤ 8000 ∧ Fit b j) fun i j => .int (i / j)) := opI fun i j _ _ _ _ _ hc q => by
  obtain ⟨h1, b, hb, hf⟩ := hc
  have hn : j.natAbs ≠ 0 := by omega
  have hl : j.natAbs.log2 < 9000 := Nat.lt_of_lt_of_le ((Nat.log2_lt hn).mpr hf) (by omega)
  exact floordiv_int (by omega) (by rw [Int.fdiv_eq_ediv_of_nonneg i (by omega)]; exact q) (.inl (PyProof.noPylong_of_log2 hl))
theorem op_mulB : OpR X (binaryOp .Mult) (rI (fun i j => ∃ b c, b ≤ 1000000 ∧ c ≤ 1000000 ∧ Fit b i ∧ Fit c j) fun i j => .int (i * j)) := opI fun i j _ _ _ _ _ hc q => by
  obtain ⟨b, c, hb, hc, h1, h2⟩ := hc
  exact mul_int q (IntMulOk.of_bits (Nat.le_trans h1.bits (Nat.le_trans hb (by decide))) (Nat.le_trans h2.bits (Nat.le_trans hc (by decide))))
/-- isinstance(x, T), T a type of Python's own -/
theorem call_isi : CallR X (.builtin "isinstance") (fun xs H Q => ∃ x t c b, xs = [x, .ty c] ∧ TyOf X.K H x t ∧ PySem.W.kitOne X.K t (.type c) = some b ∧ Q (.bl b) H) := by
  intro pins s σ H xs us Q I r h
  obtain ⟨x, t, c, b, rfl, ty, hk, q⟩ := h
  obtain ⟨u, w', rfl, r1, r2⟩ := vals2 r
  have e2 : w' = Value.type c := r2
  subst e2
  exact isinst_ok I r1 ty hk fun tk => ⟨.bl b, H, I.tok _, rfl, q⟩
end
theorem kit_same (K : PySem.W.Frag) (T : String) : PySem.W.kitOne K (.type T) (.type T) = some true := by
  unfold PySem.W.kitOne
  rw [if_pos (by simp)]
theorem kit_int_bool (K : PySem.W.Frag) : PySem.W.kitOne K (.type "int") (.type "bool") = some false := by kernel_rfl
end L2

namespace L2
open PySem PySem.Spec PyProof.Rows PySem.W PySem.Calls Builtin Builtin.ObjectAttr Builtin.Getset_descriptor

def ExcO (C e : Addr) (h : Heap) : Prop := ∃ o vs, h.get? e = some o ∧ o.cls = .ref C ∧ o.data = .fields vs
theorem ExcO.ty {C e : Addr} {M : Model} {h : Heap} (p : ExcO C e h) : Looks M h (typeOf (.ref e)) (.ref C) := by
  obtain ⟨o, vs, h1, h2, h3⟩ := p
  exact h2 ▸ (Looks.ld h1).andThen .now

structure ExcK (K : Frag) (C : Addr) : Prop where
  ga : findIn K (.ref C) "__getattribute__" = some (some (.builtin "BaseException.__getattribute__"))
  gt : findIn K (.ref C) "__getattr__" = some none
  ca : findIn K (.ref C) "__class__" = some (some (.builtin "object.__class__"))
  mo : mroIn K C (.type "object") = some true
  mb : mroIn K C (.type "BaseException") = some true
  cl : (clsIn K C).isSome = true
  hn : specialIn K (.builtin "object.__class__") "__get__" = some (some (.builtin "getset_descriptor.__get__"))
  tk : takesIn K (.builtin "object.__class__") = some true

section
variable {prog : Program} {w : World} {A : Around} {E : Value → Shared → Prop} {s : Shared} {K : Frag} {C e : Addr}

theorem exc_class_get {R : Result → Shared → Prop} {tp : Value} (X : K.In s.heap) (Z : ExcK K C) (p : ExcO C e s.heap)
    (h : R (.ok (.ret (.ref C))) s) : codeAny (model prog w) A (.call (.builtin "getset_descriptor.__get__") ⟨[.builtin "object.__class__", .ref e, tp], []⟩) R s := by
  obtain ⟨hh, g, dr, t, os⟩ := s
  have L0 := p.ty (M := model prog w)
  have L1 := looks_mroIn (M := model prog w) X Z.mo
  refine codeAny_call_builtin KF.slot_gs.plain KF.entry_gs (KF.slot_gs.check _ _ _ _ _ _ _ _ KF.type_class (KF.args_gs _ _ _) ?_)
  unfold Builtin.«getset_descriptor.__get__» descrGet
  rw [dga_obj]
  refine wpAny_bind (wpAny_pure ?_)
  unfold descrGetter descrCheckInstance descrNameAndClass isInstance
  simp only [KF.owner_class]
  repeat lk
  refine ⟨Code.quiet_builtin _ (by decide +kernel), codeAny_builtin KF.entry_class ?_⟩
  unfold Builtin.«object.__class__» shownTypeOf
  repeat lk
  exact h

theorem exc_find {M : Model} {h : Heap} (X : K.In h) (Z : ExcK K C) : Looks M h (find (.ref e) (.ref C) "__class__") (.bind (.builtin "getset_descriptor.__get__") (.builtin "object.__class__")) := by
  refine (looks_findIn (M := M) X Z.ca).andThen ((show Looks M h (getOf (some (.builtin "object.__class__"))) (some (.builtin "getset_descriptor.__get__")) from looks_specialIn X Z.hn).andThen ?_)
  exact (show Looks M h (dataDescriptor? (some (.builtin "object.__class__")) (some (.builtin "getset_descriptor.__get__"))) (some (.builtin "getset_descriptor.__get__", .builtin "object.__class__")) from (looks_takesIn (M := M) X Z.tk).andThen .now).andThen (Looks.tag .now)
theorem exc_entry {tk : Tok} {Q : Fin → Shared → Prop} (X : K.In s.heap) (Z : ExcK K C) (p : ExcO C e s.heap) (hq : Q (.done (.ret (.ref C))) s) :
    wpAny (model prog w) A (Builtin.«object.__getattribute__» ⟨[.ref e, .str "__class__" tk], []⟩) Q E s := by
  have L0 := p.ty (M := model prog w)
  have L1 := exc_find (e := e) (M := model prog w) X Z
  unfold Builtin.«object.__getattribute__»
  refine wpAny_bind (wpAny_pure (wpAny_bind (wpAny_pure (wpAny_bind (L0.at (wpAny_bind (L1.at ?_)))))))
  show wpAny _ _ (bindTo _ _ _ _) _ _ _
  unfold bindTo
  show wpAny _ _ (holding [.builtin "object.__class__"] (call (.builtin "getset_descriptor.__get__") [.builtin "object.__class__", .ref e, .ref C]) >>= ret) _ _ _
  exact wpAny_bind (wpAny_holding (wpAny_call (exc_class_get X Z p (wpAny_pure hq))))
theorem exc_check {M : Model} {nameV : Value} {Q : Unit → Shared → Prop} (X : K.In s.heap) (Z : ExcK K C) (p : ExcO C e s.heap) (hq : Q () s) :
    wpAny M A (checkBuiltinCall "BaseException.__getattribute__" ⟨[.ref e, nameV], []⟩) Q E s := by
  obtain ⟨hh, g, dr, t, os⟩ := s
  have L0 := p.ty (M := M)
  have L1 := looks_mroIn (M := M) X Z.mb
  have hk : builtinKind "BaseException.__getattribute__" = some .slot := by decide +kernel
  have hsplit : splitId "BaseException.__getattribute__" = some ("BaseException", "__getattribute__") := by decide +kernel
  have ha := F.args_bexc_ga (.ref e) nameV
  simp only [checkBuiltinCall, hk, hsplit]
  unfold isInstance
  repeat lk
  repeat wp_step
  exact hq
theorem exc_ga_call {tk : Tok} {R : Result → Shared → Prop} (X : K.In s.heap) (Z : ExcK K C) (p : ExcO C e s.heap) (hq : R (.ok (.ret (.ref C))) s) :
    codeAny (model prog w) A (.call (.builtin "BaseException.__getattribute__") ⟨[.ref e, .str "__class__" tk], []⟩) R s :=
  codeAny_call_builtin F.attrBase_ValueError.ga.plain F.entry_bexc_ga (exc_check X Z p (exc_entry X Z p hq))
theorem exc_class {Q : Option Value → Shared → Prop} (X : K.In s.heap) (Z : ExcK K C) (p : ExcO C e s.heap) (h : Q (some (.ref C)) { s with toks := s.toks + 1 }) :
    wpAny (model prog w) A (getAttr? (.ref e) "__class__") Q E s := by
  obtain ⟨hh, g, d, t, os⟩ := s
  have L0 := p.ty (M := model prog w)
  have L1 := looks_findIn (M := model prog w) X Z.ga
  have L2 := looks_findIn (M := model prog w) X Z.gt
  have f3 := F.attrBase_ValueError.ga.bind (.ref e)
  have hx2 : (Value.builtin "BaseException.__getattribute__" == Value.builtin "object.__getattribute__") = false := by decide +kernel
  have hx1 : (onTheHeap (Value.ref C) && Value.builtin "BaseException.__getattribute__" == Value.builtin "object.__getattribute__") = false := by rw [hx2]; rfl
  unfold getAttr? getAttrBy? getAttrBy
  refine wpAny_bind (wpAny_mkText (wpAny_bind (wpAny_attempt (wpAny_holding (wpAny_bind (L0.at (wpAny_bind (L1.at ?_))))))))
  simp only [hx1]
  unfold getAttrByItsOwn hookBefore callGetattribute
  show wpAny _ _ (typeLookup (.ref C) "__getattr__" >>= _) _ _ _
  refine wpAny_bind (L2.at (wpAny_bind (wpAny_attempt (wpAny_holding ?_))))
  show wpAny _ _ (boundAndCalled _ _ _) _ _ _
  unfold boundAndCalled
  rw [f3]
  refine wpAny_bind (wpAny_pure (wpAny_call (exc_ga_call (K := K) X Z p ?_)))
  show wpAny _ _ (handedOut (.ref C)) _ _ _
  exact wpAny_pure (wpAny_pure h)
theorem kitx_exc (Z : ExcK K C) : KitX K (.ref e) (.ref C) (ExcO C e) where
  ty := fun _ _ _ p => p.ty
  it := fun _ _ X _ => by
    obtain ⟨cdD, hcD⟩ := Option.isSome_iff_exists.mp Z.cl
    unfold clsIn at hcD
    split at hcD
    · rename_i c' d' cd' sl' ho
      intro A' Q' E' s' k q
      unfold isType loadHead
      exact wpAny_bind (wpAny_loadPart (k _ _ (X _ _ ho)) (wpAny_pure q))
    · cases hcD
  ne := fun h tp dd its n sl X htp => by
    obtain ⟨cdD, hcD⟩ := Option.isSome_iff_exists.mp Z.cl
    refine Bool.eq_false_iff.mpr fun q => ?_
    have e : C = tp := Value.ref.inj (beq_iff_eq.mp q)
    subst e
    unfold clsIn at hcD
    split at hcD
    · rename_i c' d' cd' sl' ho
      have z := (X _ _ ho).symm.trans htp
      cases z
    · cases hcD
  ca := fun X p k => exc_class X Z p k
end
end L2

namespace L2
open PySem PySem.Spec PyProof.Rows PySem.W

/-! ### exceptions that fly -/
theorem ObjOk.there {P : Program} {w : World} {H : Hp} {h : Heap} {a : Addr} {o : HO} (x : ObjOk P w H h a o) : ∃ ob, h.get? a = some ob := by
  cases o with
  | lst xs => obtain ⟨_, _, _, _, e⟩ := x; exact ⟨_, e⟩
  | tup xs => obtain ⟨_, _, _, ob, e, _⟩ := x; exact ⟨_, e⟩
  | dK kvs => obtain ⟨_, _, _, _, o, _, _, e, _⟩ := x; exact ⟨_, e⟩
  | dT kvs => obtain ⟨_, _, _, _, o, _, _, e, _⟩ := x; exact ⟨_, e⟩
  | set S n => obtain ⟨o, _, _, _, e, _⟩ := x; exact ⟨_, e⟩
  | ins C dx fs => obtain ⟨_, _, _, e, _⟩ := x; exact ⟨_, e⟩
  | own y => obtain ⟨_, e⟩ := x; exact ⟨_, e⟩
  | xd fs => obtain ⟨_, ⟨_, _, _, e, _⟩, _⟩ := x; exact ⟨_, e⟩
  | rng lo hi => obtain ⟨_, _, _, e⟩ := x; exact ⟨_, e⟩
  | frz ob u => obtain ⟨e, _⟩ := x; exact ⟨_, e⟩
  | tbl ps => exact ⟨_, (show h.get? a = some _ from x)⟩
  | met f y => exact ⟨_, (show h.get? a = some _ from x)⟩
  | ext φ => obtain ⟨_, e, _⟩ := x; exact e

/-- how an exception of one of the program's own classes lies behind a call: at a, of the class at C; B: what stays while it flies on -/
def CXE (P : Program) (w : World) : CXT := fun outer H s E e s' =>
  ∃ (a C t : Addr) (B : Heap) (H' : Hp), e = .ref a ∧ s'.os = s.os ∧ AllBare s'.gens ∧ Un (frs outer) [] H H' s.heap s'.heap ∧ HOk P w H' s'.heap ∧
    s.heap.get? a = none ∧ H' a = none ∧ Heap.FlyingW B outer a (.ref C) (.ref t) s'.heap ∧ (∀ b u, H' b = some u → ∃ o, B.get? b = some o) ∧
    (∀ b o, s.heap.get? b = some o → b ∉ frs outer → ∃ o', B.get? b = some o') ∧ E (.ref C) none H'

theorem mem_frs {env : Env} {outer : List Env} {b L : Addr} (hf : env.frame = some L) (hb : b ∈ frs (env :: outer)) : b = L ∨ b ∈ frs outer := by
  unfold frs at hb
  rw [List.filterMap_cons, hf] at hb
  exact List.mem_cons.mp hb
theorem frs_mem {env : Env} {outer : List Env} {b : Addr} (hb : b ∈ frs outer) : b ∈ frs (env :: outer) := by
  unfold frs at hb ⊢
  rw [List.filterMap_cons]
  cases env.frame with
  | none => exact hb
  | some L => exact List.mem_cons_of_mem _ hb

/-- a body that an exception leaves towards E -/
def Leaves (X : Cx) (E : XK) : Prop := ∀ (pins : List (Addr × Obj)) (σ : St) (H : Hp) (s : Shared) (h' : Heap) (a C : Addr) (vs : List Value), Inv X pins σ H s → Heap.MadeExcOf s.heap h' a (.ref C) vs → E (.ref C) none H → X.xe (.ref a) { s with heap := h' }

section
variable {P : Program} {w : World} {K : Frag} {mg : Str → Option Value} {base : Heap} {N : List Str} {qual : Str} {scope : Scope} {f : Addr} {cd : Value} {A : Around} {outer : List Env} {s₀ : Shared} {H₀ : Hp} {E E' : XK}

/-- made in this body, it leaves -/
theorem cx_leaves : Leaves (cxOf (CXE P w) P w K mg base N qual scope f cd A outer s₀ H₀ E) E := by
  intro pins σ H s h' a C vs I hx hE
  have hf : (envOfC qual scope s₀.heap.objs.size f cd).frame = some (envOfC qual scope s₀.heap.objs.size f cd).locals := rfl
  have stk := I.stack
  have sFree := I.stkFree
  have bIn : ∀ b o, s.heap.get? b = some o → b ∉ frs (envOfC qual scope s₀.heap.objs.size f cd :: outer) → (hideAll s.heap (frs (envOfC qual scope s₀.heap.objs.size f cd :: outer))).get? b = some o := fun b o q n => hideAll_get _ q n
  have neL : ∀ b o, s₀.heap.get? b = some o → b ≠ (envOfC qual scope s₀.heap.objs.size f cd).locals := fun b o e => Nat.ne_of_lt (Nat.lt_of_lt_of_le (Heap.lt_size e) I.ok.above)
  have nIn : ∀ b o, s₀.heap.get? b = some o → b ∉ frs outer → b ∉ frs (envOfC qual scope s₀.heap.objs.size f cd :: outer) := fun b o e n z => (mem_frs hf z).elim (neL b o e) n
  have trk : ∀ b u, H b = some u → b ∉ frs (envOfC qual scope s₀.heap.objs.size f cd :: outer) := fun b u e z => by rw [sFree b z] at e; cases e
  refine wpAny_leaves_madeW (base := hideAll s.heap (frs (envOfC qual scope s₀.heap.objs.size f cd :: outer))) (h := s.heap) I.ok.frames hf (fun b o q => of_hideAll _ q)
    (funFrames_hide stk fun env he a ha => List.mem_filterMap.mpr ⟨env, he, ha⟩) hx fun h'' t f1 f2 f3 f4 => ?_
  have keepB : ∀ b o, s.heap.get? b = some o → b ∉ frs (envOfC qual scope s₀.heap.objs.size f cd :: outer) → h''.get? b = some o := fun b o q n => f1.1 b o (bIn b o q n)
  have slotB : ∀ b o, s.heap.get? b = some o → b ∈ frs (envOfC qual scope s₀.heap.objs.size f cd :: outer) → ∃ sl, h''.get? b = some { o with slots := sl } := fun b o q z => by
    obtain ⟨_, o', ho', hnf⟩ := stk.mem z
    rw [q] at ho'; cases ho'
    exact f4 b o (hx.keeps b o q) hnf
  have noA : H a = none := by
    cases q : H a with
    | none => rfl
    | some u =>
      obtain ⟨ob, z⟩ := (I.hok a u q).there
      rw [hx.new] at z; cases z
  have noA0 : s₀.heap.get? a = none := by
    cases q : s₀.heap.get? a with
    | none => rfl
    | some u =>
      obtain ⟨ob, z⟩ := I.base.there a u q (by intro z; exact absurd (show a ∈ ([] : List Addr) from z) (by simp))
      rw [hx.new] at z; cases z
  refine ⟨a, C, t, _, H, rfl, I.os, I.bare, ⟨fun b o q n hb _ => ?_, fun b o q n hb _ => ?_, fun b o q n _ => I.base.free b o q n (by intro z; exact absurd (show b ∈ ([] : List Addr) from z) (by simp)), fun b o q _ => ?_, I.base.tups, I.base.frzs, I.base.tbls⟩, fun b u q => ?_, noA0, noA, f1, fun b u q => ?_, fun b o q n => ?_, hE⟩
  · exact keepB b o (I.base.keep b o q n hb (by intro z; exact absurd (show b ∈ ([] : List Addr) from z) (by simp))) (nIn b o q hb)
  · obtain ⟨sl, e1⟩ := I.base.slot b o q n hb (by intro z; exact absurd (show b ∈ ([] : List Addr) from z) (by simp))
    obtain ⟨sl', e2⟩ := slotB b _ e1 (frs_mem hb)
    exact ⟨sl', e2⟩
  · obtain ⟨o', e1⟩ := I.base.there b o q (by intro z; exact absurd (show b ∈ ([] : List Addr) from z) (by simp))
    by_cases hb : b ∈ frs (envOfC qual scope s₀.heap.objs.size f cd :: outer)
    · obtain ⟨sl, e2⟩ := slotB b o' e1 hb
      exact ⟨_, e2⟩
    · exact ⟨_, keepB b o' e1 hb⟩
  · refine (I.hok b u q).stay (fun c v hc z => keepB c v z ?_) (fun _ z => z) fun _ _ z => z
    rcases hc with rfl | hc
    · exact trk _ _ q
    · exact trk _ _ hc
  · obtain ⟨ob, z⟩ := (I.hok b u q).there
    exact ⟨ob, bIn b ob z (trk b u q)⟩
  · obtain ⟨o', e1⟩ := I.base.there b o q (by intro z; exact absurd (show b ∈ ([] : List Addr) from z) (by simp))
    exact ⟨o', bIn b o' e1 (nIn b o q n)⟩

/-- a callee's exception goes on through this body -/
theorem cx_passes (hE : ∀ c d H, E' c d H → E c d H) : Passes (CXE P w) (cxOf (CXE P w) P w K mg base N qual scope f cd A outer s₀ H₀ E) E' := by
  intro pins σ H s e s' I hc
  obtain ⟨a, C, t, B, H', rfl, os, bare, un, hok, fr, hn, fl, b1, b3, e'⟩ := hc
  have un : Un (frs (envOfC qual scope s₀.heap.objs.size f cd :: outer)) [] H H' s.heap s'.heap := un
  have b3 : ∀ b o, s.heap.get? b = some o → b ∉ frs (envOfC qual scope s₀.heap.objs.size f cd :: outer) → ∃ o', B.get? b = some o' := b3
  have fl : Heap.FlyingW B (envOfC qual scope s₀.heap.objs.size f cd :: outer) a (.ref C) (.ref t) s'.heap := fl
  have hf : (envOfC qual scope s₀.heap.objs.size f cd).frame = some (envOfC qual scope s₀.heap.objs.size f cd).locals := rfl
  have stk := I.stack
  have no : ∀ b : Addr, b ∉ (cxOf (CXE P w) P w K mg base N qual scope f cd A outer s₀ H₀ E).ex := fun b z => absurd (show b ∈ ([] : List Addr) from z) (by simp)
  have neL : ∀ b o, s₀.heap.get? b = some o → b ≠ (envOfC qual scope s₀.heap.objs.size f cd).locals := fun b o e => Nat.ne_of_lt (Nat.lt_of_lt_of_le (Heap.lt_size e) I.ok.above)
  have nIn : ∀ b o, s₀.heap.get? b = some o → b ∉ frs outer → b ∉ frs (envOfC qual scope s₀.heap.objs.size f cd :: outer) := fun b o e n z => (mem_frs hf z).elim (neL b o e) n
  refine wpAny_leaves_onW (base := B) I.ok.frames hf fl fun h'' f1 f4 => ?_
  have stay : ∀ b o, B.get? b = some o → s'.heap.get? b = some o ∧ h''.get? b = some o := fun b o q => ⟨fl.1 b o q, f1.1 b o q⟩
  have noA0 : s₀.heap.get? a = none := by
    cases q : s₀.heap.get? a with
    | none => rfl
    | some u =>
      obtain ⟨ob, z⟩ := I.base.there a u q (no a)
      rw [fr] at z; cases z
  refine ⟨a, C, t, B, H', rfl, os.trans I.os, bare, ⟨fun b o q n hb _ => ?_, fun b o q n hb _ => ?_, fun b o q n _ => ?_, fun b o q _ => ?_, fun b xs q => un.tups b xs (I.base.tups b xs q), fun b o u q => un.frzs b o u (I.base.frzs b o u q), fun b ps q => ?_⟩, fun b u q => ?_, noA0, hn, f1, b1, fun b o q n => ?_, hE _ _ _ e'⟩
  · have e1 := I.base.keep b o q n hb (no b)
    have n1 := I.base.free b o q n (no b)
    have nb := nIn b o q hb
    obtain ⟨o', e2⟩ := b3 b o e1 nb
    have e3 := un.keep b o e1 n1 nb (by simp)
    obtain ⟨e4, e5⟩ := stay b o' e2
    rw [e3] at e4; cases e4
    exact e5
  · obtain ⟨sl, e1⟩ := I.base.slot b o q n hb (no b)
    have n1 := I.base.free b o q n (no b)
    obtain ⟨sl2, e2⟩ := un.slot b _ e1 n1 (frs_mem hb) (by simp)
    obtain ⟨_, o', ho', hnf⟩ := stk.mem (show b ∈ (envOfC qual scope s₀.heap.objs.size f cd :: outer).filterMap (·.frame) from frs_mem hb)
    rw [e1] at ho'; cases ho'
    obtain ⟨sl3, e3⟩ := f4 b _ e2 hnf
    exact ⟨sl3, e3⟩
  · obtain ⟨o', e1⟩ := I.base.there b o q (no b)
    exact un.free b o' e1 (I.base.free b o q n (no b)) (by simp)
  · by_cases hb : b ∈ frs outer
    · obtain ⟨o', e1⟩ := I.base.there b o q (no b)
      obtain ⟨_, o2, ho2, hnf⟩ := fl.2.2.1.mem (show b ∈ (envOfC qual scope s₀.heap.objs.size f cd :: outer).filterMap (·.frame) from frs_mem hb)
      obtain ⟨sl3, e3⟩ := f4 b _ ho2 hnf
      exact ⟨_, e3⟩
    · obtain ⟨o', e1⟩ := I.base.there b o q (no b)
      obtain ⟨o2, e2⟩ := b3 b o' e1 (nIn b o q hb)
      exact ⟨o2, (stay b o2 e2).2⟩
  · obtain ⟨m1, e1⟩ := I.base.tbls b ps q
    obtain ⟨m2, e2⟩ := un.tbls b _ e1
    exact ⟨m1 ++ m2, by rw [e2, Array.append_assoc]⟩
  · refine (hok b u q).stay (fun c v hc z => ?_) (fun _ z => z) fun _ _ z => z
    have hc' : ∃ u', H' c = some u' := by
      rcases hc with rfl | hc
      · exact ⟨_, q⟩
      · exact ⟨_, hc⟩
    obtain ⟨u', hu⟩ := hc'
    obtain ⟨o', e2⟩ := b1 c u' hu
    obtain ⟨e4, e5⟩ := stay c o' e2
    rw [z] at e4; cases e4
    exact e5
  · obtain ⟨o', e1⟩ := I.base.there b o q (no b)
    exact b3 b o' e1 (nIn b o q n)
end

/-! ### raise C("..") -/
abbrev VEs : List Value := [.type "ValueError", .type "Exception", .type "BaseException", .type "object"]
theorem exc_obj {K : Frag} {h : Heap} {C : Addr} {bmB : List Value} {newId : String} (X : K.In h) (q : excIn K C bmB newId = true) :
    ∃ bm N nm q bs hdct sn sub ab col dd k0 k1 k2 k3 k5 mN, h.get? C = some (excClassObj nm q C N bs bm hdct sn sub ab col dd k0 k1 k2 k3 k5 newId) ∧ h.Ns N mN ∧ mN "__init__" = none ∧ OwnTail h bmB bm := by
  unfold excIn at q
  split at q
  · rename_i dd cd sl ho
    split at q
    · rename_i C' bm k0 k1 k2 k3 n k5 hm hs
      simp only [Bool.and_eq_true, beq_iff_eq, Bool.not_eq_true'] at q
      obtain ⟨⟨⟨⟨⟨rfl, rfl⟩, hdel⟩, ht⟩, hok⟩, hni⟩ := q
      obtain ⟨nm, bs, mro, ns, qn, hd, sn, sub, ab, col, del⟩ := cd
      dsimp only at hm hdel hok hni
      subst hm hdel
      have hsl : sl = #[k0, k1, k2, k3, some (.builtin n), k5] := by
        obtain ⟨l⟩ := sl
        simp only at hs
        rw [hs]
      subst hsl
      exact ⟨bm, ns, nm, qn, bs, hd, sn, sub, ab, col, dd, k0, k1, k2, k3, k5, _, X _ _ ho, .of_isNs (isNs_of_in X hok), nsMap_none_of_in X hok hni, tail_of_in X ht⟩
    · cases q
  · cases q

def tRaise (E : XK) (C : Addr) (t : TA) : TS := fun _ σ H => t σ H fun vs H1 => vs.length ≤ sizeLine ∧ E (.ref C) none H1
theorem ps_raise {X : Cx} {E : XK} {x : Str} {C : Addr} {e₀ : Expr} {rest : List Expr} {t : TA} {np cpos pos : Pos} (hl : Leaves X E) (hc : X.calm = true) (hg : Gl X x) (hm : X.mg x = some (.ref C)) (q : excIn X.K C VEs "ValueError.__new__" = true) (ha : PA X (e₀ :: rest) t)
    (hd : (x == ("__debug__" : Str)) = false := by decide) (he : starEach (e₀ :: rest) X.env = (false, eval e₀ X.env) :: starEach rest X.env := by rfl)
    (hpl : (backTo cpos (starEach rest X.env)).any (·.1) = false := by rfl) : PS X (.Raise (some (.Call (.Name x np) (e₀ :: rest) [] cpos)) none pos) (tRaise E C t) := by
  intro pins s σ H D I h
  obtain ⟨tl, N, nm, qn, bs, hdct, sn, sub, ab, col, dd, k0, k1, k2, k3, k5, mN, hC, hN, hni, T⟩ := exc_obj I.mod.kin q
  refine wpAny_Raise_call_subU (C := C) (nm := nm) (q := qn) (N := N) (bs := bs) (bm := tl) (hdct := hdct) (sn := sn) (sub := sub) (ab := ab) (col := col) (dd := dd) (k0 := k0) (k1 := k1) (k2 := k2) (k3 := k3) (k5 := k5)
    F.excBase_ValueError (by decide +kernel) F.excBase_ValueError (mN := mN) (T.hasType F.excBase_ValueError.hasBase) (I.ok.hd hc) (by rw [he]; show (false || (backTo cpos (starEach rest X.env)).any (·.1)) = false; rw [hpl]; rfl) hni (ld_glob I hg hm ⟨rfl, ?_⟩ hd)
  have hp := ha cpos pins s σ H _ I h
  rw [he] at hp ⊢
  refine Calls.evalArgs_plain (wpAny_mono hp (fun us s₂ ⟨vs, H1, I1, r, z, e1⟩ => ?_) fun _ _ y => y)
  exact ⟨rfl, by rw [← r.length]; exact z, I1.bk _ _ hC, hN.keeps I1.bk, T.keeps I1.bk, fun h' a hx => hl pins σ H1 s₂ h' a C us I1 hx e1⟩

/-! ### calls that may raise -/
def CalleeX (P : Program) (w : World) (K : PySem.W.Frag) (mg : Str → Option Value) (base : Heap) (k : Nat) (x : Str) (ps : List Str) (sp : Sp) : Prop :=
  ∃ (f : Addr) (fd : FuncData), FnOk P w K mg base (CXE P w) k f fd ps sp ∧ mg x = some (.ref f) ∧ PySem.W.keepIn K (.ref f) = true ∧ Binds K fd ps []
section
variable {X : Cx} {k : Nat} {x : Str} {ps : List Str} {sp : Sp} {e : Expr} {es : List Expr} {t : TA} {p pos : Pos} {E : XK}
theorem pe_defX (G : CalleeX X.prog X.w X.K X.mg X.base k x ps sp) (hx : Passes (CXE X.prog X.w) X E) (hr : Room k X.A) (hg : Gl X x) (ha : PA X (e :: es) t) (hdb : (x == ("__debug__" : Str)) = false := by decide)
    (he : starEach (e :: es) X.env = (false, eval e X.env) :: starEach es X.env := by rfl) (hpl : (backTo pos (starEach es X.env)).any (·.1) = false := by rfl) : PE X (.Call (.Name x p) (e :: es) [] pos) (tCall sp [] E t) := by
  intro pins s σ H Q I h
  obtain ⟨f, fd, F, hm, hk, hb⟩ := G
  exact pe_call F hr hg hm hk hb .nil hx ha hdb he hpl pins s σ H Q I h
end
section
variable {P : Program} {w : World} {K : PySem.W.Frag} {mg : Str → Option Value} {base : Heap}
theorem DefAt.okX {x : Str} {st : Stmt} {N ps : List Str} {f : Addr} {fd : FuncData} {k : Nat} {sp : Sp} (D : DefAt K mg x st ps f fd) (S : FnScope N ps (defScope st)) (len : ∀ vs H Q E, sp vs H Q E → vs.length = ps.length)
    (hbody : ∀ (cdv : Value) (A : Around) (outer : List Env) (s : Shared) (H : Hp) (vs : List V) (Q : VK) (E : XK), Room k (A.deeper (envOfC x (defScope st) s.heap.objs.size f cdv)) → sp vs H Q E →
      ∃ t, PSs (cxOf (CXE P w) P w K mg base N x (defScope st) f cdv A outer s H E) (defBody st) t ∧ t { nx := fun _ H' => Q .non H', rt := Q } (start N vs) H) : CalleeX P w K mg base (k + 1) x ps sp := by
  obtain ⟨oc, od, kV, doc, pm, an, cdv, ct, osl, e, lk, hcd⟩ := D.fn.ex
  refine ⟨f, fd, ?_, D.there, D.fn.kp, D.bi⟩
  subst e
  exact fn_of lk hcd S len fun A outer s H vs Q E hr hsp => hbody cdv A outer s H vs Q E hr hsp
end

/-! ### try: .. except C0 as n: .. -/
abbrev Cx.tr (X : Cx) (pn : List (Addr × Obj)) (E : Value → Shared → Prop) : Cx := { X with xe := E, pn := pn }
/-- within an except suite -/
abbrev Cx.suite (X : Cx) (a : Addr) : Cx := { X with A := X.A.mark (some (.ref a)), calm := false, xe := fun _ _ => False }
def Ends.gone (D : Ends) (i : Nat) : Ends where
  nx := fun σ H => D.nx (σ.set i none) H
  rt := D.rt
  bk := fun σ H => D.bk (σ.set i none) H
  ct := fun σ H => D.ct (σ.set i none) H
def exOf (K : Frag) (C0 : Addr) (i : Nat) (ts : TS) (D : Ends) (n : Nat) : XK := fun c _ H' =>
  ∃ C, c = .ref C ∧ exmOne K (.ref C) (.ref C0) = some true ∧ ∀ (σ' : St) (a : Addr), σ'.length = n → H' a = none → ts (D.gone i) (σ'.set i (some (.ref a))) (upd H' a (.ext (ExcO C a)))
def tTry (K : Frag) (C0 : Addr) (i : Nat) (tb : XK → TS) (ts : TS) : TS := fun D σ H => tb (exOf K C0 i ts D σ.length) D σ H

section
variable {X : Cx} {pins : List (Addr × Obj)} {σ : St} {H : Hp} {s : Shared}
theorem Cx.Ok.tr (ok : X.Ok) (pn : List (Addr × Obj)) (E : Value → Shared → Prop) : (X.tr pn E).Ok :=
  ⟨ok.mod, ok.kind, ok.glob, ok.blt, ok.above, ok.inj, ok.has, ok.cab, ok.hd, ok.frames, ok.stk, ok.exf, ok.bs, ok.bsz, ok.noex, ok.exfs, ok.funs, ok.frf⟩
theorem Cx.Ok.untr {pn : List (Addr × Obj)} {E : Value → Shared → Prop} (ok : (X.tr pn E).Ok) : X.Ok :=
  ⟨ok.mod, ok.kind, ok.glob, ok.blt, ok.above, ok.inj, ok.has, ok.cab, ok.hd, ok.frames, ok.stk, ok.exf, ok.bs, ok.bsz, ok.noex, ok.exfs, ok.funs, ok.frf⟩
theorem Cx.Ok.suite (ok : X.Ok) (a : Addr) : (X.suite a).Ok :=
  ⟨ok.mod, ok.kind, ok.glob, ok.blt, ok.above, ok.inj, ok.has, ok.cab, (fun z => nomatch z), ok.frames, ok.stk, ok.exf, ok.bs, ok.bsz, ok.noex, ok.exfs, ok.funs, ok.frf⟩
theorem Inv.tr (I : Inv X pins σ H s) (E : Value → Shared → Prop) : Inv (X.tr (X.pn ++ pins) E) [] σ H s :=
  ⟨I.ok.tr _ E, I.os, I.bare, I.base, I.loc, I.cell, I.free, I.freeC, fun p hp => I.pin p (by simpa using hp), I.hok, I.len⟩
theorem Inv.untr {pins' : List (Addr × Obj)} {E : Value → Shared → Prop} (I : Inv (X.tr (X.pn ++ pins) E) pins' σ H s) : Inv X pins σ H s :=
  ⟨I.ok.untr, I.os, I.bare, I.base, I.loc, I.cell, I.free, I.freeC, fun p hp => I.pin p (List.mem_append_left _ hp), I.hok, I.len⟩
theorem Inv.suite (I : Inv X pins σ H s) (a : Addr) : Inv (X.suite a) pins σ H s := ⟨I.ok.suite a, I.os, I.bare, I.base, I.loc, I.cell, I.free, I.freeC, I.pin, I.hok, I.len⟩
theorem Inv.unsuite {a : Addr} (I : Inv (X.suite a) pins σ H s) (ok : X.Ok) : Inv X pins σ H s := ⟨ok, I.os, I.bare, I.base, I.loc, I.cell, I.free, I.freeC, I.pin, I.hok, I.len⟩

/-- the except clause's name goes -/
theorem Inv.gone {M : Model} {A : Around} {E : Value → Shared → Prop} {n : Str} {i : Nat} {pos : Pos} {Q : Unit → Shared → Prop} (I : Inv X pins σ H s) (hN : X.N.Nodup) (hi : X.N[i]? = some n) (hlo : X.env.kindOf n = some .local)
    (h : ∀ s', Inv X pins (σ.set i none) H s' → Q () s') : wpAny M A (do bindName X.env n .none; unbindBehindTheSuite X.env n pos) Q E s := by
  obtain ⟨m, hn, hl⟩ := id I.loc
  have hcls : (X.env.scope.kind == .class || (X.env.scope.kind == .module && X.env.locals != X.env.globals)) = false := by rw [I.ok.kind]; rfl
  refine wpAny_nameGoes_keeps hlo hn hcls fun h' v hn' hs => ?_
  have neL : ∀ b o, X.s₀.heap.get? b = some o → b ≠ X.env.locals := fun b o e => Nat.ne_of_lt (Nat.lt_of_lt_of_le (Heap.lt_size e) I.ok.above)
  refine h _ ⟨I.ok, I.os, I.bare, ⟨fun b o e n hb hx => ?_, fun b o e n hb hx => ?_, I.base.free, fun b o e hx => ?_, I.base.tups, I.base.frzs, I.base.tbls⟩, ⟨_, hn', fun j y v' e1 e2 e3 => ?_⟩, fun y c e => ?_, I.free, I.freeC, fun p hp => ?_, fun b u e => ?_, by simpa using I.len⟩
  · exact (hs.2 b (neL b o e)).trans (I.base.keep b o e n hb hx)
  · obtain ⟨sl, e1⟩ := I.base.slot b o e n hb hx
    exact ⟨sl, (hs.2 b (neL b o e)).trans e1⟩
  · obtain ⟨o', e1⟩ := I.base.there b o e hx
    exact ⟨o', (hs.2 b (neL b o e)).trans e1⟩
  · by_cases hj : j = i
    · subst hj
      have hjl : j < σ.length := by
        rcases Nat.lt_or_ge j σ.length with z | z
        · exact z
        · rw [List.getElem?_eq_none (by simpa using z)] at e2
          cases e2
      rw [List.getElem?_set_self hjl] at e2
      cases e2
    · rw [List.getElem?_set_ne (Ne.symm hj)] at e2
      obtain ⟨u', r', q⟩ := hl j y v' e1 e2 e3
      refine ⟨u', r', ?_⟩
      have ny : y ≠ n := fun e => hj (nodup_ix hN e1 (e ▸ hi))
      rcases q with ⟨k, e⟩ | ⟨k, c, e, z⟩
      · exact .inl ⟨k, by simp [ny, e]⟩
      · exact .inr ⟨k, c, e, z.sameBut hs (I.cne y c e)⟩
  · obtain ⟨v2, z⟩ := I.cell y c e
    exact ⟨v2, z.sameBut hs (I.cne y c e)⟩
  · obtain ⟨e, n1, ne, nf, d⟩ := I.pin p hp
    exact ⟨(hs.2 p.1 ne).trans e, n1, ne, nf, d⟩
  · refine (I.hok b u e).stay (fun c w' hc q => (hs.2 c ?_).trans q) (fun _ q => q) fun _ _ q => q
    rintro rfl
    rcases hc with z | z
    · rw [← z, I.free] at e; cases e
    · rw [I.free] at z; cases z

/-- an exception has come down to this body -/
theorem Inv.landed {s₃ : Shared} {H' : Hp} {a C t : Addr} {B : Heap} {h₆ : Heap} {tk : Nat} (I : Inv X pins σ H s) (os : s₃.os = s.os) (bare : AllBare s₃.gens) (un : Un (frs X.stack) [] H H' s.heap s₃.heap) (hok : HOk X.prog X.w H' s₃.heap)
    (fr : s.heap.get? a = none) (hn : H' a = none) (fl : Heap.FlyingW B X.stack a (.ref C) (.ref t) s₃.heap) (b1 : ∀ b u, H' b = some u → ∃ o, B.get? b = some o) (b3 : ∀ b o, s.heap.get? b = some o → b ∉ frs X.stack → ∃ o', B.get? b = some o')
    (sm : s₃.heap.UpToSlots h₆) (fl₆ : Heap.FlyingW B X.stack a (.ref C) (.ref t) h₆) :
    Inv X pins σ (upd H' a (.ext (ExcO C a))) { s₃ with heap := h₆ } := by
  have stay : ∀ b o, B.get? b = some o → s₃.heap.get? b = some o ∧ h₆.get? b = some o := fun b o q => ⟨fl.1 b o q, fl₆.1 b o q⟩
  have ne : ∀ b u, H' b = some u → b ≠ a := fun b u q z => by rw [z, hn] at q; cases q
  obtain ⟨oe, ws, he, hec, hed, _⟩ := fl₆.first
  refine I.call' (ch := []) os ⟨fun b o q n hb _ => ?_, fun b o q n hb _ => ?_, fun b o q n hx => ?_, fun b o q _ => ?_, fun b xs q => ?_, fun b o u q => ?_, fun b ps q => ?_⟩ (fun b u q => ?_) bare (fun b z => absurd z (by simp))
  · obtain ⟨o', e2⟩ := b3 b o q hb
    have e3 := un.keep b o q n hb (by simp)
    obtain ⟨e4, e5⟩ := stay b o' e2
    rw [e3] at e4; cases e4
    exact e5
  · obtain ⟨sl, e1⟩ := un.slot b o q n hb (by simp)
    obtain ⟨_, o2, ho2, hnf⟩ := fl.2.2.1.mem (show b ∈ X.stack.filterMap (·.frame) from hb)
    rw [e1] at ho2; cases ho2
    obtain ⟨sl3, e3⟩ := sm b _ e1 hnf
    exact ⟨sl3, e3⟩
  · rw [upd_ne (fun z => by rw [z, fr] at q; cases q)]
    exact un.free b o q n hx
  · by_cases hb : b ∈ frs X.stack
    · obtain ⟨_, o2, ho2, hnf⟩ := fl.2.2.1.mem (show b ∈ X.stack.filterMap (·.frame) from hb)
      obtain ⟨sl3, e3⟩ := sm b _ ho2 hnf
      exact ⟨_, e3⟩
    · obtain ⟨o2, e2⟩ := b3 b o q hb
      exact ⟨o2, (stay b o2 e2).2⟩
  · have z := un.tups b xs q
    rw [upd_ne (ne b _ z)]
    exact z
  · have z := un.frzs b o u q
    rw [upd_ne (ne b _ z)]
    exact z
  · obtain ⟨m2, e2⟩ := un.tbls b ps q
    exact ⟨m2, by rw [upd_ne (ne b _ e2)]; exact e2⟩
  · by_cases hb : b = a
    · subst hb
      rw [upd_same] at q
      cases q
      exact ⟨⟨oe, ws, he, hec, hed⟩, ⟨oe, he⟩, fun h1 h2 ⟨o, vs, z1, z2, z3⟩ k => ⟨o, vs, k o z1, z2, z3⟩⟩
    · rw [upd_ne hb] at q
      refine (hok b u q).stay (fun c v hc z => ?_) (fun c z => by rw [upd_ne (ne c _ z)]; exact z) fun c xs z => by rw [upd_ne (ne c _ z)]; exact z
      have hc' : ∃ u', H' c = some u' := by
        rcases hc with rfl | hc
        · exact ⟨_, q⟩
        · exact ⟨_, hc⟩
      obtain ⟨u', hu⟩ := hc'
      obtain ⟨o', e2⟩ := b1 c u' hu
      obtain ⟨e4, e5⟩ := stay c o' e2
      rw [z] at e4; cases e4
      exact e5

theorem ps_try {body suite : List Stmt} {b₀ : Stmt} {x n : Str} {i : Nat} {C0 : Addr} {np hpos pos : Pos} {tb : XK → TS} {ts : TS} (hfr : X.env.frame = some X.env.locals) (hstk : X.stack = X.env :: X.outer)
    (hN : X.N.Nodup) (hi : X.N[i]? = some n) (hlo : X.env.kindOf n = some .local) (hg : Gl X x) (hm : X.mg x = some (.ref C0))
    (hb : ∀ (pn : List (Addr × Obj)) (E' : Value → Shared → Prop) (Ex : XK), Passes (CXE X.prog X.w) (X.tr pn E') Ex → PSs (X.tr pn E') body (tb Ex)) (hs : ∀ a, PSs (X.suite a) (b₀ :: suite) ts)
    (hd : (x == ("__debug__" : Str)) = false := by decide) :
    PS X (.Try body [.ExceptHandler (some (.Name x np)) (some n) (b₀ :: suite) hpos] [] [] pos) (tTry X.K C0 i tb ts) := by
  intro pins s σ H D I h
  refine wpAny_Try_except ?_
  refine wpAny_mono (hb (X.pn ++ pins) _ _ (fun pins₂ σ₂ H₂ s₂ e s₃ I₂ hc => ?_) [] s σ H D (I.tr _) h) (fun f s₁ q => ?_) fun e s₁ q => q
  · obtain ⟨a, C, t, B, H', rfl, os, bare, un, hok, fr, hn, fl, b1, b3, C', eC, em, k⟩ := hc
    cases eC
    have I₃ : Inv X pins σ₂ H₂ s₂ := I₂.untr
    have un : Un (frs X.stack) [] H₂ H' s₂.heap s₃.heap := un
    have b3 : ∀ b o, s₂.heap.get? b = some o → b ∉ frs X.stack → ∃ o', B.get? b = some o' := b3
    have fl : Heap.FlyingW B X.stack a (.ref C) (.ref t) s₃.heap := fl
    have fl' : Heap.FlyingW B (X.env :: X.outer) a (.ref C) (.ref t) s₃.heap := by rw [← hstk]; exact fl
    refine wpAny_looks_onW (base := B) (outer := X.outer) (by rw [← hstk]; exact I₃.ok.frames) hfr fl' fun h₄ held₄ sm₄ => ?_
    refine wpAny_landsW held₄ fun h₅ fl₅ sm₅ => ?_
    have fl₅' : Heap.FlyingW B X.stack a (.ref C) (.ref t) h₅ := by rw [hstk]; exact fl₅
    have I₅ := (I₃.landed (tk := 0) os bare un hok fr hn fl b1 b3 (sm₄.trans sm₅) fl₅').suite a
    have ty : ExcO C a h₅ := by
      obtain ⟨oe, ws, he, hec, hed, _⟩ := fl₅.first
      exact ⟨oe, ws, he, hec, hed⟩
    refine wpAny_handleBy_cons (codeAny_handlers_test (ld_glob (X := X.suite a) I₅ hg hm ?_ hd)) (by intro q; cases q)
    refine (exm_one (K := X.K) (M := model X.prog X.w) I₅.kIn ty.ty em).here ?_
    refine codeAny_handlers_suite_as ?_
    refine lands_againW fl₅ fun h₆ fl₆ sm₆ => ?_
    have fl₆' : Heap.FlyingW B X.stack a (.ref C) (.ref t) h₆ := by rw [hstk]; exact fl₆
    have I₆ := (I₃.landed (tk := 0) os bare un hok fr hn fl b1 b3 ((sm₄.trans sm₅).trans sm₆) fl₆').suite a
    refine store_ok (X := X.suite a) I₆ hN hi (.inl hlo) (show RelV (.ref a) (.ref a) from rfl) (fun s₇ I₇ => ?_) (.inr hlo)
    refine wpAny_mono (hs a pins s₇ _ _ (D.gone i) I₇ (k σ₂ a (by rw [I₃.len, I.len]) hn)) (fun f s₈ q => ?_) fun _ _ z => False.elim z
    have ok := I.ok
    cases f with
    | next => obtain ⟨σ', H1, J, q⟩ := q; exact (J.unsuite ok).gone hN hi hlo fun s₉ J => ⟨_, _, J, q⟩
    | brk => obtain ⟨σ', H1, J, q⟩ := q; exact (J.unsuite ok).gone hN hi hlo fun s₉ J => ⟨_, _, J, q⟩
    | cont => obtain ⟨σ', H1, J, q⟩ := q; exact (J.unsuite ok).gone hN hi hlo fun s₉ J => ⟨_, _, J, q⟩
    | ret u => obtain ⟨v, σ', H1, J, r, q⟩ := q; exact (J.unsuite ok).gone hN hi hlo fun s₉ J => ⟨v, _, _, J, r, q⟩
  · cases f with
    | next => obtain ⟨σ', H1, J, q⟩ := q; exact wpAny_execs_nil ⟨σ', H1, J.untr, q⟩
    | brk => obtain ⟨σ', H1, J, q⟩ := q; exact ⟨σ', H1, J.untr, q⟩
    | cont => obtain ⟨σ', H1, J, q⟩ := q; exact ⟨σ', H1, J.untr, q⟩
    | ret u => obtain ⟨v, σ', H1, J, r, q⟩ := q; exact ⟨v, σ', H1, J.untr, r, q⟩
end
end L2

namespace L2
open PySem PySem.Spec PyProof.Rows PySem.W
/-! ### calls within an except suite: nothing is said of what is handled there -/
structure RoomN (k : Nat) (A : Around) : Prop where
  dp : A.depth + 3 * k + 5 < recursionLimit
  un : A.units + 16 * k + 200 < cLine
theorem Room.n {k : Nat} {A : Around} (r : Room k A) : RoomN k A := ⟨r.dp, r.un⟩
theorem RoomN.mark {k : Nat} {A : Around} (r : RoomN k A) (v : Option Value) : RoomN k (A.mark v) := ⟨r.dp, r.un⟩
theorem RoomN.deeper {k : Nat} {A : Around} (r : RoomN (k + 1) A) (env : Env) : RoomN k (A.deeper env) :=
  ⟨by have := r.dp; show A.depth + 1 + 3 * k + 5 < _; omega, by have := r.un; show A.units + 3 + 16 * k + 200 < _; omega⟩
abbrev Cx.rough (X : Cx) : Cx := { X with calm := false, xe := fun _ _ => False }
structure FnN (P : Program) (w : World) (K : PySem.W.Frag) (mg : Str → Option Value) (base : Heap) (k : Nat) (f : Addr) (fd : FuncData) (ps : List Str) (sp : Sp) : Prop where
  len : ∀ vs H Q E, sp vs H Q E → vs.length = ps.length
  run : ∀ (A : Around) (outer : List Env) (s : Shared) (H : Hp) (args : Args) (us : List Value) (vs : List V) (Q : VK) (E : XK), RoomN k A → Env0 P w K mg base A outer s H → BindsTo s fd args (ps.zip us) → Vals vs us → sp vs H Q E →
    codeAny (model P w) A (.call (.ref f) args) (CR CX0 outer P w H s Q E) s
def CalleeN (P : Program) (w : World) (K : PySem.W.Frag) (mg : Str → Option Value) (base : Heap) (k : Nat) (x : Str) (ps : List Str) (sp : Sp) : Prop :=
  ∃ (f : Addr) (fd : FuncData), FnN P w K mg base k f fd ps sp ∧ mg x = some (.ref f) ∧ PySem.W.keepIn K (.ref f) = true ∧ Binds K fd ps []
section
variable {X : Cx} {k : Nat} {x : Str} {ps : List Str} {sp : Sp} {e : Expr} {es : List Expr} {t : TA} {p pos : Pos}
theorem pe_defN (G : CalleeN X.prog X.w X.K X.mg X.base k x ps sp) (hr : RoomN k X.A) (hg : Gl X x) (ha : PA X (e :: es) t) (hdb : (x == ("__debug__" : Str)) = false := by decide)
    (he : starEach (e :: es) X.env = (false, eval e X.env) :: starEach es X.env := by rfl) (hpl : (backTo pos (starEach es X.env)).any (·.1) = false := by rfl) : PE X (.Call (.Name x p) (e :: es) [] pos) (tCall sp [] E0 t) := by
  intro pins s σ H Q I h
  obtain ⟨f, fd, F, hm, hk, hb⟩ := G
  refine wpAny_Call_Name_kw (ld_glob I hg hm ?_ hdb)
  refine PySem.W.callWith_K (h₀ := X.base) I.ok.mod.kin hk (thn (ha pos pins s σ H _ I h) fun us s1 ⟨vs, H1, I1, r, q⟩ => ⟨I1.kIn, ?_⟩) he hpl
  have r2 : Vals (vs ++ []) (us ++ []) := r.append .nil
  have hl : (us ++ []).length = ps.length := by rw [← r2.length]; exact F.len _ _ _ _ q
  refine wpAny_call (codeAny_mono (F.run X.A X.stack s1 H1 ⟨us, []⟩ (us ++ []) (vs ++ []) Q E0 hr I1.env0 (hb s1 us I1.kIn hl) r2 q) fun r s' hq => ?_)
  cases r with
  | error e => exact False.elim hq
  | ok fl =>
    cases fl with
    | ret u => exact I1.after hq
    | next => exact False.elim hq
    | brk => exact False.elim hq
    | cont => exact False.elim hq
end
section
variable {P : Program} {w : World} {K : PySem.W.Frag} {mg : Str → Option Value} {base : Heap}
theorem DefAt.okN {x : Str} {st : Stmt} {N ps : List Str} {f : Addr} {fd : FuncData} {k : Nat} {sp : Sp} (D : DefAt K mg x st ps f fd) (S : FnScope N ps (defScope st)) (len : ∀ vs H Q E, sp vs H Q E → vs.length = ps.length)
    (hbody : ∀ (cdv : Value) (A : Around) (outer : List Env) (s : Shared) (H : Hp) (vs : List V) (Q : VK) (E : XK), RoomN k (A.deeper (envOfC x (defScope st) s.heap.objs.size f cdv)) → sp vs H Q E →
      ∃ t, PSs (cxOf CX0 P w K mg base N x (defScope st) f cdv A outer s H E).rough (defBody st) t ∧ t { nx := fun _ H' => Q .non H', rt := Q } (start N vs) H) : CalleeN P w K mg base (k + 1) x ps sp := by
  obtain ⟨oc, od, kV, doc, pm, an, cdv, ct, osl, e, lk, hcd⟩ := D.fn.ex
  refine ⟨f, fd, ?_, D.there, D.fn.kp, D.bi⟩
  subst e
  refine ⟨len, fun A outer s H args us vs Q E hr e0 hb r hsp => ?_⟩
  have hl := len _ _ _ _ hsp
  have KX : K.In s.heap := e0.mod.kin.keeps fun b o e => (e0.bs b o e).1
  have lim : s.heap.NoLimit := e0.mod.nolimit.keeps fun b o e => (e0.bs b o e).1
  have hkind : ∀ y ∈ ps.zip us, (defScope st).names.lookup y.1 = some .local ∨ ((defScope st).names.lookup y.1 = some .cell ∧ ((cellsFrom (s.heap.objs.size + 1) (defScope st).names []).lookup y.1).isSome = true) := fun ⟨n, v⟩ hy => by
    rcases S.par n (List.of_mem_zip hy).1 with q | q
    · exact .inl q
    · exact .inr ⟨q, PySem.W.cellsFrom_some _ _ _ (.inl q)⟩
  refine codeAny_call_function (by have := hr.dp; omega) (KX _ _ lk) rfl S.co S.gen rfl (PySem.W.codeRec_of KX hcd) (hb _ _ _ _ ?_)
  refine wpAny_newFunctionEnv_cells S.kind hkind fun env he s1 x1 => ?_
  subst he
  refine ⟨lim.keeps x1.toInCall.keep, codeAny_func ?_⟩
  obtain ⟨t, ht, hq⟩ := hbody cdv A outer s H vs Q E (hr.deeper _) hsp
  have e0' : Env0 P w K mg base { A with handled := none } outer s H := ⟨e0.frames, e0.mod, e0.bs, e0.bsz, e0.funs, e0.frf, e0.hok, e0.bare⟩
  have I0 : Inv (cxOf CX0 P w K mg base N x (defScope st) f cdv { A with handled := none } outer s H E) [] (start N vs) H s1 := inv_start S rfl e0' hl r x1
  have ok := I0.ok
  have I : Inv (cxOf CX0 P w K mg base N x (defScope st) f cdv A outer s H E).rough [] (start N vs) H s1 :=
    ⟨⟨ok.mod, ok.kind, ok.glob, ok.blt, ok.above, ok.inj, ok.has, ok.cab, (fun z => nomatch z), ok.frames, ok.stk, ok.exf, ok.bs, ok.bsz, ok.noex, ok.exfs, ok.funs, ok.frf⟩, I0.os, I0.bare, I0.base, I0.loc, I0.cell, I0.free, I0.freeC, I0.pin, I0.hok, I0.len⟩
  refine wpAny_mono (ht [] s1 (start N vs) H _ I hq) (fun fl s' hs => ?_) fun e s' hs => False.elim hs
  have fin : ∀ {σ' : St} {H' : Hp} {v : V} {u : Value}, Inv (cxOf CX0 P w K mg base N x (defScope st) f cdv A outer s H E).rough [] σ' H' s' → RelV v u → Q v H' → CE outer P w H s Q u s' :=
    fun {σ' H' v u} J rv q => ⟨v, H', J.os, J.bare, J.base, J.hok, rv, q⟩
  cases fl with
  | ret u =>
    obtain ⟨v, σ', H', J, rv, q⟩ := hs
    exact fin J rv q
  | next =>
    obtain ⟨σ', H', J, q⟩ := hs
    exact fin (v := V.non) (u := Value.none) J rfl q
  | brk =>
    obtain ⟨_, _, _, q⟩ := hs
    exact False.elim q
  | cont =>
    obtain ⟨_, _, _, q⟩ := hs
    exact False.elim q
end

/-! ### isinstance of an exception that was caught, and of classes of one's own -/
section
variable {X : Cx}
theorem exc_ok {H : Hp} {h : Heap} {P : Program} {w : World} {a C : Addr} (hok : HOk P w H h) (e : H a = some (.ext (ExcO C a))) : ExcO C a h := (hok a _ e).1
/-- isinstance(e, D): e a caught exception of the class at C -/
theorem call_isX : CallR X (.builtin "isinstance") (fun xs H Q => ∃ a C D b, xs = [.ref a, D] ∧ H a = some (.ext (ExcO C a)) ∧ ExcK X.K C ∧ (∃ c, (D = .ref c ∧ PySem.W.kitOne X.K (.ref C) (.ref c) = some b) ∨ ∃ n, D = .ty n ∧ PySem.W.kitOne X.K (.ref C) (.type n) = some b) ∧ Q (.bl b) H) := by
  intro pins s σ H xs us Q I r h
  obtain ⟨a, C, D, b, rfl, ha, Z, ⟨c, hk⟩, q⟩ := h
  obtain ⟨u, w', rfl, r1, r2⟩ := vals2 r
  cases (show u = Value.ref a from r1)
  have p := exc_ok I.hok ha
  rcases hk with ⟨rfl, hk⟩ | ⟨n, rfl, hk⟩
  · cases (show w' = Value.ref c from r2)
    exact PySem.W.kia_one (kitx_exc Z) I.kIn p hk (fun z => nomatch z) fun tk => ⟨.bl b, H, I.tok _, rfl, q⟩
  · cases (show w' = Value.type n from r2)
    exact PySem.W.kia_one (kitx_exc Z) I.kIn p hk (fun z => nomatch z) fun tk => ⟨.bl b, H, I.tok _, rfl, q⟩
/-- a class of one's own, by its name -/
theorem pe_globR {x : Str} {C : Addr} {pos : Pos} (hg : Gl X x) (hm : X.mg x = some (.ref C)) (hd : (x == ("__debug__" : Str)) = false := by decide) : PE X (.Name x pos) (tC (.ref C)) := pe_glob hg hm rfl hd
end
end L2

namespace L2
open PySem PySem.Spec PyProof.Rows
/-! ### count and index over bools -/
def isB (k : Bool) : Value → Bool
  | .bool b => b == k
  | _ => false
theorem eqAt_bl (A : Around) (s : Shared) (b k : Bool) : SeqAt.EqAt A s (.bool b) (.bool k) (b == k) := by
  have h := SeqAt.EqAt.bool_bool (A := A) (s := s) b k
  cases b <;> cases k <;> exact h
theorem bools_eq {bs : List Bool} {its : List Value} (hb : LSm.BoolsAre its bs) (A : Around) (s : Shared) (k : Bool) : ∀ y, y ∈ its.toArray → SeqAt.EqAt A s y (.bool k) (isB k y) := fun y hy => by
  obtain ⟨i, hi⟩ := List.getElem?_of_mem (show y ∈ its from by simpa using hy)
  obtain ⟨b, _, rfl⟩ := hb.get i y hi
  exact eqAt_bl A s b k
theorem countP_isB (k : Bool) : ∀ {bs : List Bool} {its : List Value}, Vals (bs.map V.bl) its → its.countP (isB k) = bs.count k
  | [], _, r => by cases r; rfl
  | b :: bs, _, r => by
    cases r with
    | cons r1 r2 =>
      cases r1
      rw [List.countP_cons, countP_isB k r2, List.count_cons]
      rfl
section
variable {X : Cx}
/-- xs.count(b) of bools -/
theorem mt_countB : MtM X "list.count" (fun x vs H Q => ∃ (p : Addr) (bs : List Bool) (k : Bool), x = .ref p ∧ vs = [.bl k] ∧ SqL X.K H p (bs.map V.bl) ∧ Q (.int (bs.count k : Nat)) H) := by
  intro pins s σ H x vs v us Q I rx rv h
  obtain ⟨p, bs, k, rfl, rfl, hq, q⟩ := h
  cases rx
  obtain ⟨u, rfl, ru⟩ := rv.one
  cases ru
  obtain ⟨its, r', pl, hz⟩ := I.list hq
  obtain ⟨⟨cls, dd, data, sl⟩, ho, hc, n, hd⟩ := pl.isList
  simp only at hc hd
  subst hc hd
  refine call_meets PySem.F.slot_list_count ⟨_, ho, rfl⟩ PySem.F.entry_list_count (PySem.F.args_list_count_2 _ _) (SeqAt.list_countAt p its.toArray n dd sl (.bool k) (isB k)) ⟨ho, bools_eq (vals_to_bools r') _ _ k, ?_⟩
  rw [show its.toArray.toList = its from rfl, countP_isB k r']
  exact ⟨.int _, H, I.tok _, ⟨_, rfl⟩, q⟩
/-- xs.index(b) of bools, where it is -/
theorem mt_indexB : MtM X "list.index" (fun x vs H Q => ∃ (p : Addr) (bs : List Bool) (k : Bool) (j : Nat), x = .ref p ∧ vs = [.bl k] ∧ SqL X.K H p (bs.map V.bl) ∧ bs.length ≤ 1000 ∧ bs[j]? = some k ∧ (∀ m, m < j → bs[m]? ≠ some k) ∧ Q (.int (j : Nat)) H) := by
  intro pins s σ H x vs v us Q I rx rv h
  obtain ⟨p, bs, k, j, rfl, rfl, hq, hlen, hj, hno, q⟩ := h
  cases rx
  obtain ⟨u, rfl, ru⟩ := rv.one
  cases ru
  obtain ⟨its, r', pl, hz⟩ := I.list hq
  have hb := vals_to_bools r'
  have hl := hb.length
  obtain ⟨⟨cls, dd, data, sl⟩, ho, hc, n, hd⟩ := pl.isList
  simp only at hc hd
  subst hc hd
  have hjl : j < bs.length := (List.getElem?_eq_some_iff.mp hj).1
  have at' : ∀ m (hm : m < its.length), ∃ b, bs[m]? = some b ∧ its[m] = .bool b := fun m hm => hb.get m its[m] (List.getElem?_eq_getElem hm)
  refine call_meets PySem.F.slot_list_index ⟨_, ho, rfl⟩ PySem.F.entry_list_index (PySem.F.args_list_index_2 _ _)
    (SeqAt.list_indexAt p its.toArray n dd sl (.bool k) (isB k) j (by simpa [hl] using hjl) (by omega) ?_ ?_) ⟨ho, bools_eq hb _ _ k, ⟨.int _, H, I.tok _, ⟨_, rfl⟩, q⟩⟩
  · obtain ⟨b, e1, e2⟩ := at' j (by rw [hl]; exact hjl)
    rw [hj] at e1
    cases e1
    show isB k its[j] = true
    rw [e2]
    exact beq_self_eq_true k
  · intro m hm hlt
    have hm' : m < its.length := by simpa using hm
    obtain ⟨b, e1, e2⟩ := at' m hm'
    show isB k its[m] = false
    rw [e2]
    refine beq_eq_false_iff_ne.mpr fun z => hno m hlt ?_
    rw [e1, z]
end
end L2

/-! what the laws' own helpers promise (the same in every law) -/
namespace SH
open PySem L2
/-- a row, a table as the document's point 2 has it -/
structure GoodRow (m : Nat) (row : List Int) : Prop where
  len : row.length = m
  wts : ∀ x ∈ row, 0 ≤ x ∧ x ≤ 9
  some' : ∃ x ∈ row, x ≠ 0
structure House (t : List (List Int)) : Prop where
  lo : 1 ≤ t.length
  hi : t.length ≤ 8
  rows : ∀ row ∈ t, GoodRow t.length row
/-- the state while a table is made: the script at a, the spot at p -/
structure Bd (K : PySem.W.Frag) (H0 : Hp) (a : Addr) (ns : List Int) (p : Addr) (H : Hp) (k : Int) : Prop where
  sc0 : Scr K H0 a ns
  p0 : ∃ xs, H0 p = some (.lst xs)
  ext : Ext [p] H0 H
  spot : H p = some (.lst [.int k])
  k0 : 0 ≤ k
section
variable {K : PySem.W.Frag} {H0 H : Hp} {a p b : Addr} {ns : List Int} {k : Int} {o : HO}
theorem Bd.start (h1 : Scr K H a ns) (h2 : H p = some (.lst [.int k])) (h3 : 0 ≤ k) : Bd K H a ns p H k := ⟨h1, ⟨_, h2⟩, Ext.refl _ _, h2, h3⟩
theorem Bd.sc (B : Bd K H0 a ns p H k) : Scr K H a ns := let ⟨_, e⟩ := B.p0; B.sc0.ext e B.ext
theorem Bd.next (B : Bd K H0 a ns p H k) : Bd K H0 a ns p (upd H p (.lst [.int (k + 1)])) (k + 1) := ⟨B.sc0, B.p0, B.ext.at (by simp), upd_same, by have := B.k0; omega⟩
theorem Bd.old (B : Bd K H0 a ns p H k) (h : H b = none) : H0 b = none := by
  cases e : H0 b with
  | none => rfl
  | some u =>
    by_cases hb : b = p
    · rw [hb, B.spot] at h; cases h
    · rw [B.ext b u e (by simpa using hb)] at h; cases h
theorem Bd.ne (B : Bd K H0 a ns p H k) (h : H0 b = none) : b ≠ p := fun z => by
  obtain ⟨xs, e⟩ := B.p0
  rw [z, e] at h; cases h
theorem Bd.own (B : Bd K H0 a ns p H k) (h : H0 b = none) : Bd K H0 a ns p (upd H b o) k :=
  ⟨B.sc0, B.p0, B.ext.new h, by rw [upd_ne (Ne.symm (B.ne h))]; exact B.spot, B.k0⟩
theorem Bd.new (B : Bd K H0 a ns p H k) (h : H b = none) : Bd K H0 a ns p (upd H b o) k := B.own (B.old h)
end
/-- a table of our own while it is made -/
structure Own (H0 H : Hp) (q : Addr) (rs : List Addr) (t : List (List Int)) : Prop where
  tab : Tab H q rs t
  nq : H0 q = none
  nr : ∀ r ∈ rs, H0 r = none
theorem Own.off {H0 H : Hp} {q b : Addr} {rs : List Addr} {t : List (List Int)} {o : HO} (h : Own H0 H q rs t) (hb : H0 b ≠ none) : Own H0 (upd H b o) q rs t :=
  ⟨h.tab.off (fun z => hb (z ▸ h.nq)) (fun z => hb (h.nr _ z)), h.nq, h.nr⟩
theorem Own.new {H0 H : Hp} {q b : Addr} {rs : List Addr} {t : List (List Int)} {o : HO} (h : Own H0 H q rs t) (hb : H b = none) : Own H0 (upd H b o) q rs t := ⟨h.tab.new hb, h.nq, h.nr⟩
theorem Own.spot {K : PySem.W.Frag} {H0 H : Hp} {a p q : Addr} {ns : List Int} {k : Int} {rs : List Addr} {t : List (List Int)} {o : HO} (B : Bd K H0 a ns p H k) (h : Own H0 H q rs t) : Own H0 (upd H p o) q rs t :=
  h.off (by obtain ⟨xs, e⟩ := B.p0; rw [e]; simp)

def spCell (K : PySem.W.Frag) : Sp := fun vs H Q _ => ∃ (a : Addr) (ns : List Int) (k : Int), vs = [.ref a, .int k] ∧ SqL K H a (ns.map V.int) ∧ 0 ≤ k ∧ ∀ n : Int, Q (.int n) H
def spNext (K : PySem.W.Frag) : Sp := fun vs H Q _ => ∃ (a p : Addr) (ns : List Int) (k : Int), vs = [.ref a, .ref p] ∧ Scr K H a ns ∧ H p = some (.lst [.int k]) ∧ 0 ≤ k ∧ ∀ n : Int, Q (.int n) (upd H p (.lst [.int (k + 1)]))
def spWeight : Sp := fun vs H Q _ => ∃ (c s : Int), vs = [.int c, .int s] ∧ ∀ x : Int, 0 ≤ x → x ≤ 9 → Q (.int x) H
def spMake (K : PySem.W.Frag) : Sp := fun vs H Q _ => ∃ (a p : Addr) (ns : List Int) (k m : Int), vs = [.ref a, .ref p, .int m] ∧ Scr K H a ns ∧ H p = some (.lst [.int k]) ∧ 0 ≤ k ∧ 1 ≤ m ∧ m ≤ 8 ∧
  ∀ (H' : Hp) (q : Addr) (rs : List Addr) (t : List (List Int)) (k' : Int), Bd K H a ns p H' k' → Own H H' q rs t → House t → (t.length : Int) = m → Q (.ref q) H'
def spHouse (K : PySem.W.Frag) : Sp := fun vs H Q _ => ∃ (a p : Addr) (ns : List Int) (k : Int) (m : Int), vs = [.ref a, .ref p, .int m] ∧ Scr K H a ns ∧ H p = some (.lst [.int k]) ∧ 0 ≤ k ∧ 1 ≤ m ∧ m ≤ 8 ∧
  ∀ (H' : Hp) (q : Addr) (rs : List Addr) (t : List (List Int)) (k' : Int), Bd K H a ns p H' k' → Own H H' q rs t → House t → (t.length : Int) ≤ m → Q (.ref q) H'

/-! small facts -/
theorem ixN_of {n : Nat} {i : Int} (h0 : 0 ≤ i) (h1 : i < n) : ixN n i = some i.toNat := by
  unfold ixN
  rw [if_pos h0, if_pos h1]
theorem atI_pos {α : Type} {xs : List α} {i : Int} {v : α} (h0 : 0 ≤ i) (h : xs[i.toNat]? = some v) : atI xs i = some v := by
  have := atI_nat h
  rwa [Int.toNat_of_nonneg h0] at this
theorem sum_zero : ∀ {l : List Int}, (∀ x ∈ l, x = 0) → l.sum = 0
  | [], _ => rfl
  | x :: l, h => by
    rw [List.sum_cons, h x List.mem_cons_self, sum_zero fun y hy => h y (List.mem_cons_of_mem _ hy)]
    rfl
theorem nonzero_of_sum {l : List Int} (h : l.sum ≠ 0) : ∃ x ∈ l, x ≠ 0 := by
  refine Classical.byContradiction fun q => h (sum_zero fun x hx => ?_)
  exact Classical.byContradiction fun z => q ⟨x, hx, z⟩
theorem set_map (l : List Int) (j : Nat) (v : Int) : (l.map V.int).set j (.int v) = (l.set j v).map V.int := by rw [List.map_set]
theorem mem_set_or {α : Type} {l : List α} {j : Nat} {v x : α} (h : x ∈ l.set j v) : x ∈ l ∨ x = v := List.mem_or_eq_of_mem_set h
theorem GoodRow.set {m : Nat} {row : List Int} {j : Nat} {v : Int} (hl : row.length = m) (hw : ∀ x ∈ row, 0 ≤ x ∧ x ≤ 9) (hj : j < row.length) (h1 : 1 ≤ v) (h9 : v ≤ 9) : GoodRow m (row.set j v) := by
  refine ⟨by rw [List.length_set]; exact hl, fun x hx => ?_, v, ?_, by omega⟩
  · rcases mem_set_or hx with h | h
    · exact hw x h
    · rw [h]; omega
  · exact List.mem_iff_getElem.mpr ⟨j, by rw [List.length_set]; exact hj, by simp⟩
/-- an item of the table's row i: its place, its content -/
theorem Own.at {H0 H : Hp} {q : Addr} {rs : List Addr} {t : List (List Int)} {i : Nat} (O : Own H0 H q rs t) (hi : i < t.length) : ∃ r row, rs[i]? = some r ∧ t[i]? = some row ∧ (rs.map V.ref)[i]? = some (.ref r) ∧ H r = some (.lst (row.map V.int)) ∧ H0 r = none := by
  have hi' : i < rs.length := by rw [O.tab.len]; exact hi
  have e : rs[i]? = some rs[i] := by simp [hi']
  obtain ⟨row, h1, h2⟩ := pr_get O.tab.rows e
  exact ⟨rs[i], row, e, h1, by rw [List.getElem?_map, e]; rfl, h2, O.nr _ (List.getElem_mem hi')⟩
theorem Own.row {H0 H : Hp} {q r : Addr} {rs : List Addr} {t : List (List Int)} {i : Nat} {row : List Int} (O : Own H0 H q rs t) (hr : rs[i]? = some r) : Own H0 (upd H r (.lst (row.map V.int))) q rs (t.set i row) := ⟨O.tab.row hr, O.nq, O.nr⟩
theorem Own.push {H0 H : Hp} {q r : Addr} {rs : List Addr} {t : List (List Int)} {row : List Int} (O : Own H0 H q rs t) (hr : H r = some (.lst (row.map V.int))) (h0 : H0 r = none) (hn : r ∉ rs) (hq : r ≠ q) : Own H0 (upd H q (.lst ((rs ++ [r]).map V.ref))) q (rs ++ [r]) (t ++ [row]) :=
  ⟨O.tab.push hr hn hq, O.nq, fun x hx => by
    rcases List.mem_append.mp hx with h | h
    · exact O.nr x h
    · rw [List.mem_singleton.mp h]; exact h0⟩
theorem Own.notIn {H0 H : Hp} {q r : Addr} {rs : List Addr} {t : List (List Int)} (O : Own H0 H q rs t) (h : H r = none) : r ∉ rs ∧ r ≠ q := by
  refine ⟨fun hr => ?_, fun z => ?_⟩
  · obtain ⟨row, _, e⟩ := O.tab.there hr
    rw [h] at e; cases e
  · rw [z, O.tab.top] at h; cases h
/-- a store into something of ours that is no part of the table -/
theorem Own.mine {H0 H : Hp} {q r : Addr} {rs : List Addr} {t : List (List Int)} {o : HO} (O : Own H0 H q rs t) (hn : r ∉ rs) (hq : r ≠ q) : Own H0 (upd H r o) q rs t := ⟨O.tab.off hq hn, O.nq, O.nr⟩
theorem Own.sq {K : PySem.W.Frag} {H0 H : Hp} {q : Addr} {rs : List Addr} {t : List (List Int)} (O : Own H0 H q rs t) : SqL K H q (rs.map V.ref) := SqL.of O.tab.top

/-! a square of numbers by places -/
def mat (t : List (List Int)) (i j : Nat) : Int := (t.getD i []).getD j 0
structure Sq (m : Nat) (t : List (List Int)) : Prop where
  len : t.length = m
  rows : ∀ row ∈ t, row.length = m ∧ ∀ x ∈ row, 0 ≤ x ∧ x ≤ 3
/-- rows 1 .. i - 1 have something ahead of their own place -/
def NZ (i : Nat) (t : List (List Int)) : Prop := ∀ i', 1 ≤ i' → i' < i → ∃ j', j' < i' ∧ mat t i' j' ≠ 0
theorem mat_set {t : List (List Int)} {i j : Nat} {row : List Int} {v : Int} (hr : t[i]? = some row) (i' j' : Nat) : mat (t.set i (row.set j v)) i' j' = if i' = i ∧ j' = j ∧ j < row.length then v else mat t i' j' := by
  have hi : i < t.length := (List.getElem?_eq_some_iff.mp hr).1
  have hrow : t[i] = row := (List.getElem?_eq_some_iff.mp hr).2
  unfold mat
  simp only [List.getD_eq_getElem?_getD]
  by_cases e : i' = i
  · subst e
    rw [List.getElem?_set_self hi, hr]
    simp only [Option.getD_some]
    by_cases ej : j' = j
    · subst ej
      by_cases hj : j' < row.length
      · simp [List.getElem?_set_self hj, hj]
      · rw [if_neg (fun z => hj z.2.2), List.getElem?_eq_none (by rw [List.length_set]; omega), List.getElem?_eq_none (by omega)]
    · rw [List.getElem?_set_ne (Ne.symm ej), if_neg (fun z => ej z.2.1)]
  · rw [List.getElem?_set_ne (Ne.symm e), if_neg (fun z => e z.1)]
theorem Sq.set {m : Nat} {t : List (List Int)} {i j : Nat} {row : List Int} {v : Int} (S : Sq m t) (hr : t[i]? = some row) (h0 : 0 ≤ v) (h3 : v ≤ 3) : Sq m (t.set i (row.set j v)) := by
  refine ⟨by rw [List.length_set]; exact S.len, fun x hx => ?_⟩
  have q := S.rows row (List.mem_of_getElem? hr)
  rcases mem_set_or hx with h | h
  · exact S.rows x h
  · subst h
    refine ⟨by rw [List.length_set]; exact q.1, fun y hy => ?_⟩
    rcases mem_set_or hy with z | z
    · exact q.2 y z
    · rw [z]; exact ⟨h0, h3⟩
theorem NZ.set {n : Nat} {t : List (List Int)} {i j : Nat} {row : List Int} {v : Int} (Z : NZ n t) (hr : t[i]? = some row) (h : n ≤ i ∨ n ≤ j ∨ i = 0 ∨ v ≠ 0) : NZ n (t.set i (row.set j v)) := by
  intro i' h1 h2
  obtain ⟨j', h3, h4⟩ := Z i' h1 h2
  refine ⟨j', h3, ?_⟩
  rw [mat_set hr]
  split
  · rename_i q
    obtain ⟨q1, q2, q3⟩ := q
    rcases h with h | h | h | h
    · omega
    · omega
    · omega
    · exact h
  · exact h4
theorem mat_of {t : List (List Int)} {i j : Nat} {row : List Int} {x : Int} (h : t[i]? = some row) (h' : row[j]? = some x) : mat t i j = x := by
  unfold mat
  simp only [List.getD_eq_getElem?_getD]
  rw [h]
  simp only [Option.getD_some]
  rw [h']
  rfl
theorem cut_take (xs : List V) (i : Nat) : cutV xs none (some (i : Int)) = xs.take i := by
  unfold cutV
  rw [HT.sIx_none, HT.sIx_nat, List.drop_zero, Nat.sub_zero]
  by_cases h : i ≤ xs.length
  · rw [Nat.min_eq_left h]
  · rw [Nat.min_eq_right (by omega), List.take_length, List.take_of_length_le (by omega)]

theorem mat_mem {t : List (List Int)} {i j : Nat} {row : List Int} (h : t[i]? = some row) (h' : mat t i j ≠ 0) : ∃ x ∈ row, x ≠ 0 := by
  unfold mat at h'
  simp only [List.getD_eq_getElem?_getD] at h'
  rw [h] at h'
  simp only [Option.getD_some] at h'
  cases e : row[j]? with
  | none => rw [e] at h'; exact absurd rfl h'
  | some x => rw [e] at h'; exact ⟨x, List.mem_of_getElem? e, h'⟩
def scaleV (k : Int) : V → V
  | .int x => .int (x * k)
  | _ => .non
theorem map_scale (k : Int) (row : List Int) : (((row.map V.int).filter fun _ => true).map (scaleV k)) = (row.map (· * k)).map V.int := by
  induction row with
  | nil => rfl
  | cons x r ih =>
    simp only [List.map_cons, List.filter_cons, if_true] at ih ⊢
    rw [ih]
    rfl
theorem good_scaled {m : Nat} {row : List Int} {k : Int} (hl : row.length = m) (hw : ∀ x ∈ row, 0 ≤ x ∧ x ≤ 3) (hn : ∃ x ∈ row, x ≠ 0) (k1 : 1 ≤ k) (k3 : k ≤ 3) : GoodRow m (row.map (· * k)) := by
  have kk : k = 1 ∨ k = 2 ∨ k = 3 := by omega
  refine ⟨by rw [List.length_map]; exact hl, fun y hy => ?_, ?_⟩
  · obtain ⟨x, hx, rfl⟩ := List.mem_map.mp hy
    have := hw x hx
    show 0 ≤ x * k ∧ x * k ≤ 9
    rcases kk with rfl | rfl | rfl <;> omega
  · obtain ⟨x, hx, x0⟩ := hn
    refine ⟨x * k, List.mem_map.mpr ⟨x, hx, rfl⟩, ?_⟩
    rcases kk with rfl | rfl | rfl <;> omega
theorem ref_at {rs : List Addr} {i : Nat} {x : V} (hx : (rs.map V.ref)[i]? = some x) : ∃ r, rs[i]? = some r ∧ x = V.ref r := by
  rw [List.getElem?_map] at hx
  cases z : rs[i]? with
  | none => rw [z] at hx; cases hx
  | some r => rw [z] at hx; exact ⟨r, rfl, (Option.some.inj hx).symm⟩
theorem off0 (i : Nat) : (0 + (i : Int)).toNat = i := by omega

theorem Bd.trans {K : PySem.W.Frag} {H0 H1 H2 : Hp} {a p : Addr} {ns : List Int} {k1 k2 : Int} (A : Bd K H0 a ns p H1 k1) (B : Bd K H1 a ns p H2 k2) : Bd K H0 a ns p H2 k2 := ⟨A.sc0, A.p0, A.ext.trans B.ext, B.spot, B.k0⟩
theorem Own.trans {K : PySem.W.Frag} {H0 H1 H2 : Hp} {a p q : Addr} {ns : List Int} {k1 : Int} {rs : List Addr} {t : List (List Int)} (A : Bd K H0 a ns p H1 k1) (O : Own H1 H2 q rs t) : Own H0 H2 q rs t := ⟨O.tab, A.old O.nq, fun r h => A.old (O.nr r h)⟩
theorem House.set {t : List (List Int)} {i j : Nat} {row : List Int} {v : Int} (h : House t) (hr : t[i]? = some row) (hj : j < row.length) (h1 : 1 ≤ v) (h9 : v ≤ 9) : House (t.set i (row.set j v)) := by
  refine ⟨by rw [List.length_set]; exact h.lo, by rw [List.length_set]; exact h.hi, fun x hx => ?_⟩
  rw [List.length_set]
  have g := h.rows row (List.mem_of_getElem? hr)
  rcases mem_set_or hx with z | z
  · exact h.rows x z
  · subst z
    exact GoodRow.set g.len g.wts hj h1 h9
/-! rows put in, taken out, put elsewhere -/
theorem pr_cat {α β : Type} {F : α → β → Prop} : ∀ {l l' : List α} {m m' : List β}, Paired F l m → Paired F l' m' → Paired F (l ++ l') (m ++ m')
  | _, _, _, _, .nil, h => h
  | _, _, _, _, .cons r t, h => .cons r (pr_cat t h)
theorem pr_take {α β : Type} {F : α → β → Prop} : ∀ {l : List α} {m : List β} (i : Nat), Paired F l m → Paired F (l.take i) (m.take i)
  | _, _, 0, _ => .nil
  | _, _, _ + 1, .nil => .nil
  | _, _, i + 1, .cons r t => .cons r (pr_take i t)
theorem pr_drop {α β : Type} {F : α → β → Prop} : ∀ {l : List α} {m : List β} (i : Nat), Paired F l m → Paired F (l.drop i) (m.drop i)
  | _, _, 0, h => h
  | _, _, _ + 1, .nil => .nil
  | _, _, i + 1, .cons _ t => pr_drop i t
def Small (n : Nat) (t : List (List Int)) : Prop := t.length ≤ n ∧ ∀ row ∈ t, row.length ≤ n
/-- [list(row) for row in table] -/
theorem comp_copy {K : PySem.W.Frag} {H : Hp} {q D : Addr} {rs : List Addr} {t : List (List Int)} {te : TE} {σ0 : St} {Q : VK} (tab : Tab H q rs t) (sm : t.length ≤ 1000) (hD : H D = none)
    (hte : ∀ (x : V) (H' : Hp) (R : VK), (∃ p ys, x = .ref p ∧ SqL K H' p ys ∧ ∀ l, H' l = none → R (.ref l) (upd H' l (.lst ys))) → te (σ0.set 0 (some x)) H' R)
    (hd : ∀ (H' : Hp) (rs' : List Addr), Same H H' → Tab H' D rs' t → (∀ r ∈ rs', H r = none) → Q (.ref D) H') : tCompL (Itl K q) (gName 0) tYes te D σ0 H Q := by
  have hl : rs.length = t.length := tab.len
  have hlm : (rs.map V.ref).length = t.length := by rw [List.length_map]; exact hl
  refine comp_list (xs := rs.map V.ref) (fun i ys H' => ∃ rs' : List Addr, ys = rs'.map V.ref ∧ Same H H' ∧ H' D = some (.lst ys) ∧ rs'.Nodup ∧ Paired (IsRow H') rs' (t.take i) ∧ (∀ r ∈ rs', H r = none) ∧ D ∉ rs')
    (by rw [hlm]; exact Nat.le_of_lt (small1000 sm)) ⟨[], rfl, Same.upd_new hD, upd_same, List.nodup_nil, .nil, by simp, by simp⟩ (fun i ys H' hi ⟨rs', e, s1, _, _, pr, _⟩ => ⟨s1.seq (SqL.of tab.top), ?_⟩) ?_ ?_
  · rw [e, List.length_map, Paired.length pr, List.length_take]
    omega
  · rintro i x ys H' hx ⟨rs', rfl, s1, e1, nd, pr, h0, nD⟩
    obtain ⟨r, hr', rfl⟩ := ref_at hx
    obtain ⟨row, h3, h4⟩ := pr_get tab.rows hr'
    refine hte _ _ _ ⟨r, row.map V.int, rfl, SqL.of (s1 _ _ h4), fun l hl' => ?_⟩
    have l0 := s1.free hl'
    have nl : l ≠ D := fun z => by rw [z, e1] at hl'; cases hl'
    have nls : l ∉ rs' := fun z => by
      obtain ⟨i', hi'⟩ := List.getElem?_of_mem z
      obtain ⟨b, _, e⟩ := pr_get pr hi'
      rw [show H' l = _ from e] at hl'; cases hl'
    refine ⟨by rw [upd_ne (Ne.symm nl)]; exact e1, rs' ++ [l], by rw [List.map_append]; rfl, ?_, upd_same, ?_, ?_, ?_, ?_⟩
    · intro b o hb
      rw [upd_ne (ne_of_none hb hD), upd_ne (ne_of_none hb l0)]
      exact s1 _ _ hb
    · exact List.nodup_append.mpr ⟨nd, by simp, fun a ha b hb => by
        rw [List.mem_singleton.mp hb]
        exact fun z => nls (z ▸ ha)⟩
    · rw [List.take_add_one, h3]
      refine Paired.snoc (pr_imp pr fun a row' ha e => ?_) ?_
      · show upd (upd H' l _) D _ a = _
        rw [upd_ne (show a ≠ D from fun z => nD (z ▸ ha)), upd_ne (show a ≠ l from fun z => nls (z ▸ ha))]
        exact e
      · show upd (upd H' l _) D _ l = _
        rw [upd_ne nl, upd_same]
    · intro x hx
      rcases List.mem_append.mp hx with h | h
      · exact h0 x h
      · rw [List.mem_singleton.mp h]; exact l0
    · intro hx
      rcases List.mem_append.mp hx with h | h
      · exact nD h
      · exact nl (List.mem_singleton.mp h).symm
  · rintro ys H' ⟨rs', rfl, s1, e1, nd, pr, h0, nD⟩
    rw [hlm, List.take_length] at pr
    exact hd H' rs' s1 ⟨e1, pr, nd⟩ h0

/-- the same answer, written otherwise -/
theorem blq {Q : VK} {a b : Bool} {H : Hp} (h : Q (.bl a) H) (e : a = b) : Q (.bl b) H := e ▸ h
end SH

/-! the mathematics of parts and steps -/
namespace SH
open PySem L2
/-! ### gcd, lcm, lowest terms -/
theorem ediv_cast (a b : Nat) : ((a : Int) / (b : Int)) = ((a / b : Nat) : Int) := rfl
/-- one / gcd * other -/
theorem lcm_way (a b : Nat) : (a : Int) / ((Int.gcd a b : Nat) : Int) * (b : Int) = ((Nat.lcm a b : Nat) : Int) := by
  rw [Int.gcd_natCast_natCast, ediv_cast, ← Int.natCast_mul]
  congr 1
  unfold Nat.lcm
  exact (Nat.div_mul_right_comm (Nat.gcd_dvd_left a b) b)
/-- one * other / gcd -/
theorem lcm_way' (a b : Nat) : (a : Int) * (b : Int) / ((Int.gcd a b : Nat) : Int) = ((Nat.lcm a b : Nat) : Int) := by
  rw [Int.gcd_natCast_natCast, ← Int.natCast_mul, ediv_cast]
  rfl
def lcmN (ns : List Nat) : Nat := ns.foldl Nat.lcm 1
theorem foldl_lcm_pos : ∀ (ns : List Nat) (j : Nat), 0 < j → (∀ n ∈ ns, 0 < n) → 0 < ns.foldl Nat.lcm j
  | [], _, hj, _ => hj
  | n :: ns, j, hj, h => foldl_lcm_pos ns _ (Nat.lcm_pos hj (h n List.mem_cons_self)) fun x hx => h x (List.mem_cons_of_mem _ hx)
theorem foldl_lcm_dvd : ∀ (ns : List Nat) (j : Nat), j ∣ ns.foldl Nat.lcm j ∧ ∀ n ∈ ns, n ∣ ns.foldl Nat.lcm j
  | [], _ => ⟨Nat.dvd_refl _, fun _ h => absurd h (by simp)⟩
  | n :: ns, j => by
    obtain ⟨h1, h2⟩ := foldl_lcm_dvd ns (Nat.lcm j n)
    refine ⟨Nat.dvd_trans (Nat.dvd_lcm_left j n) h1, fun x hx => ?_⟩
    rcases List.mem_cons.mp hx with rfl | hx
    · exact Nat.dvd_trans (Nat.dvd_lcm_right j x) h1
    · exact h2 x hx
theorem foldl_lcm_least {B : Nat} : ∀ (ns : List Nat) (j : Nat), j ∣ B → (∀ n ∈ ns, n ∣ B) → ns.foldl Nat.lcm j ∣ B
  | [], _, hj, _ => hj
  | n :: ns, j, hj, h => foldl_lcm_least ns _ (Nat.lcm_dvd hj (h n List.mem_cons_self)) fun x hx => h x (List.mem_cons_of_mem _ hx)
theorem lcmN_pos {ns : List Nat} (h : ∀ n ∈ ns, 0 < n) : 0 < lcmN ns := foldl_lcm_pos ns 1 (by decide) h
theorem dvd_lcmN {ns : List Nat} {n : Nat} (h : n ∈ ns) : n ∣ lcmN ns := (foldl_lcm_dvd ns 1).2 n h
theorem lcmN_dvd {ns : List Nat} {B : Nat} (h : ∀ n ∈ ns, n ∣ B) : lcmN ns ∣ B := foldl_lcm_least ns 1 (Nat.one_dvd _) h
/-- a fold of lcms of numbers below 2 ^ b stays small -/
theorem foldl_lcm_lt {b : Nat} : ∀ (ns : List Nat) (j c : Nat), j < 2 ^ c → (∀ n ∈ ns, n < 2 ^ b) → ns.foldl Nat.lcm j < 2 ^ (c + b * ns.length)
  | [], j, c, hj, _ => by simpa using hj
  | n :: ns, j, c, hj, h => by
    have h1 : Nat.lcm j n ≤ j * n := Nat.div_le_self _ _
    have h2 : j * n < 2 ^ (c + b) := by rw [Nat.pow_add]; exact Nat.mul_lt_mul'' hj (h n List.mem_cons_self)
    have h3 := foldl_lcm_lt ns (Nat.lcm j n) (c + b) (Nat.lt_of_le_of_lt h1 h2) fun x hx => h x (List.mem_cons_of_mem _ hx)
    have e : c + b + b * ns.length = c + b * (n :: ns).length := by rw [List.length_cons, Nat.mul_succ]; omega
    rw [e] at h3
    exact h3
/-- a part in lowest terms -/
def low (a b : Nat) : Nat × Nat := (a / Nat.gcd a b, b / Nat.gcd a b)
theorem low_dvd (a b : Nat) : (low a b).2 ∣ b := Nat.div_dvd_of_dvd (Nat.gcd_dvd_right a b)
theorem low_cross (a b : Nat) : (low a b).1 * b = a * (low a b).2 := by
  unfold low
  obtain ⟨x, hx⟩ := Nat.gcd_dvd_left a b
  obtain ⟨y, hy⟩ := Nat.gcd_dvd_right a b
  show a / Nat.gcd a b * b = a * (b / Nat.gcd a b)
  rw [Nat.div_mul_right_comm (Nat.gcd_dvd_left a b), Nat.mul_div_assoc _ (Nat.gcd_dvd_right a b)]
theorem low_pos {a b : Nat} (h : 0 < b) : 0 < (low a b).2 := Nat.div_pos (Nat.le_of_dvd h (Nat.gcd_dvd_right a b)) (Nat.gcd_pos_of_pos_right a h)
theorem low_coprime {a b : Nat} (h : 0 < b) : Nat.gcd (low a b).1 (low a b).2 = 1 := (by have q := Nat.gcd_div (Nat.gcd_dvd_left a b) (Nat.gcd_dvd_right a b); rw [Nat.div_self (Nat.gcd_pos_of_pos_right a h)] at q; exact q)
/-! ### sums -/
theorem sum_add_map {α : Type} (f g : α → Nat) : ∀ l : List α, (l.map fun x => f x + g x).sum = (l.map f).sum + (l.map g).sum
  | [] => rfl
  | x :: l => by
    simp only [List.map_cons, List.sum_cons, sum_add_map f g l]
    omega
theorem sum_mul_map {α : Type} (c : Nat) (f : α → Nat) : ∀ l : List α, (l.map fun x => c * f x).sum = c * (l.map f).sum
  | [] => rfl
  | x :: l => by
    simp only [List.map_cons, List.sum_cons, sum_mul_map c f l, Nat.mul_add]
theorem sum_zero_map {α : Type} : ∀ l : List α, (l.map fun _ => 0).sum = 0
  | [] => rfl
  | x :: l => by simp only [List.map_cons, List.sum_cons, sum_zero_map l]
theorem sum_range_get : ∀ (row : List Nat), ((List.range row.length).map fun j => row.getD j 0).sum = row.sum
  | [] => rfl
  | x :: row => by
    rw [List.length_cons, List.range_succ_eq_map, List.map_cons, List.sum_cons, List.map_map, List.sum_cons]
    have e : ((fun j => (x :: row).getD j 0) ∘ Nat.succ) = fun j => row.getD j 0 := by
      funext j
      simp
    rw [e, sum_range_get row]
    rfl
/-! ### one step -/
/-- the house by natural numbers -/
abbrev NT := List (List Nat)
def Lc (t : NT) : Nat := lcmN (t.map List.sum)
def loads (L : Nat) (tops : List Nat) (t : NT) : List Nat := List.zipWith (fun x row => x * (L / row.sum)) tops t
def arr (ld : List Nat) (t : NT) (j : Nat) : Nat := (List.zipWith (fun x row => x * row.getD j 0) ld t).sum
def mov (t : NT) (tops : List Nat) : List Nat := (List.range t.length).map (arr (loads (Lc t) tops t) t)
theorem arr_sum (m : Nat) : ∀ (ld : List Nat) (t : NT), (∀ row ∈ t, row.length = m) → ((List.range m).map (arr ld t)).sum = (List.zipWith (fun x row => x * row.sum) ld t).sum
  | [], t, _ => by
    have e : (fun j => arr [] t j) = fun _ => 0 := rfl
    show ((List.range m).map fun j => arr [] t j).sum = 0
    rw [e, sum_zero_map]
  | x :: ld, [], _ => by
    have e : (fun j => arr (x :: ld) [] j) = fun _ => 0 := rfl
    show ((List.range m).map fun j => arr (x :: ld) [] j).sum = 0
    rw [e, sum_zero_map]
  | x :: ld, row :: t, h => by
    have hr := h row List.mem_cons_self
    have ih := arr_sum m ld t fun r hr => h r (List.mem_cons_of_mem _ hr)
    have e : (fun j => arr (x :: ld) (row :: t) j) = fun j => x * row.getD j 0 + arr ld t j := rfl
    show ((List.range m).map fun j => arr (x :: ld) (row :: t) j).sum = x * row.sum + (List.zipWith (fun x row => x * row.sum) ld t).sum
    rw [e, sum_add_map, sum_mul_map]
    have e2 : ((List.range m).map fun j => row.getD j 0).sum = row.sum := by rw [← hr]; exact sum_range_get row
    rw [e2]
    have ih' : ((List.range m).map fun j => arr ld t j).sum = (List.zipWith (fun x row => x * row.sum) ld t).sum := ih
    rw [ih']
theorem loads_sum {L : Nat} : ∀ (tops : List Nat) (t : NT), tops.length = t.length → (∀ row ∈ t, row.sum ∣ L) → (List.zipWith (fun x row => x * row.sum) (loads L tops t) t).sum = tops.sum * L
  | [], [], _, _ => by simp [loads]
  | [], _ :: _, h, _ => by cases h
  | _ :: _, [], h, _ => by cases h
  | x :: tops, row :: t, h, hd => by
    have ih := loads_sum (L := L) tops t (by simpa using h) fun r hr => hd r (List.mem_cons_of_mem _ hr)
    show x * (L / row.sum) * row.sum + (List.zipWith (fun x row => x * row.sum) (loads L tops t) t).sum = (x + tops.sum) * L
    rw [ih, Nat.mul_assoc, Nat.div_mul_cancel (hd row List.mem_cons_self), Nat.add_mul]
/-- shares as tops over one bottom -/
structure Dist (t : NT) (bottom : Nat) (tops : List Nat) : Prop where
  len : tops.length = t.length
  sum : tops.sum = bottom
  pos : 0 < bottom
structure NHouse (t : NT) : Prop where
  lo : 1 ≤ t.length
  hi : t.length ≤ 8
  rows : ∀ row ∈ t, row.length = t.length ∧ (∀ x ∈ row, x ≤ 9) ∧ 0 < row.sum
theorem mov_len (t : NT) (tops : List Nat) : (mov t tops).length = t.length := by unfold mov; rw [List.length_map, List.length_range]
theorem NHouse.Lpos {t : NT} (h : NHouse t) : 0 < Lc t := lcmN_pos fun n hn => by
  obtain ⟨row, hr, rfl⟩ := List.mem_map.mp hn
  exact (h.rows row hr).2.2
theorem NHouse.dvd {t : NT} {row : List Nat} (hr : row ∈ t) : row.sum ∣ Lc t := dvd_lcmN (List.mem_map.mpr ⟨row, hr, rfl⟩)
theorem Dist.mov {t : NT} {b : Nat} {tops : List Nat} (h : NHouse t) (D : Dist t b tops) : Dist t (b * Lc t) (SH.mov t tops) := by
  refine ⟨mov_len t tops, ?_, Nat.mul_pos D.pos h.Lpos⟩
  unfold SH.mov
  rw [arr_sum t.length _ _ fun row hr => (h.rows row hr).1, loads_sum tops t D.len fun row hr => NHouse.dvd hr, D.sum]
theorem le_sum : ∀ {l : List Nat} {x : Nat}, x ∈ l → x ≤ l.sum
  | y :: l, x, h => by
    rw [List.sum_cons]
    rcases List.mem_cons.mp h with rfl | h
    · exact Nat.le_add_right _ _
    · exact Nat.le_trans (le_sum h) (Nat.le_add_left _ _)
theorem sum_le_mul {c : Nat} : ∀ {l : List Nat}, (∀ x ∈ l, x ≤ c) → l.sum ≤ c * l.length
  | [], _ => Nat.zero_le _
  | x :: l, h => by
    rw [List.sum_cons, List.length_cons, Nat.mul_succ]
    have h1 := h x List.mem_cons_self
    have h2 := sum_le_mul (l := l) fun y hy => h y (List.mem_cons_of_mem _ hy)
    omega
theorem NHouse.sum_lt {t : NT} (h : NHouse t) {row : List Nat} (hr : row ∈ t) : row.sum < 2 ^ 7 := by
  obtain ⟨h1, h2, _⟩ := h.rows row hr
  have h3 := sum_le_mul h2
  have h4 := h.hi
  rw [h1] at h3
  have : 9 * t.length ≤ 72 := by omega
  omega
theorem NHouse.L_lt {t : NT} (h : NHouse t) : Lc t < 2 ^ 57 := by
  have q := foldl_lcm_lt (b := 7) (t.map List.sum) 1 1 (by decide) (fun n hn => by
    obtain ⟨row, hr, rfl⟩ := List.mem_map.mp hn
    exact h.sum_lt hr)
  rw [List.length_map] at q
  refine Nat.lt_of_lt_of_le q (Nat.pow_le_pow_right (by decide) ?_)
  have := h.hi
  omega
/-! ### linear -/
end SH

/-! what the program's defs promise, by natural numbers -/
namespace SH
open PySem L2
abbrev cs (ns : List Nat) : List Int := ns.map fun (n : Nat) => (n : Int)
def up (t : NT) : List (List Int) := t.map cs
theorem cs_len (ns : List Nat) : ((cs ns).map V.int).length = ns.length := by rw [List.length_map, List.length_map]
theorem cs_sum : ∀ ns : List Nat, (cs ns).sum = ((ns.sum : Nat) : Int)
  | [] => rfl
  | n :: ns => by
    show (n : Int) + (cs ns).sum = _
    rw [cs_sum ns, List.sum_cons]
    rfl
theorem cs_get {ns : List Nat} {i n : Nat} (h : ns[i]? = some n) : ((cs ns).map V.int)[i]? = some (.int (n : Int)) := by
  rw [List.getElem?_map, List.getElem?_map, h]
  rfl
theorem cs_at {ns : List Nat} {i : Nat} {x : V} (h : ((cs ns).map V.int)[i]? = some x) : ∃ n, ns[i]? = some n ∧ x = .int (n : Int) := by
  rw [List.getElem?_map, List.getElem?_map] at h
  cases e : ns[i]? with
  | none => rw [e] at h; cases h
  | some n => rw [e] at h; exact ⟨n, rfl, (Option.some.inj h).symm⟩
theorem cs_snoc (ns : List Nat) (n : Nat) : (cs ns).map V.int ++ [.int (n : Int)] = (cs (ns ++ [n])).map V.int := by
  rw [cs, cs, List.map_append, List.map_append]
  rfl
theorem cs_up {row : List Int} (h : ∀ x ∈ row, 0 ≤ x) : row = cs (row.map Int.toNat) := by
  induction row with
  | nil => rfl
  | cons x r ih =>
    have hx := h x List.mem_cons_self
    show x :: r = ((x.toNat : Nat) : Int) :: cs (r.map Int.toNat)
    rw [← ih fun y hy => h y (List.mem_cons_of_mem _ hy), Int.toNat_of_nonneg hx]
theorem up_len (t : NT) : (up t).length = t.length := by unfold up; rw [List.length_map]
theorem up_at {t : NT} {i : Nat} {r : List Int} (h : (up t)[i]? = some r) : ∃ row, t[i]? = some row ∧ r = cs row := by
  unfold up at h
  rw [List.getElem?_map] at h
  cases e : t[i]? with
  | none => rw [e] at h; cases h
  | some row => rw [e] at h; exact ⟨row, rfl, (Option.some.inj h).symm⟩
theorem sum_pos_of {row : List Nat} (h : ∃ x ∈ row, x ≠ 0) : 0 < row.sum := by
  obtain ⟨x, hx, x0⟩ := h
  have := le_sum hx
  omega
theorem house_up {t : List (List Int)} (h : House t) : ∃ n : NT, t = up n ∧ NHouse n := by
  have nn : ∀ row ∈ t, ∀ x ∈ row, 0 ≤ x := fun row hr x hx => ((h.rows row hr).wts x hx).1
  refine ⟨t.map (List.map Int.toNat), ?_, ?_, ?_, ?_⟩
  · unfold up
    rw [List.map_map]
    have key : ∀ l : List (List Int), (∀ row ∈ l, ∀ x ∈ row, 0 ≤ x) → l = l.map (cs ∘ List.map Int.toNat) := by
      intro l
      induction l with
      | nil => intro _; rfl
      | cons r l ih =>
        intro hl
        rw [List.map_cons, ← ih fun row hr => hl row (List.mem_cons_of_mem _ hr)]
        show r :: l = cs (r.map Int.toNat) :: l
        rw [← cs_up (hl r List.mem_cons_self)]
    exact key t nn
  · rw [List.length_map]; exact h.lo
  · rw [List.length_map]; exact h.hi
  · intro row hr
    obtain ⟨r, hr', rfl⟩ := List.mem_map.mp hr
    have g := h.rows r hr'
    rw [List.length_map, List.length_map]
    refine ⟨g.len, fun x hx => ?_, sum_pos_of ?_⟩
    · obtain ⟨y, hy, rfl⟩ := List.mem_map.mp hx
      have := g.wts y hy
      omega
    · obtain ⟨y, hy, y0⟩ := g.some'
      have := g.wts y hy
      exact ⟨y.toNat, List.mem_map.mpr ⟨y, hy, rfl⟩, by omega⟩
/-- lists of natural numbers, of parts, in the heap -/
abbrev NL (H : Hp) (p : Addr) (ns : List Nat) : Prop := H p = some (.lst ((cs ns).map V.int))
abbrev IsPart (H : Hp) (r : Addr) (q : Nat × Nat) : Prop := H r = some (.tup [.int (q.1 : Int), .int (q.2 : Int)])
structure Prt (H : Hp) (p : Addr) (rs : List Addr) (ps : List (Nat × Nat)) : Prop where
  top : H p = some (.lst (rs.map V.ref))
  items : Paired (IsPart H) rs ps
theorem Prt.len {H : Hp} {p : Addr} {rs : List Addr} {ps : List (Nat × Nat)} (h : Prt H p rs ps) : rs.length = ps.length := Paired.length h.items
theorem Prt.same {H H' : Hp} {p : Addr} {rs : List Addr} {ps : List (Nat × Nat)} (h : Prt H p rs ps) (e : Same H H') : Prt H' p rs ps := ⟨e _ _ h.top, pr_imp h.items fun _ _ _ q => e _ _ q⟩
def partD (q : Nat × Nat) : PyData := .tuple [.int (q.1 : Int), .int (q.2 : Int)]
def partsD (ps : List (Nat × Nat)) : PyData := .list (ps.map partD)
theorem rdA_parts {K : PySem.W.Frag} {H : Hp} : ∀ {rs : List Addr} {ps : List (Nat × Nat)}, Paired (IsPart H) rs ps → RdA K H (rs.map V.ref) (ps.map partD)
  | _, _, .nil => .nil
  | _, _, .cons h t => .cons (.tup (SqT.of h) (.cons (.int _) (.cons (.int _) .nil))) (rdA_parts t)
theorem Prt.rd {K : PySem.W.Frag} {H : Hp} {p : Addr} {rs : List Addr} {ps : List (Nat × Nat)} (h : Prt H p rs ps) : RdD K H (.ref p) (partsD ps) := .lst (SqL.of h.top) (rdA_parts h.items)
theorem eqv_partD (q q' : Nat × Nat) : PyData.eqv (partD q) (partD q') = decide (q = q') := by
  unfold partD
  simp only [PyData.eqv, PyData.eqvAll, Bool.and_true]
  obtain ⟨a, b⟩ := q
  obtain ⟨c, d⟩ := q'
  by_cases h1 : a = c
  · by_cases h2 : b = d
    · subst h1 h2; simp
    · have : ¬ ((b : Int) = (d : Int)) := fun z => h2 (by omega)
      simp [h2, this]
  · have : ¬ ((a : Int) = (c : Int)) := fun z => h1 (by omega)
    simp [h1, this]
theorem eqv_parts' : ∀ (ps qs : List (Nat × Nat)), PyData.eqvAll (ps.map partD) (qs.map partD) = decide (ps = qs)
  | [], [] => by simp [PyData.eqvAll]
  | [], m :: ms => by simp [PyData.eqvAll]
  | n :: ns, [] => by simp [PyData.eqvAll]
  | n :: ns, m :: ms => by
    rw [List.map_cons, List.map_cons, PyData.eqvAll, eqv_parts' ns ms, eqv_partD]
    by_cases h : n = m <;> simp [h]
theorem eqv_parts (ps qs : List (Nat × Nat)) : PyData.eqv (partsD ps) (partsD qs) = decide (ps = qs) := by
  unfold partsD
  rw [PyData.eqv, eqv_parts']
theorem shaped_parts (ps : List (Nat × Nat)) : SeqAt.shaped (partsD ps) = true := by
  have hc : ∀ l : List (Nat × Nat), PyData.canLayAll0 (l.map partD) = true := by
    intro l
    induction l with
    | nil => simp [PyData.canLayAll0]
    | cons q l ih => simp [PyData.canLayAll0, PyData.canLay0, partD, ih]
  have hd : ∀ l : List (Nat × Nat), PyData.depthAll (l.map partD) ≤ 3 := by
    intro l
    induction l with
    | nil => simp [PyData.depthAll]
    | cons q l ih =>
      simp only [List.map_cons, PyData.depthAll, PyData.depth, partD]
      omega
  have h1 := hd ps
  unfold SeqAt.shaped partsD
  rw [Bool.and_eq_true]
  refine ⟨by simp only [PyData.canLay0]; exact hc ps, decide_eq_true ?_⟩
  simp only [PyData.depth]
  omega
/-! ### the promises -/
def spCommon : Sp := fun vs H Q _ => ∃ a b : Nat, vs = [.int (a : Int), .int (b : Int)] ∧ Q (.int ((Nat.gcd a b : Nat) : Int)) H
def spJoint (K : PySem.W.Frag) : Sp := fun vs H Q _ => ∃ (p : Addr) (ns : List Nat), vs = [.ref p] ∧ SqL K H p ((cs ns).map V.int) ∧ ns.length ≤ 20 ∧ (∀ n ∈ ns, 0 < n ∧ Fit 3000 (n : Int)) ∧ Q (.int ((lcmN ns : Nat) : Int)) H
def spLowest : Sp := fun vs H Q _ => ∃ a b : Nat, vs = [.int (a : Int), .int (b : Int)] ∧ 0 < b ∧ Fit 8000 (b : Int) ∧ ∀ p, H p = none → Q (.ref p) (upd H p (.tup [.int ((low a b).1 : Int), .int ((low a b).2 : Int)]))
def spPartsOver (K : PySem.W.Frag) : Sp := fun vs H Q _ => ∃ (p : Addr) (ns : List Nat) (b : Nat), vs = [.ref p, .int (b : Int)] ∧ SqL K H p ((cs ns).map V.int) ∧ ns.length ≤ 20 ∧ 0 < b ∧ Fit 8000 (b : Int) ∧
  ∀ (H' : Hp) (q : Addr) (rs : List Addr), Same H H' → Prt H' q rs (ns.map fun x => low x b) → H q = none → Q (.ref q) H'
def spJB : Sp := fun vs H Q _ => ∃ (p : Addr) (rs : List Addr) (ps : List (Nat × Nat)), vs = [.ref p] ∧ Prt H p rs ps ∧ ps.length ≤ 20 ∧ (∀ q ∈ ps, 0 < q.2 ∧ Fit 3000 (q.2 : Int)) ∧
  ∀ H', Same H H' → Q (.int ((lcmN (ps.map (·.2)) : Nat) : Int)) H'
def topsOf (ps : List (Nat × Nat)) (b : Nat) : List Nat := ps.map fun q => q.1 * (b / q.2)
def spTopsOver : Sp := fun vs H Q _ => ∃ (p : Addr) (rs : List Addr) (ps : List (Nat × Nat)) (b : Nat), vs = [.ref p, .int (b : Int)] ∧ Prt H p rs ps ∧ ps.length ≤ 20 ∧ (∀ q ∈ ps, 0 < q.2 ∧ Fit 3000 (q.1 : Int) ∧ Fit 3000 (q.2 : Int)) ∧ Fit 100000 (b : Int) ∧
  ∀ (H' : Hp) (d : Addr), Same H H' → NL H' d (topsOf ps b) → H d = none → Q (.ref d) H'
def spCome : Sp := fun vs H Q _ => ∃ (p : Addr) (rs : List Addr) (ps : List (Nat × Nat)), vs = [.ref p] ∧ Prt H p rs ps ∧ ps.length ≤ 20 ∧ (∀ q ∈ ps, 0 < q.2 ∧ Fit 3000 (q.1 : Int) ∧ Fit 3000 (q.2 : Int)) ∧
  ∀ H', Same H H' → Q (.bl (decide ((topsOf ps (lcmN (ps.map (·.2)))).sum = lcmN (ps.map (·.2))))) H'
/-- a pair of any two ints, looked at -/
def partB (a b : Int) : Bool := decide (0 ≤ a) && (decide (1 ≤ b) && decide (Int.gcd a b = 1))
def spIsPart : Sp := fun vs H Q _ => ∃ (r : Addr) (a b : Int), vs = [.ref r] ∧ H r = some (.tup [.int a, .int b]) ∧ Q (.bl (partB a b)) H
structure Shares (ps : List (Nat × Nat)) (m : Nat) : Prop where
  len : ps.length = m
  parts : ∀ q ∈ ps, 0 < q.2 ∧ Nat.gcd q.1 q.2 = 1 ∧ Fit 3000 (q.1 : Int) ∧ Fit 3000 (q.2 : Int)
  one : (topsOf ps (lcmN (ps.map (·.2)))).sum = lcmN (ps.map (·.2))
  fit : Fit 3000 ((lcmN (ps.map (·.2)) : Nat) : Int)
def spNeedHouse : Sp := fun vs H Q _ => ∃ (p : Addr) (rs : List Addr) (t : List (List Int)), vs = [.ref p] ∧ Tab H p rs t ∧ House t ∧ ∀ H', Same H H' → Q .non H'
def spNeedRoom : Sp := fun vs H Q _ => ∃ (p : Addr) (rs : List Addr) (t : List (List Int)) (x : Int), vs = [.ref p, .int x] ∧ Tab H p rs t ∧ 0 ≤ x ∧ x < (t.length : Int) ∧ Q .non H
def spNeedShares : Sp := fun vs H Q _ => ∃ (p q : Addr) (rs rs' : List Addr) (t : List (List Int)) (ps : List (Nat × Nat)), vs = [.ref p, .ref q] ∧ Tab H p rs t ∧ Prt H q rs' ps ∧ Shares ps t.length ∧ t.length ≤ 8 ∧ ∀ H', Same H H' → Q .non H'
def spAreShares : Sp := fun vs H Q _ => ∃ (p q : Addr) (rs rs' : List Addr) (t : List (List Int)) (ps : List (Nat × Nat)), vs = [.ref p, .ref q] ∧ Tab H p rs t ∧ Prt H q rs' ps ∧ Shares ps t.length ∧ t.length ≤ 8 ∧ ∀ H', Same H H' → Q (.bl true) H'
def spStepBottom : Sp := fun vs H Q _ => ∃ (p : Addr) (rs : List Addr) (t : NT), vs = [.ref p] ∧ Tab H p rs (up t) ∧ NHouse t ∧ ∀ H', Same H H' → Q (.int ((Lc t : Nat) : Int)) H'
def spArriving (K : PySem.W.Frag) : Sp := fun vs H Q _ => ∃ (p q : Addr) (rs : List Addr) (t : NT) (ld : List Nat) (j : Nat), vs = [.ref p, .ref q, .int (j : Int)] ∧ Tab H p rs (up t) ∧ NHouse t ∧ SqL K H q ((cs ld).map V.int) ∧ ld.length = t.length ∧ j < t.length ∧
  ∀ H', Same H H' → Q (.int ((arr ld t j : Nat) : Int)) H'
def spTas (K : PySem.W.Frag) : Sp := fun vs H Q _ => ∃ (p q : Addr) (rs : List Addr) (t : NT) (ns : List Nat), vs = [.ref p, .ref q] ∧ Tab H p rs (up t) ∧ NHouse t ∧ SqL K H q ((cs ns).map V.int) ∧ ns.length = t.length ∧
  ∀ (H' : Hp) (d : Addr), Same H H' → NL H' d (mov t ns) → H d = none → Q (.ref d) H'
def spWalked : Sp := fun vs H Q _ => ∃ (p q : Addr) (rs rs' : List Addr) (t : NT) (ps : List (Nat × Nat)), vs = [.ref p, .ref q] ∧ Tab H p rs (up t) ∧ NHouse t ∧ House (up t) ∧ Prt H q rs' ps ∧ Shares ps t.length ∧
  ∀ (H' : Hp) (d : Addr) (ds : List Addr), Same H H' → Prt H' d ds ((mov t (topsOf ps (lcmN (ps.map (·.2))))).map fun x => low x (lcmN (ps.map (·.2)) * Lc t)) → H d = none → Q (.ref d) H'
theorem fit_nat {b n : Nat} : Fit b (n : Int) ↔ n < 2 ^ b := by unfold Fit; rw [Int.natAbs_natCast]
theorem fit_leN {b m n : Nat} (h : Fit b (n : Int)) (hm : m ≤ n) : Fit b (m : Int) := fit_nat.mpr (Nat.lt_of_le_of_lt hm (fit_nat.mp h))
/-- a list that is told, in lowest terms, are shares again -/
theorem shares_of {t : NT} {B : Nat} {ns : List Nat} (D : Dist t B ns) (hf : Fit 3000 (B : Int)) : Shares (ns.map fun x => low x B) t.length ∧
    ∀ (i x x' : Nat), ns[i]? = some x → (topsOf (ns.map fun x => low x B) (lcmN ((ns.map fun x => low x B).map (·.2))))[i]? = some x' → x' * B = x * lcmN ((ns.map fun x => low x B).map (·.2)) := by
  have hd : ∀ n ∈ (ns.map fun x => low x B).map (·.2), n ∣ B := fun n hn => by
    rw [List.map_map] at hn
    obtain ⟨x, _, rfl⟩ := List.mem_map.mp hn
    exact low_dvd x B
  have hp : ∀ n ∈ (ns.map fun x => low x B).map (·.2), 0 < n := fun n hn => by
    rw [List.map_map] at hn
    obtain ⟨x, _, rfl⟩ := List.mem_map.mp hn
    exact low_pos D.pos
  have hB : lcmN ((ns.map fun x => low x B).map (·.2)) ∣ B := lcmN_dvd hd
  have hpos := lcmN_pos hp
  have hle : lcmN ((ns.map fun x => low x B).map (·.2)) ≤ B := Nat.le_of_dvd D.pos hB
  generalize hb : lcmN ((ns.map fun x => low x B).map (·.2)) = b at hB hpos hle
  have cross : ∀ x, x ∈ ns → (low x B).1 * (b / (low x B).2) * B = x * b := by
    intro x hx
    have hdv : (low x B).2 ∣ b := by
      rw [← hb]
      exact dvd_lcmN (List.mem_map.mpr ⟨low x B, List.mem_map.mpr ⟨x, hx, rfl⟩, rfl⟩)
    obtain ⟨c, hc⟩ := hdv
    have l2 := low_pos (a := x) D.pos
    have e1 : b / (low x B).2 = c := by rw [hc]; exact Nat.mul_div_cancel_left c l2
    have h := low_cross x B
    rw [e1, Nat.mul_right_comm, h, Nat.mul_assoc, ← hc]
  have lin : ∀ (i x x' : Nat), ns[i]? = some x → (topsOf (ns.map fun x => low x B) b)[i]? = some x' → x' * B = x * b := by
    intro i x x' h1 h2
    unfold topsOf at h2
    rw [List.map_map, List.getElem?_map, h1] at h2
    have h3 : (low x B).1 * (b / (low x B).2) = x' := Option.some.inj h2
    rw [← h3]
    exact cross x (List.mem_of_getElem? h1)
  refine ⟨⟨by rw [List.length_map]; exact D.len, fun q hq => ?_, ?_, ?_⟩, lin⟩
  · obtain ⟨x, hx, rfl⟩ := List.mem_map.mp hq
    refine ⟨low_pos D.pos, low_coprime D.pos, fit_leN hf ?_, fit_leN hf (Nat.le_of_dvd D.pos (low_dvd x B))⟩
    exact Nat.le_trans (Nat.div_le_self _ _) (by rw [← D.sum]; exact le_sum hx)
  · rw [hb]
    have key : (topsOf (ns.map fun x => low x B) b).sum * B = b * B := by
      have e : (topsOf (ns.map fun x => low x B) b).sum * B = ns.sum * b := by
        unfold topsOf
        rw [List.map_map]
        have : ∀ l : List Nat, (∀ x ∈ l, x ∈ ns) → (l.map ((fun q : Nat × Nat => q.1 * (b / q.2)) ∘ fun x => low x B)).sum * B = l.sum * b := by
          intro l
          induction l with
          | nil => intro _; simp
          | cons x l ih =>
            intro hl
            rw [List.map_cons, List.sum_cons, List.sum_cons, Nat.add_mul, Nat.add_mul, ih fun y hy => hl y (List.mem_cons_of_mem _ hy)]
            show (low x B).1 * (b / (low x B).2) * B + l.sum * b = _
            rw [cross x (hl x List.mem_cons_self)]
        exact this ns fun x hx => hx
      rw [e, D.sum, Nat.mul_comm]
    exact Nat.eq_of_mul_eq_mul_right D.pos key
  · rw [hb]; exact fit_leN hf hle
/-! ### what the laws' own reckoners promise -/
def spLIsPart : Sp := fun vs H Q _ => ∃ (r : Addr) (a b top bot : Nat), vs = [.ref r, .int (top : Int), .int (bot : Int)] ∧ H r = some (.tup [.int (a : Int), .int (b : Int)]) ∧ 0 < b ∧ Nat.gcd a b = 1 ∧ a * bot = top * b ∧
  (Fit 100000 (a : Int) ∧ Fit 100000 (b : Int) ∧ Fit 100000 (top : Int) ∧ Fit 100000 (bot : Int)) ∧ Q (.bl true) H
def spLPartsLike (K : PySem.W.Frag) : Sp := fun vs H Q _ => ∃ (p q : Addr) (rs : List Addr) (ns : List Nat) (b : Nat), vs = [.ref p, .ref q, .int (b : Int)] ∧ Prt H p rs (ns.map fun x => low x b) ∧ SqL K H q ((cs ns).map V.int) ∧ ns.length ≤ 20 ∧ 0 < b ∧
  Fit 100000 (b : Int) ∧ (∀ n ∈ ns, Fit 100000 (n : Int)) ∧ ∀ H', Same H H' → Q (.bl true) H'
def spLSums : Sp := fun vs H Q _ => ∃ (p : Addr) (rs : List Addr) (t : NT), vs = [.ref p] ∧ Tab H p rs (up t) ∧ NHouse t ∧ Q (.int ((Lc t : Nat) : Int)) H
def spLMoved (K : PySem.W.Frag) : Sp := fun vs H Q _ => ∃ (p q : Addr) (rs : List Addr) (t : NT) (ns : List Nat) (b : Nat), vs = [.ref p, .ref q, .int (b : Int)] ∧ Tab H p rs (up t) ∧ NHouse t ∧ SqL K H q ((cs ns).map V.int) ∧ ns.length = t.length ∧
  ∀ (H' : Hp) (g T' : Addr), Same H H' → NL H' g (mov t ns) → H' T' = some (.tup [.ref g, .int ((b * Lc t : Nat) : Int)]) → H g = none → Q (.ref T') H'
/-- what the law's own step has gathered behind i rows -/
def accN (t : NT) (ns : List Nat) (i : Nat) (j : Nat) : Nat := ((List.zipWith (fun x row => x * row.getD j 0) (loads (Lc t) ns t) t).take i).sum
theorem accN_succ {t : NT} {ns : List Nat} {i : Nat} {n : Nat} {row : List Nat} (h1 : ns[i]? = some n) (h2 : t[i]? = some row) (j : Nat) : accN t ns (i + 1) j = accN t ns i j + n * (Lc t / row.sum) * row.getD j 0 := by
  unfold accN
  have e : (List.zipWith (fun x row => x * row.getD j 0) (loads (Lc t) ns t) t)[i]? = some (n * (Lc t / row.sum) * row.getD j 0) := by
    unfold loads
    rw [List.getElem?_zipWith, List.getElem?_zipWith, h1, h2]
  rw [List.take_add_one, e, List.sum_append]
  simp
theorem accN_all {t : NT} {ns : List Nat} (hl : ns.length = t.length) (j : Nat) : accN t ns t.length j = arr (loads (Lc t) ns t) t j := by
  unfold accN arr
  rw [List.take_of_length_le]
  unfold loads
  rw [List.length_zipWith, List.length_zipWith, hl]
  omega
end SH

/-! shares that are spoilt; what else the law of one step asks -/
namespace SH
open PySem L2
/-- pairs of any whole numbers in the heap -/
abbrev IsPair (H : Hp) (r : Addr) (z : Int × Int) : Prop := H r = some (.tup [.int z.1, .int z.2])
structure ZPrt (H : Hp) (p : Addr) (rs : List Addr) (ps : List (Int × Int)) : Prop where
  top : H p = some (.lst (rs.map V.ref))
  items : Paired (IsPair H) rs ps
theorem ZPrt.len {H : Hp} {p : Addr} {rs : List Addr} {ps : List (Int × Int)} (h : ZPrt H p rs ps) : rs.length = ps.length := Paired.length h.items
theorem ZPrt.same {H H' : Hp} {p : Addr} {rs : List Addr} {ps : List (Int × Int)} (h : ZPrt H p rs ps) (e : Same H H') : ZPrt H' p rs ps := ⟨e _ _ h.top, pr_imp h.items fun _ _ _ q => e _ _ q⟩
def zc (q : Nat × Nat) : Int × Int := ((q.1 : Int), (q.2 : Int))
theorem pr_zc {H : Hp} : ∀ {rs : List Addr} {ns : List (Nat × Nat)}, Paired (IsPair H) rs (ns.map zc) → Paired (IsPart H) rs ns
  | _, [], .nil => .nil
  | _, _ :: _, .cons h t => .cons h (pr_zc t)
theorem pr_cz {H : Hp} : ∀ {rs : List Addr} {ns : List (Nat × Nat)}, Paired (IsPart H) rs ns → Paired (IsPair H) rs (ns.map zc)
  | _, _, .nil => .nil
  | _, _, .cons h t => .cons h (pr_cz t)
/-- these are no shares of a house of m rooms -/
inductive Bad (m : Nat) (ps : List (Int × Int)) : Prop where
  | len (h : ps.length ≠ m) : Bad m ps
  | part (h : ps.length = m) (z : Int × Int) (hz : z ∈ ps) (b : partB z.1 z.2 = false) : Bad m ps
  | sum (ns : List (Nat × Nat)) (e : ps = ns.map zc) (h : ns.length = m) (hp : ∀ q ∈ ns, 0 < q.2 ∧ Nat.gcd q.1 q.2 = 1 ∧ Fit 3000 (q.1 : Int) ∧ Fit 3000 (q.2 : Int)) (hs : (topsOf ns (lcmN (ns.map (·.2)))).sum ≠ lcmN (ns.map (·.2))) : Bad m ps
def spStep : Sp := fun vs H Q _ => ∃ (p : Addr) (rs : List Addr) (t : NT) (x y : Nat), vs = [.ref p, .int (x : Int), .int (y : Int)] ∧ Tab H p rs (up t) ∧ NHouse t ∧ House (up t) ∧ x < t.length ∧ y < t.length ∧
  ∀ (row : List Nat), t[x]? = some row → ∀ (H' : Hp) (d : Addr), Same H H' → H' d = some (.tup [.int ((low (row.getD y 0) row.sum).1 : Int), .int ((low (row.getD y 0) row.sum).2 : Int)]) → H d = none → Q (.ref d) H'
def spAreBad : Sp := fun vs H Q _ => ∃ (p q : Addr) (rs ds : List Addr) (t : List (List Int)) (ps : List (Int × Int)), vs = [.ref p, .ref q] ∧ Tab H p rs t ∧ t.length ≤ 8 ∧ ZPrt H q ds ps ∧ ps.length ≤ 9 ∧ Bad t.length ps ∧ ∀ H', Same H H' → Q (.bl false) H'
def spNeedBad (C : Addr) : Sp := fun vs H _ E => ∃ (p q : Addr) (rs ds : List Addr) (t : List (List Int)) (ps : List (Int × Int)), vs = [.ref p, .ref q] ∧ Tab H p rs t ∧ t.length ≤ 8 ∧ ZPrt H q ds ps ∧ ps.length ≤ 9 ∧ Bad t.length ps ∧ ∀ H', Same H H' → E (.ref C) none H'
def spWalkedBad (C : Addr) : Sp := fun vs H _ E => ∃ (p q : Addr) (rs ds : List Addr) (t : List (List Int)) (ps : List (Int × Int)), vs = [.ref p, .ref q] ∧ Tab H p rs t ∧ House t ∧ ZPrt H q ds ps ∧ ps.length ≤ 9 ∧ Bad t.length ps ∧ ∀ H', Same H H' → E (.ref C) none H'
def spWhich (C : Addr) (told : Str) : Sp := fun vs H Q _ => ∃ a : Addr, vs = [.ref a] ∧ H a = some (.ext (ExcO C a)) ∧ ∀ H', Same H H' → Q (.str told) H'
def spAskedBad (told : Str) : Sp := fun vs H Q _ => ∃ (p q : Addr) (rs ds : List Addr) (t : List (List Int)) (ps : List (Int × Int)), vs = [.ref p, .ref q] ∧ Tab H p rs t ∧ House t ∧ ZPrt H q ds ps ∧ ps.length ≤ 9 ∧ Bad t.length ps ∧ ∀ H', Same H H' → Q (.str told) H'
def spLevelled : Sp := fun vs H Q _ => ∃ (q : Addr) (ds : List Addr) (ps : List (Nat × Nat)), vs = [.ref q] ∧ Prt H q ds ps ∧ ps.length ≤ 8 ∧ (∀ z ∈ ps, 0 < z.2 ∧ Fit 100 (z.1 : Int) ∧ Fit 100 (z.2 : Int)) ∧
  ∀ (H' : Hp) (g T' : Addr), Same H H' → NL H' g (topsOf ps (lcmN (ps.map (·.2)))) → H' T' = some (.tup [.ref g, .int ((lcmN (ps.map (·.2)) : Nat) : Int)]) → H g = none → Q (.ref T') H'
/-- shares that are drawn: tops over their sum -/
structure Drawn (ns : List Nat) (m : Nat) : Prop where
  len : ns.length = m
  pos : 0 < ns.sum
  lt : ns.sum < 2 ^ 25
def spDrawn (K : PySem.W.Frag) : Sp := fun vs H Q _ => ∃ (a p : Addr) (ns : List Int) (k : Int) (m : Nat), vs = [.ref a, .ref p, .int (m : Int)] ∧ Scr K H a ns ∧ H p = some (.lst [.int k]) ∧ 0 ≤ k ∧ 1 ≤ m ∧ m ≤ 8 ∧
  ∀ (H' : Hp) (q : Addr) (ds : List Addr) (tops : List Nat) (k' : Int), Bd K H a ns p H' k' → Prt H' q ds (tops.map fun x => low x tops.sum) → Drawn tops m → H q = none → Q (.ref q) H'
def spSpoilt : Sp := fun vs H Q _ => ∃ (q : Addr) (ds : List Addr) (tops : List Nat) (m : Nat) (way cell : Int), vs = [.ref q, .int way, .int cell] ∧ Prt H q ds (tops.map fun x => low x tops.sum) ∧ Drawn tops m ∧ 1 ≤ m ∧ m ≤ 8 ∧
  ∀ (H' : Hp) (d : Addr) (es : List Addr) (ps : List (Int × Int)), Same H H' → ZPrt H' d es ps → ps.length ≤ 9 → Bad m ps → Q (.ref d) H'
end SH

namespace K03
open PySem L2 SH
def top (i : Nat) : Stmt := PySem.Challenge.pw_strollhouse_k03_steps_and_shares_moved.main.body.getD i (.Pass ⟨0, 0, 0, 0⟩)
abbrev s_common : Stmt := top 10
abbrev s_joint_multiple : Stmt := top 11
abbrev s_lowest : Stmt := top 12
abbrev s_is_part : Stmt := top 13
abbrev s_joint_bottom : Stmt := top 14
abbrev s_tops_over : Stmt := top 15
abbrev s_parts_over : Stmt := top 16
abbrev s_come_to_one : Stmt := top 17
abbrev s_is_row : Stmt := top 21
abbrev s_is_house : Stmt := top 22
abbrev s_need_house : Stmt := top 23
abbrev s_need_room : Stmt := top 24
abbrev s_are_shares : Stmt := top 25
abbrev s_need_shares : Stmt := top 26
abbrev s_step : Stmt := top 27
abbrev s_step_bottom : Stmt := top 28
abbrev s_arriving : Stmt := top 29
abbrev s_tops_after_step : Stmt := top 30
abbrev s_walked : Stmt := top 31
abbrev s_law_cell_at : Stmt := top 33
abbrev s_law_next : Stmt := top 34
abbrev s_law_weight : Stmt := top 35
abbrev s_law_some_house : Stmt := top 36
abbrev s_law_even_house : Stmt := top 37
abbrev s_law_house : Stmt := top 38
abbrev s_law_common : Stmt := top 39
abbrev s_law_is_part : Stmt := top 40
abbrev s_law_parts_like : Stmt := top 41
abbrev s_law_levelled : Stmt := top 42
abbrev s_law_sums : Stmt := top 43
abbrev s_law_moved : Stmt := top 44
abbrev s_law_which : Stmt := top 45
abbrev s_law_drawn : Stmt := top 46
abbrev s_law_spoilt : Stmt := top 47
abbrev s_law_asked : Stmt := top 48
abbrev s_law : Stmt := top 49
theorem sc_common : FnScope ["one", "other", "rest"] ["one", "other"] (defScope s_common) := ⟨rfl, rfl, rfl, by decide +kernel, rfl, by decide +kernel, by decide +kernel⟩
theorem sc_joint_multiple : FnScope ["numbers", "joint", "number"] ["numbers"] (defScope s_joint_multiple) := ⟨rfl, rfl, rfl, by decide +kernel, rfl, by decide +kernel, by decide +kernel⟩
theorem sc_lowest : FnScope ["top", "bottom", "shared"] ["top", "bottom"] (defScope s_lowest) := ⟨rfl, rfl, rfl, by decide +kernel, rfl, by decide +kernel, by decide +kernel⟩
theorem sc_is_part : FnScope ["pair"] ["pair"] (defScope s_is_part) := ⟨rfl, rfl, rfl, by decide +kernel, rfl, by decide +kernel, by decide +kernel⟩
theorem sc_joint_bottom : FnScope ["parts"] ["parts"] (defScope s_joint_bottom) := ⟨rfl, rfl, rfl, by decide +kernel, rfl, by decide +kernel, by decide +kernel⟩
theorem sc_tops_over : FnScope ["parts", "bottom"] ["parts", "bottom"] (defScope s_tops_over) := ⟨rfl, rfl, rfl, by decide +kernel, rfl, by decide +kernel, by decide +kernel⟩
theorem sc_parts_over : FnScope ["tops", "bottom"] ["tops", "bottom"] (defScope s_parts_over) := ⟨rfl, rfl, rfl, by decide +kernel, rfl, by decide +kernel, by decide +kernel⟩
theorem sc_come_to_one : FnScope ["parts", "bottom"] ["parts"] (defScope s_come_to_one) := ⟨rfl, rfl, rfl, by decide +kernel, rfl, by decide +kernel, by decide +kernel⟩
theorem sc_is_row : FnScope ["row", "rooms"] ["row", "rooms"] (defScope s_is_row) := ⟨rfl, rfl, rfl, by decide +kernel, rfl, by decide +kernel, by decide +kernel⟩
theorem sc_is_house : FnScope ["table", "rooms"] ["table"] (defScope s_is_house) := ⟨rfl, rfl, rfl, by decide +kernel, rfl, by decide +kernel, by decide +kernel⟩
theorem sc_need_house : FnScope ["table"] ["table"] (defScope s_need_house) := ⟨rfl, rfl, rfl, by decide +kernel, rfl, by decide +kernel, by decide +kernel⟩
theorem sc_need_room : FnScope ["table", "room"] ["table", "room"] (defScope s_need_room) := ⟨rfl, rfl, rfl, by decide +kernel, rfl, by decide +kernel, by decide +kernel⟩
theorem sc_are_shares : FnScope ["table", "pairs"] ["table", "pairs"] (defScope s_are_shares) := ⟨rfl, rfl, rfl, by decide +kernel, rfl, by decide +kernel, by decide +kernel⟩
theorem sc_need_shares : FnScope ["table", "pairs"] ["table", "pairs"] (defScope s_need_shares) := ⟨rfl, rfl, rfl, by decide +kernel, rfl, by decide +kernel, by decide +kernel⟩
theorem sc_step : FnScope ["table", "one", "other"] ["table", "one", "other"] (defScope s_step) := ⟨rfl, rfl, rfl, by decide +kernel, rfl, by decide +kernel, by decide +kernel⟩
theorem sc_step_bottom : FnScope ["table"] ["table"] (defScope s_step_bottom) := ⟨rfl, rfl, rfl, by decide +kernel, rfl, by decide +kernel, by decide +kernel⟩
theorem sc_arriving : FnScope ["table", "loads", "room"] ["table", "loads", "room"] (defScope s_arriving) := ⟨rfl, rfl, rfl, by decide +kernel, rfl, by decide +kernel, by decide +kernel⟩
theorem sc_tops_after_step : FnScope ["table", "tops", "bottom", "loads"] ["table", "tops"] (defScope s_tops_after_step) := ⟨rfl, rfl, rfl, by decide +kernel, rfl, by decide +kernel, by decide +kernel⟩
theorem sc_walked : FnScope ["table", "shares", "bottom", "tops"] ["table", "shares"] (defScope s_walked) := ⟨rfl, rfl, rfl, by decide +kernel, rfl, by decide +kernel, by decide +kernel⟩
theorem sc_law_cell_at : FnScope ["script", "k"] ["script", "k"] (defScope s_law_cell_at) := ⟨rfl, rfl, rfl, by decide +kernel, rfl, by decide +kernel, by decide +kernel⟩
theorem sc_law_next : FnScope ["script", "spot"] ["script", "spot"] (defScope s_law_next) := ⟨rfl, rfl, rfl, by decide +kernel, rfl, by decide +kernel, by decide +kernel⟩
theorem sc_law_weight : FnScope ["cell", "spare"] ["cell", "spare"] (defScope s_law_weight) := ⟨rfl, rfl, rfl, by decide +kernel, rfl, by decide +kernel, by decide +kernel⟩
theorem sc_law_some_house : FnScope ["script", "spot", "many", "spare", "table", "seed", "one", "row", "other"] ["script", "spot", "many"] (defScope s_law_some_house) := ⟨rfl, rfl, rfl, by decide +kernel, rfl, by decide +kernel, by decide +kernel⟩
theorem sc_law_even_house : FnScope ["script", "spot", "many", "table", "one", "other", "cell", "scaled", "row", "often"] ["script", "spot", "many"] (defScope s_law_even_house) := ⟨rfl, rfl, rfl, by decide +kernel, rfl, by decide +kernel, by decide +kernel⟩
theorem sc_law_house : FnScope ["script", "spot", "most", "cell", "many", "table", "one", "there"] ["script", "spot", "most"] (defScope s_law_house) := ⟨rfl, rfl, rfl, by decide +kernel, rfl, by decide +kernel, by decide +kernel⟩
theorem sc_law_common : FnScope ["one", "other", "rest"] ["one", "other"] (defScope s_law_common) := ⟨rfl, rfl, rfl, by decide +kernel, rfl, by decide +kernel, by decide +kernel⟩
theorem sc_law_is_part : FnScope ["found", "top", "bottom", "number"] ["found", "top", "bottom"] (defScope s_law_is_part) := ⟨rfl, rfl, rfl, by decide +kernel, rfl, by decide +kernel, by decide +kernel⟩
theorem sc_law_parts_like : FnScope ["found", "tops", "bottom"] ["found", "tops", "bottom"] (defScope s_law_parts_like) := ⟨rfl, rfl, rfl, by decide +kernel, rfl, by decide +kernel, by decide +kernel⟩
theorem sc_law_levelled : FnScope ["shares", "bottom", "share"] ["shares"] (defScope s_law_levelled) := ⟨rfl, rfl, rfl, by decide +kernel, rfl, by decide +kernel, by decide +kernel⟩
theorem sc_law_sums : FnScope ["table", "whole", "row"] ["table"] (defScope s_law_sums) := ⟨rfl, rfl, rfl, by decide +kernel, rfl, by decide +kernel, by decide +kernel⟩
theorem sc_law_moved : FnScope ["table", "tops", "bottom", "whole", "found", "one", "often", "other"] ["table", "tops", "bottom"] (defScope s_law_moved) := ⟨rfl, rfl, rfl, by decide +kernel, rfl, by decide +kernel, by decide +kernel⟩
theorem sc_law_which : FnScope ["e", "low", "told"] ["e"] (defScope s_law_which) := ⟨rfl, rfl, rfl, by decide +kernel, rfl, by decide +kernel, by decide +kernel⟩
theorem sc_law_drawn : FnScope ["script", "spot", "many", "tops", "shares", "top", "both"] ["script", "spot", "many"] (defScope s_law_drawn) := ⟨rfl, rfl, rfl, by decide +kernel, rfl, by decide +kernel, by decide +kernel⟩
theorem sc_law_spoilt : FnScope ["shares", "way", "cell", "at", "top", "bottom"] ["shares", "way", "cell"] (defScope s_law_spoilt) := ⟨rfl, rfl, rfl, by decide +kernel, rfl, by decide +kernel, by decide +kernel⟩
theorem sc_law_asked : FnScope ["table", "shares", "told", "e"] ["table", "shares"] (defScope s_law_asked) := ⟨rfl, rfl, rfl, by decide +kernel, rfl, by decide +kernel, by decide +kernel⟩
theorem sc_law : FnScope ["script", "spot", "table", "many", "one", "other", "kept", "told", "shares", "way", "handed", "tops", "bottom", "found"] ["script"] (defScope s_law) := ⟨rfl, rfl, rfl, by decide +kernel, rfl, by decide +kernel, by decide +kernel⟩
/-- Python's own names stand for themselves; the constants -/
structure Txt (mg : Str → Option Value) : Prop where
  g_len : mg "len" = none
  g_all : mg "all" = none
  g_sum : mg "sum" = none
  g_range : mg "range" = none
  g_list : mg "list" = none
  g_bool : mg "bool" = none
  g_int : mg "int" = none
  g_tuple : mg "tuple" = none
  g_zip : mg "zip" = none
  g_isinstance : mg "isinstance" = none
  g_ValueError : mg "ValueError" = none
  c_MOST_ROOMS : ∃ t, mg "MOST_ROOMS" = some (.int 8 t)
  c_MOST_WEIGHT : ∃ t, mg "MOST_WEIGHT" = some (.int 9 t)
section
variable {P : Program} {w : World} {K : PySem.W.Frag} {mg : Str → Option Value} {base : Heap} {f : Addr} {fd : FuncData}
theorem c_cell_at (D : DefAt K mg "_law_cell_at" s_law_cell_at ["script", "k"] f fd) (T : Txt mg) : Callee P w K mg base 1 "_law_cell_at" ["script", "k"] (spCell K) := by
  refine D.ok sc_law_cell_at (fun vs H Q E h => ?_) (fun cdv A outer s H vs Q E hr h => ?_)
  · obtain ⟨a, ns, k, rfl, _⟩ := h
    rfl
  · obtain ⟨a, ns, k, rfl, hs, hk, kk⟩ := h
    refine ⟨_, (pss_cons (ps_if (pt_cmpR op_lt (pv 1) (pe_callB call_len_seq rfl T.g_len PySem.boot_len (pa_cons (pv 0) pa_nil)) (nomark _)) (pss_one (ps_ret (pe_ix ix_list (pv 0) (pv 1) (fun _ _ => rfl)))) pss_nil)
      (pss_one (ps_ret pe_int))), ?_⟩
    refine ⟨_, rfl, _, rfl, a, _, rfl, .inl hs, _, _, rfl, rfl, _, rfl, ?_⟩
    refine ite2 (fun hlt => ?_) (fun _ => ?_)
    · have hlt' : k < ((ns.map V.int).length : Int) := of_decide_eq_true hlt
      rw [List.length_map] at hlt'
      have hn : k.toNat < ns.length := by omega
      have e : (ns.map V.int)[k.toNat]? = some (.int ns[k.toNat]) := by
        rw [List.getElem?_map, List.getElem?_eq_getElem hn]
        rfl
      have e' := atI_nat e
      rw [Int.toNat_of_nonneg hk] at e'
      exact ⟨_, rfl, _, rfl, a, _, k, _, rfl, rfl, hs, e', kk _⟩
    · exact kk 0

theorem c_next (D : DefAt K mg "_law_next" s_law_next ["script", "spot"] f fd) (T : Txt mg) (G_law_cell_at : Callee P w K mg base 1 "_law_cell_at" ["script", "k"] (spCell K)) :
    Callee P w K mg base 2 "_law_next" ["script", "spot"] (spNext K) := by
  refine D.ok sc_law_next (fun vs H Q E h => ?_) (fun cdv A outer s H vs Q E hr h => ?_)
  · obtain ⟨a, p, ns, k, rfl, _⟩ := h
    rfl
  · obtain ⟨a, p, ns, k, rfl, hs, hp, hk, kk⟩ := h
    have B := (Bd.start hs hp hk).next
    refine ⟨_, (pss_cons (ps_asg (pe_op op_add (pe_ix ix_list (pv 1) pe_int (fun _ _ => rfl)) pe_int) (pg_sub (pv 1) pe_int set_list))
      (pss_one (ps_ret (pe_def G_law_cell_at (hr.mono (by decide)) rfl (pa_cons (pv 0) (pa_cons (pe_op op_sub (pe_ix ix_list (pv 1) pe_int (fun _ _ => rfl)) pe_int) pa_nil)))))), ?_⟩
    refine ⟨_, rfl, p, _, 0, _, rfl, rfl, SqL.of hp, rfl, _, _, rfl, rfl, ?_⟩
    refine ⟨_, rfl, p, _, 0, 0, rfl, rfl, hp, rfl, ?_⟩
    refine ⟨_, rfl, _, rfl, p, _, 0, _, rfl, rfl, SqL.of upd_same, rfl, _, _, rfl, rfl, ?_⟩
    refine ⟨a, ns, _, rfl, B.sc.seq, by omega, fun n => ?_⟩
    exact kk n

theorem c_weight (D : DefAt K mg "_law_weight" s_law_weight ["cell", "spare"] f fd) (T : Txt mg) : Callee P w K mg base 1 "_law_weight" ["cell", "spare"] spWeight := by
  refine D.ok sc_law_weight (fun vs H Q E h => ?_) (fun cdv A outer s H vs Q E hr h => ?_)
  · obtain ⟨c, x, rfl, _⟩ := h
    rfl
  · obtain ⟨c, x, rfl, kk⟩ := h
    refine ⟨_, (pss_cons (ps_if (pt_cmpR op_lt (pe_op op_mod (pv 0) pe_int) (pv 1) (nomark _)) (pss_one (ps_ret pe_int)) pss_nil)
      (pss_cons (ps_if (pt_cmpR op_eq (pe_op op_mod (pe_op op_fdiv (pv 0) pe_int) pe_int) pe_int (nomark _)) (pss_one (ps_ret pe_int)) pss_nil)
      (pss_one (ps_ret (pe_op op_add pe_int (pe_op op_mod (pe_op op_fdiv (pv 0) pe_int) pe_int)))))), ?_⟩
    refine ⟨_, rfl, _, _, rfl, rfl, (by show (0 : Int) < 7; decide), _, rfl, _, _, rfl, rfl, _, rfl, ?_⟩
    refine ite2 (fun _ => kk 0 (by decide) (by decide)) (fun _ => ?_)
    refine ⟨_, rfl, _, _, rfl, rfl, ⟨by decide, by decide⟩, _, _, rfl, rfl, (by show (0 : Int) < 3; decide), rfl, _, rfl, ?_⟩
    refine ite2 (fun _ => kk 1 (by decide) (by decide)) (fun _ => ?_)
    refine ⟨_, rfl, _, _, rfl, rfl, ⟨by decide, by decide⟩, _, _, rfl, rfl, (by show (0 : Int) < 9; decide), _, _, rfl, rfl, ?_⟩
    exact kk _ (by omega) (by omega)
/-! ### the program: is_row, is_house -/
def wtB (x : Int) : Bool := decide (0 ≤ x) && decide (x ≤ 9)
def rowB (m : Int) (row : List Int) : Bool := decide ((row.length : Int) = m) && (row.all wtB && decide (0 < row.sum))
def houseB (t : List (List Int)) : Bool := (decide (1 ≤ (t.length : Int)) && decide ((t.length : Int) ≤ 8)) && t.all (rowB t.length)
def spIsRow : Sp := fun vs H Q _ => ∃ (r : Addr) (row : List Int) (m : Int), vs = [.ref r, .int m] ∧ H r = some (.lst (row.map V.int)) ∧ row.length ≤ 1000 ∧ ∀ H', Same H H' → Q (.bl (rowB m row)) H'
def spIsHouse : Sp := fun vs H Q _ => ∃ (q : Addr) (rs : List Addr) (t : List (List Int)), vs = [.ref q] ∧ Tab H q rs t ∧ Small 1000 t ∧ ∀ H', Same H H' → Q (.bl (houseB t)) H'
theorem small_line {n : Nat} (h : n ≤ 1000) : n ≤ sizeLine := Nat.le_of_lt (small1000 h)

def chkV : V → V
  | .int x => .bl (wtB x)
  | _ => .non
theorem map_chk (row : List Int) : (((row.map V.int).filter fun _ => true).map chkV) = (row.map wtB).map V.bl := by
  induction row with
  | nil => rfl
  | cons x r ih =>
    simp only [List.map_cons, List.filter_cons, if_true] at ih ⊢
    rw [ih]
    rfl
theorem all_map_id (l : List Int) (f : Int → Bool) : (l.map f).all id = l.all f := by rw [List.all_map]; rfl

theorem c_is_row (D : DefAt K mg "is_row" s_is_row ["row", "rooms"] f fd) (T : Txt mg) : Callee P w K mg base 1 "is_row" ["row", "rooms"] spIsRow := by
  refine D.ok sc_is_row (fun vs H Q E h => ?_) (fun cdv A outer s H vs Q E hr h => ?_)
  · obtain ⟨r, row, m, rfl, _⟩ := h
    rfl
  · obtain ⟨r, row, m, rfl, hrow, hlen, kk⟩ := h
    have hs : SqL K H r (row.map V.int) := SqL.of hrow
    refine ⟨_, (pss_one (ps_ret (pe_and (pe_cmpR op_eq (pe_callB call_len_seq rfl T.g_len PySem.boot_len (pa_cons (pv 0) pa_nil)) (pv 1) (nomark _)) (pe_and (pe_callB (call_allB rfl) rfl T.g_all PyProof.Rows.boot_all (pa_cons (pe_comp (N := ["weight"]) (ix := [none]) rfl (CompOk.of (by rfl)) (pi_list (pv 0)) (fun _ _ _ _ => (pg_name (i := 0) (show List.Nodup (["weight"] : List Str) by decide +kernel) rfl (Or.inl rfl))) (fun _ _ _ _ => pts_nil) (fun _ _ _ _ => (pe_chain op_le op_le pe_int (pv 0) (pe_globI rfl T.c_MOST_WEIGHT)))) pa_nil)) (pe_one (pe_cmpR op_gt (pe_callB (call_sumI rfl) rfl T.g_sum PyProof.Rows.boot_sum (pa_cons (pv 0) pa_nil)) pe_int (nomark _))))))), ?_⟩
    refine ⟨_, rfl, r, _, rfl, .inl hs, _, rfl, rfl, _, rfl, ?_⟩
    refine ite2 (fun h1 => ?_) (fun h1 => ?_)
    · have e1 : (row.length : Int) = m := by
        have := V.int.inj (of_decide_eq_true h1)
        rwa [List.length_map] at this
      refine ⟨_, rfl, r, rfl, ⟨_, hs⟩, fun Dl hD => comp_pure (fun _ => true) chkV (by rw [List.length_map]; exact small_line hlen) hs hD (fun x _ ys R h => h) (fun x hx _ ys R h => ?_) ?_⟩
      · obtain ⟨y, _, rfl⟩ := List.mem_map.mp hx
        refine ⟨_, rfl, _, _, rfl, rfl, _, rfl, ?_⟩
        refine ite2 (fun h0 => ⟨_, _, rfl, rfl, ?_⟩) (fun h0 => ?_)
        · have e : wtB y = decide (y ≤ 9) := by unfold wtB; rw [h0]; rfl
          exact blq (h) e
        · have e : wtB y = false := by
            unfold wtB
            rw [Bool.eq_false_iff.mpr h0]
            rfl
          exact blq (h) e
      · rw [map_chk]
        refine ⟨Dl, row.map wtB, rfl, SqL.of upd_same, _, rfl, ?_⟩
        rw [all_map_id]
        have sm : Same H (upd H Dl (.lst ((row.map wtB).map V.bl))) := Same.upd_new hD
        refine ite2 (fun h2 => ?_) (fun h2 => ?_)
        · refine ⟨_, rfl, r, row, rfl, SqL.of (sm _ _ hrow), _, _, rfl, rfl, ?_⟩
          have e : rowB m row = decide (0 < row.sum) := by unfold rowB; rw [decide_eq_true e1, h2]; rfl
          exact blq (kk _ sm) e
        · have e : rowB m row = false := by unfold rowB; rw [Bool.eq_false_iff.mpr h2, Bool.false_and, Bool.and_false]
          exact blq (kk _ sm) e
    · have e : rowB m row = false := by
        unfold rowB
        rw [decide_eq_false, Bool.false_and]
        intro z
        refine h1 (decide_eq_true ?_)
        rw [List.length_map, z]
      exact blq (kk H (Same.refl H)) e

theorem c_is_house (D : DefAt K mg "is_house" s_is_house ["table"] f fd) (T : Txt mg) (G_is_row : Callee P w K mg base 1 "is_row" ["row", "rooms"] spIsRow) : Callee P w K mg base 2 "is_house" ["table"] spIsHouse := by
  refine D.ok sc_is_house (fun vs H Q E h => ?_) (fun cdv A outer s H vs Q E hr h => ?_)
  · obtain ⟨q, rs, t, rfl, _⟩ := h
    rfl
  · obtain ⟨q, rs, t, rfl, tab, sm, kk⟩ := h
    have hl : rs.length = t.length := tab.len
    have hq : SqL K H q (rs.map V.ref) := SqL.of tab.top
    have hlm : (rs.map V.ref).length = t.length := by rw [List.length_map]; exact hl
    refine ⟨_, (pss_cons (ps_set (i := 1) sc_is_house.nd rfl (Or.inr rfl) (pe_callB call_len_seq rfl T.g_len PySem.boot_len (pa_cons (pv 0) pa_nil)))
      (pss_one (ps_ret (pe_and (pe_chain op_le op_le pe_int (pv 1) (pe_globI rfl T.c_MOST_ROOMS)) (pe_one (pe_callB (call_allB rfl) rfl T.g_all PyProof.Rows.boot_all (pa_cons (pe_comp (N := ["row", "rooms"]) (ix := [none, some 1]) rfl (CompOk.of (by rfl)) (pi_list (pv 0)) (fun _ _ _ _ => (pg_name (i := 0) (show List.Nodup (["row", "rooms"] : List Str) by decide +kernel) rfl (Or.inl rfl))) (fun _ _ _ _ => pts_nil) (fun _ _ _ _ => (pe_def G_is_row (hr.mono (by decide)) rfl (pa_cons (pv 0) (pa_cons (pv 1) pa_nil))))) pa_nil))))))), ?_⟩
    refine ⟨_, rfl, q, _, rfl, .inl hq, ?_⟩
    refine ⟨_, rfl, _, _, rfl, rfl, _, rfl, ?_⟩
    rw [hlm]
    refine ite2 (fun h1 => ⟨_, _, rfl, rfl, ?_⟩) (fun h1 => ?_)
    · refine ⟨_, rfl, ?_⟩
      refine ite2 (fun h2 => ?_) (fun h2 => ?_)
      · refine ⟨_, rfl, q, rfl, ⟨_, hq⟩, fun Dl hD => comp_list (xs := rs.map V.ref) (fun i ys H' => ys = (t.take i).map (fun row => V.bl (rowB t.length row)) ∧ Same H H' ∧ H' Dl = some (.lst ys))
          (by rw [hlm]; exact small_line sm.1) ⟨by simp, Same.upd_new hD, upd_same⟩ (fun i ys H' hi ⟨e, s1, e2⟩ => ⟨s1.seq hq, by rw [e, List.length_map, List.length_take]; omega⟩) ?_ ?_⟩
        · rintro i x ys H' hx ⟨e, s1, e2⟩
          obtain ⟨r, hr', rfl⟩ : ∃ r, rs[i]? = some r ∧ x = V.ref r := by
            rw [List.getElem?_map] at hx
            cases z : rs[i]? with
            | none => rw [z] at hx; cases hx
            | some r => rw [z] at hx; exact ⟨r, rfl, (Option.some.inj hx).symm⟩
          obtain ⟨row, h3, h4⟩ := pr_get tab.rows hr'
          refine ⟨_, rfl, _, rfl, r, row, _, rfl, s1 _ _ h4, sm.2 row (List.mem_of_getElem? h3), fun H4 s4 => ⟨s4 _ _ e2, ?_, ?_, upd_same⟩⟩
          · rw [e, List.take_add_one, h3]
            simp
          · intro b o hb
            have hb' : b ≠ Dl := ne_of_none hb hD
            rw [upd_ne hb']
            exact s4 _ _ (s1 _ _ hb)
        · rintro ys H' ⟨e, s1, e2⟩
          rw [hlm, List.take_length] at e
          have e' : ys = (t.map (rowB t.length)).map V.bl := by rw [e, List.map_map]; rfl
          subst e'
          refine ⟨Dl, t.map (rowB t.length), rfl, SqL.of e2, ?_⟩
          have ev : houseB t = (t.map (rowB t.length)).all id := by
            unfold houseB
            rw [h1, h2, List.all_map]
            rfl
          exact blq (kk _ s1) ev
      · have ev : houseB t = false := by unfold houseB; rw [Bool.eq_false_iff.mpr h2, Bool.and_false, Bool.false_and]
        exact blq (kk _ (Same.refl H)) ev
    · refine ⟨_, rfl, iteF ?_⟩
      have ev : houseB t = false := by unfold houseB; rw [Bool.eq_false_iff.mpr h1, Bool.false_and, Bool.false_and]
      exact blq (kk _ (Same.refl H)) ev
theorem sum_pos' : ∀ {l : List Int}, (∀ x ∈ l, 0 ≤ x) → 0 ≤ l.sum ∧ ((∃ x ∈ l, x ≠ 0) → 0 < l.sum)
  | [], _ => ⟨Int.le_refl 0, fun ⟨_, h, _⟩ => absurd h (by simp)⟩
  | x :: l, h => by
    obtain ⟨h1, h2⟩ := sum_pos' (l := l) fun y hy => h y (List.mem_cons_of_mem _ hy)
    have hx := h x List.mem_cons_self
    rw [List.sum_cons]
    refine ⟨by omega, fun ⟨y, hy, y0⟩ => ?_⟩
    rcases List.mem_cons.mp hy with rfl | hy
    · omega
    · have := h2 ⟨y, hy, y0⟩
      omega
theorem row_true {m : Nat} {row : List Int} (h1 : row.length = m) (h2 : row.count 0 ≠ m) (h3 : row.all wtB = true) : rowB m row = true := by
  have nn : ∀ x ∈ row, 0 ≤ x := fun x hx => by
    have := List.all_eq_true.mp h3 x hx
    unfold wtB at this
    exact of_decide_eq_true (Bool.and_eq_true_iff.mp this).1
  have ne : ∃ x ∈ row, x ≠ 0 := by
    refine Classical.byContradiction fun q => h2 ?_
    rw [← h1]
    exact List.count_eq_length.mpr fun b hb => Classical.byContradiction fun z => q ⟨b, hb, fun e => z e.symm⟩
  unfold rowB
  rw [h3, decide_eq_true (by rw [h1]), decide_eq_true ((sum_pos' nn).2 ne)]
  rfl

/-! ### the law's houses -/
theorem c_some_house (D : DefAt K mg "_law_some_house" s_law_some_house ["script", "spot", "many"] f fd) (T : Txt mg) (G_law_next : Callee P w K mg base 2 "_law_next" ["script", "spot"] (spNext K))
    (G_law_weight : Callee P w K mg base 1 "_law_weight" ["cell", "spare"] spWeight) : Callee P w K mg base 3 "_law_some_house" ["script", "spot", "many"] (spMake K) := by
  refine D.ok sc_law_some_house (fun vs H Q E h => ?_) (fun cdv A outer s H vs Q E hr h => ?_)
  · obtain ⟨a, p, ns, k, m, rfl, _⟩ := h
    rfl
  · obtain ⟨a, p, ns, k, m', rfl, hs, hp, hk, m1, m8, kk⟩ := h
    obtain ⟨m, rfl⟩ := Int.eq_ofNat_of_zero_le (show 0 ≤ m' by omega)
    have B0 := Bd.start hs hp hk
    refine ⟨_, (pss_cons (ps_set (i := 3) sc_law_some_house.nd rfl (Or.inl rfl) (pe_op op_mod (pe_def G_law_next (hr.mono (by decide)) rfl (pa_cons (pv 0) (pa_cons (pv 1) pa_nil))) pe_int))
      (pss_cons (ps_set (i := 4) sc_law_some_house.nd rfl (Or.inl rfl) (pe_lst pa_nil))
      (pss_cons (ps_set (i := 5) sc_law_some_house.nd rfl (Or.inl rfl) pe_int)
      (pss_cons (ps_for PassesOwn.never rfl (pi_range1 rfl T.g_range (pa_cons (pv 2) pa_nil)) (pg_name (i := 6) sc_law_some_house.nd rfl (Or.inl rfl))
      (pss_cons (ps_set (i := 7) sc_law_some_house.nd rfl (Or.inl rfl) (pe_lst pa_nil))
      (pss_cons (ps_for PassesOwn.never rfl (pi_range1 rfl T.g_range (pa_cons (pv 2) pa_nil)) (pg_name (i := 8) sc_law_some_house.nd rfl (Or.inl rfl))
      (pss_cons (ps_set (i := 5) sc_law_some_house.nd rfl (Or.inl rfl) (pe_op op_fdiv (pv 5) pe_int))
      (pss_cons (ps_if (pt_cmpR op_eq (pe_op op_mod (pe_op op_add (pe_op op_mul (pv 2) (pv 6)) (pv 8)) pe_int) pe_int (nomark _)) (pss_one (ps_set (i := 5) sc_law_some_house.nd rfl (Or.inl rfl) (pe_op op_add (pe_def G_law_next (hr.mono (by decide)) rfl (pa_cons (pv 0) (pa_cons (pv 1) pa_nil))) (pe_op op_mul pe_int (pe_op op_add (pe_op op_mul (pv 2) (pv 6)) (pv 8)))))) pss_nil)
      (pss_one (ps_expr (pe_bm PySem.F.plainAttrs_list PySem.F.slot_list_append PySem.F.type_list_append mt_append (pv 7) (pa_cons (pe_def G_law_weight (hr.mono (by decide)) rfl (pa_cons (pv 5) (pa_cons (pv 3) pa_nil))) pa_nil)))))))
      (pss_cons (ps_if (pt_cmpR op_eq (pe_callB (call_sumI rfl) rfl T.g_sum PyProof.Rows.boot_sum (pa_cons (pv 7) pa_nil)) pe_int (nomark _)) (pss_one (ps_asg (pe_op op_add pe_int (pe_op op_mod (pe_def G_law_next (hr.mono (by decide)) rfl (pa_cons (pv 0) (pa_cons (pv 1) pa_nil))) pe_int)) (pg_sub (pv 7) (pe_op op_mod (pe_def G_law_next (hr.mono (by decide)) rfl (pa_cons (pv 0) (pa_cons (pv 1) pa_nil))) (pv 2)) set_list))) pss_nil)
      (pss_one (ps_expr (pe_bm PySem.F.plainAttrs_list PySem.F.slot_list_append PySem.F.type_list_append mt_append (pv 4) (pa_cons (pv 7) pa_nil))))))))
      (pss_one (ps_ret (pv 4))))))), ?_⟩
    -- spare = next % 6; table = []
    refine ⟨_, rfl, _, rfl, a, p, ns, k, rfl, hs, hp, hk, fun n0 => ⟨_, _, rfl, rfl, (by show (0 : Int) < 6; decide), Nat.zero_le _, fun q hq => ?_⟩⟩
    have B1 := B0.next
    have B2 := B1.new (o := .lst []) hq
    have O2 : Own H (upd (upd H p (.lst [.int (k + 1)])) q (.lst [])) q [] [] := ⟨⟨upd_same, .nil, List.nodup_nil⟩, B1.old hq, fun r hr => absurd hr (by simp)⟩
    refine ⟨_, rfl, _, rfl, by omega, by omega, for_range (lo := 0) (n := m) (fun i σ H' => ∃ (k' : Int) (rs : List Addr) (t : List (List Int)) (sd : Int) (o1 o2 o3 : Option V),
      σ = [some (.ref a), some (.ref p), some (.int m), some (.int (n0 % 6)), some (.ref q), some (.int sd), o1, o2, o3] ∧ Bd K H a ns p H' k' ∧ Own H H' q rs t ∧ t.length = i ∧ ∀ row ∈ t, GoodRow m row)
      ⟨_, [], [], 0, none, none, none, rfl, B2, O2, rfl, by simp⟩ ?_ ?_⟩
    · rintro i σ H' hi ⟨k', rs, t, sd, o1, o2, o3, rfl, B, O, hl, hg⟩
      -- row = []
      refine ⟨Nat.zero_le _, fun r hr' => ?_⟩
      have r0 := B.old hr'
      obtain ⟨nrs, nrq⟩ := O.notIn hr'
      refine ⟨_, rfl, _, rfl, by omega, by omega, for_range (lo := 0) (n := m) (fun j σ H2 => ∃ (k2 : Int) (ws : List Int) (sd2 : Int) (o4 : Option V),
        σ = [some (.ref a), some (.ref p), some (.int m), some (.int (n0 % 6)), some (.ref q), some (.int sd2), some (.int (0 + (i : Nat))), some (.ref r), o4] ∧ Bd K H a ns p H2 k2 ∧ Own H H2 q rs t ∧
        H2 r = some (.lst (ws.map V.int)) ∧ ws.length = j ∧ ∀ x ∈ ws, 0 ≤ x ∧ x ≤ 9) ⟨_, [], sd, o3, rfl, B.new hr', O.new hr', upd_same, rfl, by simp⟩ ?_ ?_⟩
      · rintro j σ H2 hj ⟨k2, ws, sd2, o4, rfl, B2, O2, hrow, hlj, hw⟩
        refine ⟨_, rfl, _, _, rfl, rfl, ⟨by decide, by decide⟩, ?_⟩
        refine ⟨_, rfl, _, rfl, _, _, rfl, rfl, .inl ⟨by omega, by omega⟩, _, rfl, _, _, rfl, rfl, _, _, rfl, rfl, (by show (0 : Int) < 2; decide), rfl, _, rfl, ?_⟩
        refine ite2 (fun _ => ?_) (fun _ => ?_)
        · refine ⟨_, rfl, _, rfl, a, p, ns, k2, rfl, B2.sc, B2.spot, B2.k0, fun n1 => ?_⟩
          have hrow' : upd H2 p (.lst [.int (k2 + 1)]) r = some (.lst (ws.map V.int)) := by rw [upd_ne (B2.ne r0)]; exact hrow
          refine ⟨_, rfl, _, rfl, _, _, rfl, rfl, .inl ⟨by omega, by omega⟩, _, rfl, _, _, rfl, rfl, _, _, rfl, rfl, .inl ⟨by decide, by decide⟩, _, _, rfl, rfl, ?_⟩
          refine ⟨_, rfl, .inl ⟨rfl, _, SqL.of hrow'⟩, _, rfl, _, rfl, _, _, rfl, fun x x0 x9 => ⟨r, _, _, rfl, rfl, hrow', small1000 (by rw [List.length_map]; omega), ?_⟩⟩
          refine ⟨_, ws ++ [x], _, _, rfl, B2.next.own r0, (Own.spot B2 O2).mine nrs nrq, ?_, by rw [List.length_append, hlj]; rfl, fun y hy => ?_⟩
          · rw [upd_same, List.map_append]; rfl
          · rcases List.mem_append.mp hy with hy | hy
            · exact hw y hy
            · rw [List.mem_singleton.mp hy]; exact ⟨x0, x9⟩
        · refine ⟨_, rfl, .inl ⟨rfl, _, SqL.of hrow⟩, _, rfl, _, rfl, _, _, rfl, fun x x0 x9 => ⟨r, _, _, rfl, rfl, hrow, small1000 (by rw [List.length_map]; omega), ?_⟩⟩
          refine ⟨_, ws ++ [x], _, _, rfl, B2.own r0, O2.mine nrs nrq, ?_, by rw [List.length_append, hlj]; rfl, fun y hy => ?_⟩
          · rw [upd_same, List.map_append]; rfl
          · rcases List.mem_append.mp hy with hy | hy
            · exact hw y hy
            · rw [List.mem_singleton.mp hy]; exact ⟨x0, x9⟩
      · rintro σ H2 ⟨k2, ws, sd2, o4, rfl, B2, O2, hrow, hlm, hw⟩
        have push : ∀ {H3 : Hp} {k3 : Int} {ws3 : List Int}, Bd K H a ns p H3 k3 → Own H H3 q rs t → H3 r = some (.lst (ws3.map V.int)) → GoodRow m ws3 →
            (Bd K H a ns p (upd H3 q (.lst (rs.map V.ref ++ [.ref r]))) k3 ∧ Own H (upd H3 q (.lst (rs.map V.ref ++ [.ref r]))) q (rs ++ [r]) (t ++ [ws3]) ∧ (t ++ [ws3]).length = i + 1 ∧ ∀ row ∈ t ++ [ws3], GoodRow m row) := by
          intro H3 k3 ws3 B3 O3 e3 g3
          have e : rs.map V.ref ++ [.ref r] = (rs ++ [r]).map V.ref := by rw [List.map_append]; rfl
          rw [e]
          refine ⟨B3.own O3.nq, O3.push e3 r0 nrs nrq, by rw [List.length_append, hl]; rfl, fun row hrw => ?_⟩
          rcases List.mem_append.mp hrw with h | h
          · exact hg row h
          · rw [List.mem_singleton.mp h]; exact g3
        have tl : rs.length < 1000 := by rw [O.tab.len]; omega
        refine ⟨_, rfl, r, ws, rfl, SqL.of hrow, rfl, _, rfl, ?_⟩
        refine ite2 (fun _ => ?_) (fun hsum => ?_)
        · -- row[next % many] = 1 + next % 9
          refine ⟨_, rfl, _, rfl, a, p, ns, k2, rfl, B2.sc, B2.spot, B2.k0, fun n1 => ⟨_, _, rfl, rfl, (by show (0 : Int) < 9; decide), _, _, rfl, rfl, ?_⟩⟩
          refine ⟨_, rfl, _, rfl, _, rfl, a, p, ns, k2 + 1, rfl, B2.next.sc, B2.next.spot, B2.next.k0, fun n2 => ⟨_, rfl, _, _, rfl, rfl, (by show (0 : Int) < m; omega), ?_⟩⟩
          have B4 := B2.next.next
          have O4 := Own.spot (o := .lst [.int (k2 + 1 + 1)]) B2.next (Own.spot (o := .lst [.int (k2 + 1)]) B2 O2)
          have hrow4 : upd (upd H2 p (.lst [.int (k2 + 1)])) p (.lst [.int (k2 + 1 + 1)]) r = some (.lst (ws.map V.int)) := by rw [upd_ne (B2.ne r0), upd_ne (B2.ne r0)]; exact hrow
          have b1 : 0 ≤ n2 % (m : Int) := Int.emod_nonneg _ (by omega)
          have b2 : n2 % (m : Int) < m := Int.emod_lt_of_pos _ (by omega)
          refine ⟨r, _, _, _, rfl, rfl, hrow4, ixN_of b1 (by rw [List.length_map]; omega), ?_⟩
          rw [SH.set_map]
          have B5 := B4.own (o := .lst ((ws.set (n2 % (m : Int)).toNat (1 + n1 % 9)).map V.int)) r0
          have O5 := O4.mine (o := .lst ((ws.set (n2 % (m : Int)).toNat (1 + n1 % 9)).map V.int)) nrs nrq
          refine ⟨_, rfl, .inl ⟨rfl, _, O5.sq⟩, _, rfl, q, _, _, rfl, rfl, O5.tab.top, small1000 (by rw [List.length_map]; omega), ?_⟩
          obtain ⟨z1, z2, z3, z4⟩ := push B5 O5 upd_same (GoodRow.set hlm hw (by omega) (by omega) (by omega))
          exact ⟨_, _, _, _, _, _, _, rfl, z1, z2, z3, z4⟩
        · have g : GoodRow m ws := ⟨hlm, hw, nonzero_of_sum fun z => hsum (by rw [z]; rfl)⟩
          refine ⟨_, rfl, .inl ⟨rfl, _, O2.sq⟩, _, rfl, q, _, _, rfl, rfl, O2.tab.top, small1000 (by rw [List.length_map]; omega), ?_⟩
          obtain ⟨z1, z2, z3, z4⟩ := push B2 O2 hrow g
          exact ⟨_, _, _, _, _, _, _, rfl, z1, z2, z3, z4⟩
    · rintro σ H' ⟨k', rs, t, sd, o1, o2, o3, rfl, B, O, hl, hg⟩
      exact ⟨_, rfl, kk H' q rs t k' B O ⟨by omega, by omega, fun row h => hl ▸ hg row h⟩ (by rw [hl])⟩
theorem c_even_house (D : DefAt K mg "_law_even_house" s_law_even_house ["script", "spot", "many"] f fd) (T : Txt mg) (G_law_next : Callee P w K mg base 2 "_law_next" ["script", "spot"] (spNext K)) :
    Callee P w K mg base 3 "_law_even_house" ["script", "spot", "many"] (spMake K) := by
  refine D.ok sc_law_even_house (fun vs H Q E h => ?_) (fun cdv A outer s H vs Q E hr h => ?_)
  · obtain ⟨a, p, ns, k, m, rfl, _⟩ := h
    rfl
  · obtain ⟨a, p, ns, k, m', rfl, hs, hp, hk, m1, m8, kk⟩ := h
    obtain ⟨m, rfl⟩ := Int.eq_ofNat_of_zero_le (show 0 ≤ m' by omega)
    have B0 := Bd.start hs hp hk
    have ml : m ≤ sizeLine := small_line (by omega)
    refine ⟨_, (pss_cons (ps_comp (i := 3) (N := ["one", "many"]) (ix := [none, some 2]) sc_law_even_house.nd rfl rfl rfl (CompOk.of (by rfl)) (pi_range1 rfl T.g_range (pa_cons (pv 2) pa_nil)) (fun _ _ _ _ => (pg_name (i := 0) (show List.Nodup (["one", "many"] : List Str) by decide +kernel) rfl (Or.inl rfl))) (fun _ _ _ _ => pts_nil) (fun _ _ _ _ => (pe_comp (N := ["other"]) (ix := [none]) rfl (CompOk.of (by rfl)) (pi_range1 rfl T.g_range (pa_cons (pv 1) pa_nil)) (fun _ _ _ _ => (pg_name (i := 0) (show List.Nodup (["other"] : List Str) by decide +kernel) rfl (Or.inl rfl))) (fun _ _ _ _ => pts_nil) (fun _ _ _ _ => pe_int))))
      (pss_cons (ps_for PassesOwn.never rfl (pi_range1 rfl T.g_range (pa_cons (pv 2) pa_nil)) (pg_name (i := 4) sc_law_even_house.nd rfl (Or.inl rfl))
      (pss_cons (ps_for PassesOwn.never rfl (pi_range1 rfl T.g_range (pa_cons (pe_op op_add (pv 4) pe_int) pa_nil)) (pg_name (i := 5) sc_law_even_house.nd rfl (Or.inl rfl))
      (pss_cons (ps_set (i := 6) sc_law_even_house.nd rfl (Or.inl rfl) (pe_op op_add (pe_def G_law_next (hr.mono (by decide)) rfl (pa_cons (pv 0) (pa_cons (pv 1) pa_nil))) (pe_op op_mul pe_int (pe_op op_add (pe_op op_mul (pv 2) (pv 4)) (pv 5)))))
      (pss_cons (ps_asg (pe_ix ix_list (pe_lst (pa_cons pe_int (pa_cons pe_int (pa_cons pe_int (pa_cons pe_int (pa_cons pe_int pa_nil)))))) (pe_op op_mod (pv 6) pe_int) (fun _ _ => rfl)) (pg_sub (pe_ix ix_list (pv 3) (pv 4) (fun _ _ => rfl)) (pv 5) set_list))
      (pss_one (ps_asg (pe_ix ix_list (pe_ix ix_list (pv 3) (pv 4) (fun _ _ => rfl)) (pv 5) (fun _ _ => rfl)) (pg_sub (pe_ix ix_list (pv 3) (pv 5) (fun _ _ => rfl)) (pv 4) set_list))))))
      (pss_one (ps_if (PW.pt (pw_and (pt_cmpR op_gt (pv 4) pe_int (nomark _)) (pw_and1 (pt_cmpR op_eq (pe_callB (call_sumI rfl) rfl T.g_sum PyProof.Rows.boot_sum (pa_cons (pe_slice sl_list (pe_ix ix_list (pv 3) (pv 4) (fun _ _ => rfl)) po_none (po_some (pv 4))) pa_nil)) pe_int (nomark _))))) (pss_cons (ps_asg pe_int (pg_sub (pe_ix ix_list (pv 3) (pv 4) (fun _ _ => rfl)) (pe_op op_sub (pv 4) pe_int) set_list))
      (pss_one (ps_asg pe_int (pg_sub (pe_ix ix_list (pv 3) (pe_op op_sub (pv 4) pe_int) (fun _ _ => rfl)) (pv 4) set_list)))) pss_nil))))
      (pss_cons (ps_if (pt_cmpR op_eq (pe_callB (call_sumI rfl) rfl T.g_sum PyProof.Rows.boot_sum (pa_cons (pe_ix ix_list (pv 3) pe_int (fun _ _ => rfl)) pa_nil)) pe_int (nomark _)) (pss_one (ps_asg pe_int (pg_sub (pe_ix ix_list (pv 3) pe_int (fun _ _ => rfl)) pe_int set_list))) pss_nil)
      (pss_cons (ps_set (i := 7) sc_law_even_house.nd rfl (Or.inl rfl) (pe_lst pa_nil))
      (pss_cons (ps_for PassesOwn.never rfl (pi_list (pv 3)) (pg_name (i := 8) sc_law_even_house.nd rfl (Or.inl rfl))
      (pss_cons (ps_set (i := 9) sc_law_even_house.nd rfl (Or.inr rfl) (pe_op op_add pe_int (pe_op op_mod (pe_def G_law_next (hr.mono (by decide)) rfl (pa_cons (pv 0) (pa_cons (pv 1) pa_nil))) pe_int)))
      (pss_one (ps_expr (pe_bm PySem.F.plainAttrs_list PySem.F.slot_list_append PySem.F.type_list_append mt_append (pv 7) (pa_cons (pe_comp (N := ["weight", "often"]) (ix := [none, some 9]) rfl (CompOk.of (by rfl)) (pi_list (pv 8)) (fun _ _ _ _ => (pg_name (i := 0) (show List.Nodup (["weight", "often"] : List Str) by decide +kernel) rfl (Or.inl rfl))) (fun _ _ _ _ => pts_nil) (fun _ _ _ _ => (pe_op op_mul (pv 0) (pv 1)))) pa_nil))))))
      (pss_one (ps_ret (pv 7)))))))), ?_⟩
    -- table = noughts
    refine ⟨_, rfl, _, rfl, by omega, by omega, fun q hq => comp_range (n := m) (fun i ys H' => ∃ rs : List Addr, ys = rs.map V.ref ∧ Same H H' ∧ H' q = some (.lst ys) ∧ rs.Nodup ∧ rs.length = i ∧
        ∀ r ∈ rs, H r = none ∧ r ≠ q ∧ H' r = some (.lst ((List.replicate m (0 : Int)).map V.int))) ml ⟨[], rfl, Same.upd_new hq, upd_same, List.nodup_nil, rfl, by simp⟩
        (fun i ys H' _ ⟨rs, e, _, _, _, hl, _⟩ => by rw [e, List.length_map, hl]; exact Nat.le_refl _) ?_ ?_⟩
    · rintro i ys H' hi ⟨rs, rfl, s1, e1, nd, hl, hrs⟩
      refine ⟨_, rfl, _, rfl, by omega, by omega, fun r hr' => comp_range (n := m) (fun j zs H2 => zs = (List.replicate j (0 : Int)).map V.int ∧ H2 = upd H' r (.lst zs)) ml ⟨rfl, rfl⟩
        (fun j zs H2 _ ⟨e, _⟩ => by rw [e, List.length_map, List.length_replicate]; exact Nat.le_refl _) ?_ ?_⟩
      · rintro j zs H2 hj ⟨rfl, rfl⟩
        refine ⟨upd_same, ?_, by rw [upd_upd]⟩
        rw [List.replicate_succ', List.map_append]
        rfl
      · rintro zs H2 ⟨rfl, rfl⟩
        have nq : q ≠ r := fun z => by rw [← z, e1] at hr'; cases hr'
        have nrs : r ∉ rs := fun z => by rw [(hrs r z).2.2] at hr'; cases hr'
        have hr0 : H r = none := s1.free hr'
        refine ⟨by rw [upd_ne nq]; exact e1, rs ++ [r], by rw [List.map_append]; rfl, ?_, upd_same, ?_, by rw [List.length_append, hl]; rfl, fun x hx => ?_⟩
        · intro b o hb
          rw [upd_ne (ne_of_none hb hq), upd_ne (ne_of_none hb hr0)]
          exact s1 _ _ hb
        · exact List.nodup_append.mpr ⟨nd, by simp, fun a ha b hb => by
            rw [List.mem_singleton.mp hb]
            exact fun z => nrs (z ▸ ha)⟩
        · rcases List.mem_append.mp hx with h | h
          · obtain ⟨h1, h2, h3⟩ := hrs x h
            refine ⟨h1, h2, ?_⟩
            rw [upd_ne h2, upd_ne (show x ≠ r from fun z => nrs (z ▸ h))]
            exact h3
          · rw [List.mem_singleton.mp h]
            exact ⟨hr0, Ne.symm nq, by rw [upd_ne (Ne.symm nq), upd_same]⟩
    rintro ys H1 ⟨rs, rfl, s1, e1, nd, hl, hrs⟩
    have nqr : ∀ {b : Addr} {o : HO}, H b = some o → H1 b = some o := fun h => s1 _ _ h
    have B1 : Bd K H a ns p H1 k := ⟨hs, ⟨_, hp⟩, Ext.same s1 _, s1 _ _ hp, hk⟩
    have pr : Paired (IsRow H1) rs (List.replicate m (List.replicate m (0 : Int))) := by
      have key : ∀ (l : List Addr), (∀ r ∈ l, H1 r = some (.lst ((List.replicate m (0 : Int)).map V.int))) → Paired (IsRow H1) l (List.replicate l.length (List.replicate m (0 : Int))) := by
        intro l
        induction l with
        | nil => intro _; exact .nil
        | cons x l ih => intro h; exact .cons (h x List.mem_cons_self) (ih fun y hy => h y (List.mem_cons_of_mem _ hy))
      have kr := key rs fun r h => (hrs r h).2.2
      rwa [hl] at kr
    have O1 : Own H H1 q rs (List.replicate m (List.replicate m (0 : Int))) := ⟨⟨e1, pr, nd⟩, hq, fun r h => (hrs r h).1⟩
    have S1 : Sq m (List.replicate m (List.replicate m (0 : Int))) := ⟨by simp, fun row h => by
      rw [(List.mem_replicate.mp h).2]
      refine ⟨by simp, fun x hx => ?_⟩
      rw [(List.mem_replicate.mp hx).2]
      exact ⟨by decide, by decide⟩⟩
    -- for one in range(many)
    refine ⟨_, rfl, _, rfl, by omega, by omega, for_range (lo := 0) (n := m) (fun i σ H' => ∃ (k' : Int) (t : List (List Int)) (o1 o2 o3 : Option V),
      σ = [some (.ref a), some (.ref p), some (.int m), some (.ref q), o1, o2, o3, none, none, none] ∧ Bd K H a ns p H' k' ∧ Own H H' q rs t ∧ Sq m t ∧ NZ i t)
      ⟨_, _, none, none, none, rfl, B1, O1, S1, fun i' _ h => absurd h (Nat.not_lt_zero _)⟩ ?_ ?_⟩
    · rintro i σ H' hi ⟨k', t, o1, o2, o3, rfl, B, O, S, Z⟩
      -- for other in range(one + 1)
      refine ⟨_, rfl, _, _, rfl, rfl, _, rfl, by omega, by omega, for_range (lo := 0) (n := (0 + (i : Nat) + 1 : Int).toNat) (fun j σ H' => ∃ (k' : Int) (t : List (List Int)) (o2 o3 : Option V),
        σ = [some (.ref a), some (.ref p), some (.int m), some (.ref q), some (.int (0 + (i : Nat))), o2, o3, none, none, none] ∧ Bd K H a ns p H' k' ∧ Own H H' q rs t ∧ Sq m t ∧ NZ i t)
        ⟨_, _, _, _, rfl, B, O, S, Z⟩ ?_ ?_⟩
      · clear k' t o2 o3 B O S Z H'
        rintro j σ H' hj ⟨k', t, o2, o3, rfl, B, O, S, Z⟩
        -- cell = ..
        refine ⟨_, rfl, _, rfl, a, p, ns, k', rfl, B.sc, B.spot, B.k0, fun n1 => ?_⟩
        refine ⟨_, rfl, _, rfl, _, _, rfl, rfl, .inl ⟨by omega, by omega⟩, _, rfl, _, _, rfl, rfl, _, _, rfl, rfl, .inl ⟨by decide, by decide⟩, _, _, rfl, rfl, ?_⟩
        have B2 := B.next
        have O2 := Own.spot (o := .lst [.int (k' + 1)]) B O
        -- table[one][other] = [0, 1, 2, 3, 1][cell % 5]
        refine ⟨by decide, fun l hl' => ?_⟩
        have B3 := B2.new (o := .lst [.int 0, .int 1, .int 2, .int 3, .int 1]) hl'
        have O3 := O2.new (o := .lst [.int 0, .int 1, .int 2, .int 3, .int 1]) hl'
        refine ⟨_, rfl, _, _, rfl, rfl, (by show (0 : Int) < 5; decide), ?_⟩
        obtain ⟨v, hv, v0, v3⟩ : ∃ v : Int, atI [V.int 0, V.int 1, V.int 2, V.int 3, V.int 1] ((n1 + 7919 * ((m : Int) * (0 + (i : Nat)) + (0 + (j : Nat)))) % 5) = some (.int v) ∧ 0 ≤ v ∧ v ≤ 3 := by
          have c0 : 0 ≤ (n1 + 7919 * ((m : Int) * (0 + (i : Nat)) + (0 + (j : Nat)))) % 5 := Int.emod_nonneg _ (by decide)
          have c1 : (n1 + 7919 * ((m : Int) * (0 + (i : Nat)) + (0 + (j : Nat)))) % 5 < 5 := Int.emod_lt_of_pos _ (by decide)
          generalize (n1 + 7919 * ((m : Int) * (0 + (i : Nat)) + (0 + (j : Nat)))) % 5 = c5 at c0 c1 ⊢
          have : c5 = 0 ∨ c5 = 1 ∨ c5 = 2 ∨ c5 = 3 ∨ c5 = 4 := by omega
          rcases this with h | h | h | h | h
          · exact ⟨0, by rw [h]; rfl, by decide, by decide⟩
          · exact ⟨1, by rw [h]; rfl, by decide, by decide⟩
          · exact ⟨2, by rw [h]; rfl, by decide, by decide⟩
          · exact ⟨3, by rw [h]; rfl, by decide, by decide⟩
          · exact ⟨1, by rw [h]; rfl, by decide, by decide⟩
        refine ⟨l, _, _, _, rfl, rfl, SqL.of upd_same, hv, ?_⟩
        obtain ⟨r, row, q1, q2, q3, q4, q5⟩ := O3.at (i := i) (by rw [S.len]; exact hi)
        have rl := (S.rows row (List.mem_of_getElem? q2)).1
        refine ⟨_, rfl, _, rfl, q, _, _, _, rfl, rfl, O3.sq, atI_pos (by omega) (show (rs.map V.ref)[(0 + (i : Nat) : Int).toNat]? = some (.ref r) by rw [show (0 + (i : Nat) : Int).toNat = i by omega]; exact q3), ?_⟩
        refine ⟨_, rfl, r, _, _, _, rfl, rfl, q4, ixN_of (by omega) (by rw [List.length_map]; omega), ?_⟩
        rw [SH.set_map, show (0 + (j : Nat) : Int).toNat = j by omega]
        have B4 := B3.own (o := .lst ((row.set j v).map V.int)) q5
        have O4 := O3.row (row := row.set j v) q1
        have S4 := S.set (j := j) (v := v) q2 v0 v3
        have Z4 := Z.set (j := j) (v := v) q2 (.inl (Nat.le_refl _))
        -- table[other][one] = table[one][other]
        obtain ⟨r1, row1, u1, u2, u3, u4, u5⟩ := O4.at (i := i) (by rw [S4.len]; exact hi)
        have rl1 := (S4.rows row1 (List.mem_of_getElem? u2))
        refine ⟨_, rfl, _, rfl, q, _, _, _, rfl, rfl, O4.sq, atI_pos (by omega) (show (rs.map V.ref)[(0 + (i : Nat) : Int).toNat]? = some (.ref r1) by rw [show (0 + (i : Nat) : Int).toNat = i by omega]; exact u3), ?_⟩
        have hj1 : j < row1.length := by omega
        obtain ⟨x, hx⟩ : ∃ x, row1[j]? = some x := ⟨_, List.getElem?_eq_getElem hj1⟩
        have xb := rl1.2 x (List.mem_of_getElem? hx)
        refine ⟨_, rfl, r1, _, _, _, rfl, rfl, SqL.of u4, atI_pos (by omega) (show (row1.map V.int)[(0 + (j : Nat) : Int).toNat]? = some (.int x) by rw [show (0 + (j : Nat) : Int).toNat = j by omega, List.getElem?_map, hx]; rfl), ?_⟩
        obtain ⟨r2, row2, w1, w2, w3, w4, w5⟩ := O4.at (i := j) (by rw [S4.len]; omega)
        have rl2 := (S4.rows row2 (List.mem_of_getElem? w2)).1
        refine ⟨_, rfl, _, rfl, q, _, _, _, rfl, rfl, O4.sq, atI_pos (by omega) (show (rs.map V.ref)[(0 + (j : Nat) : Int).toNat]? = some (.ref r2) by rw [show (0 + (j : Nat) : Int).toNat = j by omega]; exact w3), ?_⟩
        refine ⟨_, rfl, r2, _, _, _, rfl, rfl, w4, ixN_of (by omega) (by rw [List.length_map]; omega), ?_⟩
        rw [SH.set_map, show (0 + (i : Nat) : Int).toNat = i by omega]
        exact ⟨_, _, _, _, rfl, B4.own w5, O4.row w1, S4.set w2 xb.1 xb.2, Z4.set w2 (.inr (.inl (Nat.le_refl _)))⟩
      · clear k' t o2 o3 B O S Z H'
        rintro σ H' ⟨k', t, o2, o3, rfl, B, O, S, Z⟩
        -- if one > 0 and sum(table[one][:one]) == 0
        refine ⟨_, rfl, _, _, rfl, rfl, _, rfl, ?_⟩
        refine ite2 (fun hi0 => ?_) (fun hi0 => ?_)
        · have i1 : 0 < i := by
            have := of_decide_eq_true hi0
            omega
          obtain ⟨r, row, q1, q2, q3, q4, q5⟩ := O.at (i := i) (by rw [S.len]; exact hi)
          have rl := S.rows row (List.mem_of_getElem? q2)
          have ati : atI (rs.map V.ref) (0 + (i : Nat) : Int) = some (.ref r) := atI_pos (by omega) (by rw [show (0 + (i : Nat) : Int).toNat = i by omega]; exact q3)
          refine ⟨_, rfl, _, rfl, q, _, _, _, rfl, rfl, O.sq, ati, _, rfl, _, rfl, r, _, rfl, SqL.of q4, fun l hl' => ?_⟩
          have ec : cutV (row.map V.int) none (some (0 + (i : Nat) : Int)) = (row.take i).map V.int := by
            rw [show (0 + (i : Nat) : Int) = ((i : Nat) : Int) by omega, cut_take, List.map_take]
          rw [ec]
          have B2 := B.new (o := .lst ((row.take i).map V.int)) hl'
          have O2 := O.new (o := .lst ((row.take i).map V.int)) hl'
          refine ⟨l, _, rfl, SqL.of upd_same, rfl, _, rfl, ?_⟩
          refine ite2 (fun _ => ?_) (fun hsum => ?_)
          · -- table[one][one - 1] = 1; table[one - 1][one] = 1
            obtain ⟨r1, row1, u1, u2, u3, u4, u5⟩ := O2.at (i := i) (by rw [S.len]; exact hi)
            have rl1 := (S.rows row1 (List.mem_of_getElem? u2)).1
            refine ⟨_, rfl, _, rfl, q, _, _, _, rfl, rfl, O2.sq, atI_pos (by omega) (show (rs.map V.ref)[(0 + (i : Nat) : Int).toNat]? = some (.ref r1) by rw [show (0 + (i : Nat) : Int).toNat = i by omega]; exact u3), ?_⟩
            refine ⟨_, rfl, _, _, rfl, rfl, r1, _, _, _, rfl, rfl, u4, ixN_of (by omega) (by rw [List.length_map]; omega), ?_⟩
            rw [SH.set_map, show (0 + (i : Nat) - 1 : Int).toNat = i - 1 by omega]
            have B3 := B2.own (o := .lst ((row1.set (i - 1) 1).map V.int)) u5
            have O3 := O2.row (row := row1.set (i - 1) 1) u1
            have S3 := S.set (j := i - 1) (v := 1) u2 (by decide) (by decide)
            have Z3 : NZ (i + 1) (t.set i (row1.set (i - 1) 1)) := by
              intro i' h1 h2
              by_cases e : i' = i
              · subst e
                refine ⟨i' - 1, by omega, ?_⟩
                rw [mat_set u2, if_pos ⟨rfl, rfl, by omega⟩]
                decide
              · exact (Z.set (j := i - 1) (v := 1) u2 (.inl (Nat.le_refl _))) i' h1 (by omega)
            obtain ⟨r2, row2, w1, w2, w3, w4, w5⟩ := O3.at (i := i - 1) (by rw [S3.len]; omega)
            have rl2 := (S3.rows row2 (List.mem_of_getElem? w2)).1
            refine ⟨_, rfl, _, rfl, _, _, rfl, rfl, q, _, _, _, rfl, rfl, O3.sq, atI_pos (by omega) (show (rs.map V.ref)[(0 + (i : Nat) - 1 : Int).toNat]? = some (.ref r2) by rw [show (0 + (i : Nat) - 1 : Int).toNat = i - 1 by omega]; exact w3), ?_⟩
            refine ⟨_, rfl, r2, _, _, _, rfl, rfl, w4, ixN_of (by omega) (by rw [List.length_map]; omega), ?_⟩
            rw [SH.set_map, show (0 + (i : Nat) : Int).toNat = i by omega]
            exact ⟨_, _, _, _, _, rfl, B3.own w5, O3.row w1, S3.set w2 (by decide) (by decide), Z3.set w2 (.inr (.inr (.inr (by decide))))⟩
          · have Z3 : NZ (i + 1) t := by
              intro i' h1 h2
              by_cases e : i' = i
              · subst e
                obtain ⟨x, hx, x0⟩ := nonzero_of_sum (l := row.take i') fun z => hsum (by rw [z]; rfl)
                obtain ⟨j', hj', e'⟩ := List.getElem_of_mem hx
                rw [List.length_take] at hj'
                rw [List.getElem_take] at e'
                refine ⟨j', by omega, ?_⟩
                rw [mat_of q2 (show row[j']? = some x by rw [List.getElem?_eq_getElem (by omega), e'])]
                exact x0
              · exact Z i' h1 (by omega)
            exact ⟨_, _, _, _, _, rfl, B2, O2, S, Z3⟩
        · have Z3 : NZ (i + 1) t := by
            intro i' h1 h2
            have : ¬ 0 < (0 + (i : Nat) : Int) := fun z => hi0 (decide_eq_true z)
            omega
          refine iteF ?_
          exact ⟨_, _, _, _, _, rfl, B, O, S, Z3⟩
    · rintro σ H' ⟨k', t, o1, o2, o3, rfl, B, O, S, Z⟩
      -- if sum(table[0]) == 0: table[0][0] = 1
      obtain ⟨r, row, q1, q2, q3, q4, q5⟩ := O.at (i := 0) (by rw [S.len]; omega)
      have rl := S.rows row (List.mem_of_getElem? q2)
      have at0 : atI (rs.map V.ref) 0 = some (.ref r) := atI_pos (by decide) q3
      refine ⟨_, rfl, q, _, _, _, rfl, rfl, O.sq, at0, r, row, rfl, SqL.of q4, rfl, _, rfl, ?_⟩
      refine ite2 (fun _ => ?_) (fun hsum => ?_)
      · refine ⟨_, rfl, q, _, _, _, rfl, rfl, O.sq, at0, r, _, _, _, rfl, rfl, q4, ixN_of (by decide) (by rw [List.length_map]; omega), ?_⟩
        rw [SH.set_map, show (0 : Int).toNat = 0 from rfl]
        have B5 := B.own (o := .lst ((row.set 0 1).map V.int)) q5
        have O5 := O.row (row := row.set 0 1) q1
        have S5 := S.set (j := 0) (v := 1) q2 (by decide) (by decide)
        have Z5 := Z.set (j := 0) (v := 1) q2 (.inr (.inr (.inl rfl)))
        generalize ht5 : t.set 0 (row.set 0 1) = t5 at O5 S5 Z5
        have nz5 : ∀ i, i < m → ∃ j, mat t5 i j ≠ 0 := by
          intro i hi
          by_cases e : i = 0
          · subst e
            refine ⟨0, ?_⟩
            rw [← ht5, mat_set q2, if_pos ⟨rfl, rfl, by omega⟩]
            decide
          · obtain ⟨j, _, h⟩ := Z5 i (by omega) hi
            exact ⟨j, h⟩

        -- scaled = []; for row in table
        refine ⟨Nat.zero_le _, fun q2 hq2 => ?_⟩
        have h20 := B5.old hq2
        obtain ⟨n2rs, n2q⟩ := O5.notIn hq2
        have O6 := O5.new (o := .lst []) hq2
        refine ⟨_, rfl, q, rfl, ⟨_, O6.sq⟩, for_list (K := K) (a := q) (xs := rs.map V.ref) (fun i σ H' => ∃ (k' : Int) (rs2 : List Addr) (t2 : List (List Int)) (o8 o9 : Option V),
          σ = [some (.ref a), some (.ref p), some (.int m), some (.ref q), o1, o2, o3, some (.ref q2), o8, o9] ∧ Bd K H a ns p H' k' ∧ Own H H' q rs t5 ∧ Own H H' q2 rs2 t2 ∧ q2 ∉ rs ∧ t2.length = i ∧ ∀ row ∈ t2, GoodRow m row)
          ⟨_, [], [], none, none, rfl, B5.new hq2, O6, ⟨⟨upd_same, .nil, List.nodup_nil⟩, h20, fun r hr => absurd hr (by simp)⟩, n2rs, rfl, by simp⟩ (fun i σ H' _ ⟨_, _, _, _, _, _, _, O, _⟩ => O.sq) ?_ ?_⟩
        · rintro i x σ H' hx ⟨k7, rs2, t2, o8, o9, rfl, B7, O7, OO, n7, hl2, hg⟩
          obtain ⟨r7, hr7, rfl⟩ := ref_at hx
          obtain ⟨row7, e7, e8⟩ := pr_get O7.tab.rows hr7
          have i7 : i < m := by
            have := (List.getElem?_eq_some_iff.mp e7).1
            rw [S5.len] at this
            exact this
          have rw7 := S5.rows row7 (List.mem_of_getElem? e7)
          refine ⟨_, rfl, _, rfl, a, p, ns, k7, rfl, B7.sc, B7.spot, B7.k0, fun n1 => ⟨_, _, rfl, rfl, (by show (0 : Int) < 3; decide), _, _, rfl, rfl, ?_⟩⟩
          have B8 := B7.next
          have O8 := Own.spot (o := .lst [.int (k7 + 1)]) B7 O7
          have OO8 := Own.spot (o := .lst [.int (k7 + 1)]) B7 OO
          have e9 : upd H' p (.lst [.int (k7 + 1)]) r7 = some (.lst (row7.map V.int)) := by
            rw [upd_ne (B7.ne (O7.nr _ (List.mem_of_getElem? hr7)))]
            exact e8
          have f1 : 1 ≤ 1 + n1 % 3 := by omega
          have f3 : 1 + n1 % 3 ≤ 3 := by omega
          refine ⟨_, rfl, .inl ⟨rfl, _, OO8.sq⟩, _, rfl, r7, rfl, ⟨_, SqL.of e9⟩, fun d hd => comp_pure (fun _ => true) (scaleV (1 + n1 % 3)) (by rw [List.length_map, rw7.1]; exact ml) (SqL.of e9) hd (fun x _ ys R h => h) (fun x hx _ ys R h => ?_) ?_⟩
          · obtain ⟨y, hy, rfl⟩ := List.mem_map.mp hx
            have yb := rw7.2 y hy
            exact ⟨_, rfl, _, rfl, _, _, rfl, rfl, .inl ⟨by omega, by omega⟩, h⟩
          · rw [map_scale]
            have d0 := B8.old hd
            obtain ⟨nd1, nd2⟩ := O8.notIn hd
            obtain ⟨nd3, nd4⟩ := OO8.notIn hd
            have OO9 := OO8.new (o := .lst ((row7.map (· * (1 + n1 % 3))).map V.int)) hd
            have O9 := O8.new (o := .lst ((row7.map (· * (1 + n1 % 3))).map V.int)) hd
            have B9 := B8.new (o := .lst ((row7.map (· * (1 + n1 % 3))).map V.int)) hd
            have tl : rs2.length < 1000 := by rw [OO.tab.len]; omega
            refine ⟨q2, _, _, rfl, rfl, OO9.tab.top, small1000 (by rw [List.length_map]; omega), ?_⟩
            have e : rs2.map V.ref ++ [.ref d] = (rs2 ++ [d]).map V.ref := by rw [List.map_append]; rfl
            rw [e]
            refine ⟨_, _, _, _, _, rfl, B9.own h20, O9.mine n7 n2q, OO9.push upd_same d0 nd3 nd4, n7, by rw [List.length_append, hl2]; rfl, fun row hrw => ?_⟩
            rcases List.mem_append.mp hrw with h | h
            · exact hg row h
            · rw [List.mem_singleton.mp h]
              obtain ⟨j, hj⟩ := nz5 i i7
              exact good_scaled rw7.1 rw7.2 (mat_mem e7 hj) f1 f3
        · rintro σ H' ⟨k7, rs2, t2, o8, o9, rfl, B7, O7, OO, n7, hl2, hg⟩
          rw [List.length_map, O7.tab.len, S5.len] at hl2
          exact ⟨_, rfl, kk H' q2 rs2 t2 k7 B7 OO ⟨by omega, by omega, fun row h => hl2 ▸ hg row h⟩ (by rw [hl2])⟩

      · have B5 := B
        have O5 := O
        have S5 := S
        have nz5 : ∀ i, i < m → ∃ j, mat t i j ≠ 0 := by
          intro i hi
          by_cases e : i = 0
          · subst e
            obtain ⟨x, hx, x0⟩ := nonzero_of_sum (l := row) fun z => hsum (by rw [z]; rfl)
            obtain ⟨j, hj⟩ := List.getElem?_of_mem hx
            exact ⟨j, by rw [mat_of q2 hj]; exact x0⟩
          · obtain ⟨j, _, h⟩ := Z i (by omega) hi
            exact ⟨j, h⟩
        generalize ht5 : t = t5 at O5 S5 nz5

        -- scaled = []; for row in table
        refine ⟨Nat.zero_le _, fun q2 hq2 => ?_⟩
        have h20 := B5.old hq2
        obtain ⟨n2rs, n2q⟩ := O5.notIn hq2
        have O6 := O5.new (o := .lst []) hq2
        refine ⟨_, rfl, q, rfl, ⟨_, O6.sq⟩, for_list (K := K) (a := q) (xs := rs.map V.ref) (fun i σ H' => ∃ (k' : Int) (rs2 : List Addr) (t2 : List (List Int)) (o8 o9 : Option V),
          σ = [some (.ref a), some (.ref p), some (.int m), some (.ref q), o1, o2, o3, some (.ref q2), o8, o9] ∧ Bd K H a ns p H' k' ∧ Own H H' q rs t5 ∧ Own H H' q2 rs2 t2 ∧ q2 ∉ rs ∧ t2.length = i ∧ ∀ row ∈ t2, GoodRow m row)
          ⟨_, [], [], none, none, rfl, B5.new hq2, O6, ⟨⟨upd_same, .nil, List.nodup_nil⟩, h20, fun r hr => absurd hr (by simp)⟩, n2rs, rfl, by simp⟩ (fun i σ H' _ ⟨_, _, _, _, _, _, _, O, _⟩ => O.sq) ?_ ?_⟩
        · rintro i x σ H' hx ⟨k7, rs2, t2, o8, o9, rfl, B7, O7, OO, n7, hl2, hg⟩
          obtain ⟨r7, hr7, rfl⟩ := ref_at hx
          obtain ⟨row7, e7, e8⟩ := pr_get O7.tab.rows hr7
          have i7 : i < m := by
            have := (List.getElem?_eq_some_iff.mp e7).1
            rw [S5.len] at this
            exact this
          have rw7 := S5.rows row7 (List.mem_of_getElem? e7)
          refine ⟨_, rfl, _, rfl, a, p, ns, k7, rfl, B7.sc, B7.spot, B7.k0, fun n1 => ⟨_, _, rfl, rfl, (by show (0 : Int) < 3; decide), _, _, rfl, rfl, ?_⟩⟩
          have B8 := B7.next
          have O8 := Own.spot (o := .lst [.int (k7 + 1)]) B7 O7
          have OO8 := Own.spot (o := .lst [.int (k7 + 1)]) B7 OO
          have e9 : upd H' p (.lst [.int (k7 + 1)]) r7 = some (.lst (row7.map V.int)) := by
            rw [upd_ne (B7.ne (O7.nr _ (List.mem_of_getElem? hr7)))]
            exact e8
          have f1 : 1 ≤ 1 + n1 % 3 := by omega
          have f3 : 1 + n1 % 3 ≤ 3 := by omega
          refine ⟨_, rfl, .inl ⟨rfl, _, OO8.sq⟩, _, rfl, r7, rfl, ⟨_, SqL.of e9⟩, fun d hd => comp_pure (fun _ => true) (scaleV (1 + n1 % 3)) (by rw [List.length_map, rw7.1]; exact ml) (SqL.of e9) hd (fun x _ ys R h => h) (fun x hx _ ys R h => ?_) ?_⟩
          · obtain ⟨y, hy, rfl⟩ := List.mem_map.mp hx
            have yb := rw7.2 y hy
            exact ⟨_, rfl, _, rfl, _, _, rfl, rfl, .inl ⟨by omega, by omega⟩, h⟩
          · rw [map_scale]
            have d0 := B8.old hd
            obtain ⟨nd1, nd2⟩ := O8.notIn hd
            obtain ⟨nd3, nd4⟩ := OO8.notIn hd
            have OO9 := OO8.new (o := .lst ((row7.map (· * (1 + n1 % 3))).map V.int)) hd
            have O9 := O8.new (o := .lst ((row7.map (· * (1 + n1 % 3))).map V.int)) hd
            have B9 := B8.new (o := .lst ((row7.map (· * (1 + n1 % 3))).map V.int)) hd
            have tl : rs2.length < 1000 := by rw [OO.tab.len]; omega
            refine ⟨q2, _, _, rfl, rfl, OO9.tab.top, small1000 (by rw [List.length_map]; omega), ?_⟩
            have e : rs2.map V.ref ++ [.ref d] = (rs2 ++ [d]).map V.ref := by rw [List.map_append]; rfl
            rw [e]
            refine ⟨_, _, _, _, _, rfl, B9.own h20, O9.mine n7 n2q, OO9.push upd_same d0 nd3 nd4, n7, by rw [List.length_append, hl2]; rfl, fun row hrw => ?_⟩
            rcases List.mem_append.mp hrw with h | h
            · exact hg row h
            · rw [List.mem_singleton.mp h]
              obtain ⟨j, hj⟩ := nz5 i i7
              exact good_scaled rw7.1 rw7.2 (mat_mem e7 hj) f1 f3
        · rintro σ H' ⟨k7, rs2, t2, o8, o9, rfl, B7, O7, OO, n7, hl2, hg⟩
          rw [List.length_map, O7.tab.len, S5.len] at hl2
          exact ⟨_, rfl, kk H' q2 rs2 t2 k7 B7 OO ⟨by omega, by omega, fun row h => hl2 ▸ hg row h⟩ (by rw [hl2])⟩
theorem c_house (D : DefAt K mg "_law_house" s_law_house ["script", "spot", "most"] f fd) (T : Txt mg) (G_law_next : Callee P w K mg base 2 "_law_next" ["script", "spot"] (spNext K))
    (G_law_some_house : Callee P w K mg base 3 "_law_some_house" ["script", "spot", "many"] (spMake K)) (G_law_even_house : Callee P w K mg base 3 "_law_even_house" ["script", "spot", "many"] (spMake K)) :
    Callee P w K mg base 4 "_law_house" ["script", "spot", "most"] (spHouse K) := by
  refine D.ok sc_law_house (fun vs H Q E h => ?_) (fun cdv A outer s H vs Q E hr h => ?_)
  · obtain ⟨a, p, ns, k, m, rfl, _⟩ := h
    rfl
  · obtain ⟨a, p, ns, k, m, rfl, hs, hp, hk, m1, m8, kk⟩ := h
    have B1 := (Bd.start hs hp hk).next
    refine ⟨_, (pss_cons (ps_set (i := 3) sc_law_house.nd rfl (Or.inl rfl) (pe_def G_law_next (hr.mono (by decide)) rfl (pa_cons (pv 0) (pa_cons (pv 1) pa_nil))))
      (pss_cons (ps_set (i := 4) sc_law_house.nd rfl (Or.inl rfl) (pe_op op_add pe_int (pe_op op_mod (pv 3) (pv 2))))
      (pss_cons (ps_if (pt_cmpR op_eq (pe_op op_mod (pe_op op_fdiv (pv 3) pe_int) pe_int) pe_int (nomark _)) (pss_one (ps_ret (pe_def G_law_even_house (hr.mono (by decide)) rfl (pa_cons (pv 0) (pa_cons (pv 1) (pa_cons (pv 4) pa_nil)))))) pss_nil)
      (pss_cons (ps_set (i := 5) sc_law_house.nd rfl (Or.inl rfl) (pe_def G_law_some_house (hr.mono (by decide)) rfl (pa_cons (pv 0) (pa_cons (pv 1) (pa_cons (pv 4) pa_nil)))))
      (pss_cons (ps_if (pt_cmpR op_eq (pe_op op_mod (pe_op op_fdiv (pv 3) pe_int) pe_int) pe_int (nomark _)) (pss_one (ps_for PassesOwn.never rfl (pi_range1 rfl T.g_range (pa_cons (pv 4) pa_nil)) (pg_name (i := 6) sc_law_house.nd rfl (Or.inl rfl))
      (pss_cons (ps_set (i := 7) sc_law_house.nd rfl (Or.inl rfl) (pe_op op_mod (pe_op op_add (pv 6) pe_int) (pv 4)))
      (pss_one (ps_asg (pe_op op_add pe_int (pe_op op_mod (pe_op op_add (pe_ix ix_list (pe_ix ix_list (pv 5) (pv 6) (fun _ _ => rfl)) (pv 7) (fun _ _ => rfl)) pe_int) pe_int)) (pg_sub (pe_ix ix_list (pv 5) (pv 6) (fun _ _ => rfl)) (pv 7) set_list)))))) pss_nil)
      (pss_one (ps_ret (pv 5)))))))), ?_⟩
    refine ⟨_, rfl, _, rfl, a, p, ns, k, rfl, hs, hp, hk, fun c => ?_⟩
    refine ⟨_, rfl, _, rfl, _, _, rfl, rfl, (by show (0 : Int) < m; omega), _, _, rfl, rfl, ?_⟩
    have b1 : 0 ≤ c % m := Int.emod_nonneg _ (by omega)
    have b2 : c % m < m := Int.emod_lt_of_pos _ (by omega)
    let mm : Int := 1 + c % m
    have mm1 : 1 ≤ mm := by show 1 ≤ 1 + c % m; omega
    have mm2 : mm ≤ m := by show 1 + c % m ≤ m; omega
    refine ⟨_, rfl, _, _, rfl, rfl, ⟨by decide, by decide⟩, _, _, rfl, rfl, (by show (0 : Int) < 4; decide), rfl, _, rfl, ?_⟩
    refine ite2 (fun _ => ?_) (fun _ => ?_)
    · refine ⟨_, rfl, _, rfl, _, rfl, a, p, ns, k + 1, mm, rfl, B1.sc, B1.spot, B1.k0, by omega, by omega, fun H' q rs t k' B O hH hl => ?_⟩
      exact kk H' q rs t k' (B1.trans B) (Own.trans B1 O) hH (by omega)
    · refine ⟨_, rfl, _, rfl, _, rfl, a, p, ns, k + 1, mm, rfl, B1.sc, B1.spot, B1.k0, by omega, by omega, fun H' q rs t k' B O hH hl => ?_⟩
      have B2 := B1.trans B
      have O2 := Own.trans B1 O
      refine ⟨_, rfl, _, _, rfl, rfl, ⟨by decide, by decide⟩, _, _, rfl, rfl, (by show (0 : Int) < 3; decide), rfl, _, rfl, ?_⟩
      refine ite2 (fun _ => ?_) (fun _ => ?_)
      · refine ⟨_, rfl, _, rfl, by omega, by omega, for_range (lo := 0) (n := mm.toNat) (fun i σ H2 => ∃ (k2 : Int) (t2 : List (List Int)) (o6 o7 : Option V),
          σ = [some (.ref a), some (.ref p), some (.int m), some (.int c), some (.int mm), some (.ref q), o6, o7] ∧ Bd K H a ns p H2 k2 ∧ Own H H2 q rs t2 ∧ House t2 ∧ (t2.length : Int) = mm)
          ⟨_, _, none, none, rfl, B2, O2, hH, hl⟩ ?_ ?_⟩
        · rintro i σ H2 hi ⟨k2, t2, o6, o7, rfl, B3, O3, hH2, hl2⟩
          refine ⟨_, rfl, _, _, rfl, rfl, _, rfl, _, _, rfl, rfl, (by show (0 : Int) < mm; omega), ?_⟩
          let th : Int := (0 + (i : Nat) + 1) % mm
          have d1 : 0 ≤ th := Int.emod_nonneg _ (by omega)
          have d2 : th < mm := Int.emod_lt_of_pos _ (by omega)
          obtain ⟨r, row, q1, q2, q3, q4, q5⟩ := O3.at (i := i) (by omega)
          have g := hH2.rows row (List.mem_of_getElem? q2)
          have ati : atI (rs.map V.ref) (0 + (i : Nat) : Int) = some (.ref r) := atI_pos (by omega) (by rw [off0]; exact q3)
          have hj : th.toNat < row.length := by rw [g.len]; omega
          have atj : atI (row.map V.int) th = some (.int row[th.toNat]) := atI_pos d1 (by rw [List.getElem?_map, List.getElem?_eq_getElem hj]; rfl)
          refine ⟨_, rfl, _, rfl, q, _, _, _, rfl, rfl, O3.sq, ati, _, rfl, r, _, _, _, rfl, rfl, SqL.of q4, atj, _, _, rfl, rfl, _, _, rfl, rfl, (by show (0 : Int) < 9; decide), _, _, rfl, rfl, ?_⟩
          refine ⟨_, rfl, _, rfl, q, _, _, _, rfl, rfl, O3.sq, ati, _, rfl, r, _, _, _, rfl, rfl, q4, ixN_of d1 (by rw [List.length_map]; omega), ?_⟩
          rw [SH.set_map]
          exact ⟨_, _, _, _, rfl, B3.own q5, O3.row q1, hH2.set q2 hj (by omega) (by omega), by rw [List.length_set]; exact hl2⟩
        · rintro σ H2 ⟨k2, t2, o6, o7, rfl, B3, O3, hH2, hl2⟩
          exact ⟨_, rfl, kk H2 q rs t2 k2 B3 O3 hH2 (by omega)⟩
      · exact ⟨_, rfl, kk H' q rs t k' B2 O2 hH (by omega)⟩
/-! ### parts -/
theorem iteNT {c A B : Prop} [Decidable c] (hc : ¬ c) (h : A) : if (!decide c) = true then A else B := by
  rw [decide_eq_false hc]
  exact h
def muG (σ : St) : Nat := match σ with
  | [_, some (.int y), _] => y.toNat
  | _ => 0
theorem c_common (D : DefAt K mg "common" s_common ["one", "other"] f fd) (T : Txt mg) : Callee P w K mg base 1 "common" ["one", "other"] spCommon := by
  refine D.ok sc_common (fun vs H Q E h => ?_) (fun cdv A outer s H vs Q E hr h => ?_)
  · obtain ⟨a, b, rfl, _⟩ := h
    rfl
  · obtain ⟨a, b, rfl, kk⟩ := h
    refine ⟨_, (pss_cons (ps_while PassesOwn.never (pt_cmpR op_ne (pv 1) pe_int (nomark _))
      (pss_cons (ps_set (i := 2) sc_common.nd rfl (Or.inl rfl) (pe_op op_mod (pv 0) (pv 1)))
      (pss_cons (ps_set (i := 0) sc_common.nd rfl (Or.inl rfl) (pv 1))
      (pss_one (ps_set (i := 1) sc_common.nd rfl (Or.inl rfl) (pv 2))))))
      (pss_one (ps_ret (pv 0)))), ?_⟩
    refine while_by (fun σ H' => ∃ (x y : Nat) (o : Option V), σ = [some (.int (x : Int)), some (.int (y : Int)), o] ∧ H' = H ∧ Nat.gcd x y = Nat.gcd a b) (fun σ _ => muG σ) ⟨a, b, none, rfl, rfl, rfl⟩ ?_ ?_
    · rintro σ H' ⟨x, y, o, rfl, rfl, g⟩
      refine ⟨_, rfl, rfl, _, rfl, ?_⟩
      by_cases y0 : y = 0
      · subst y0
        refine iteNS rfl ⟨_, rfl, ?_⟩
        have e : x = Nat.gcd a b := by rw [← g, Nat.gcd_zero_right]
        rw [e]
        exact kk
      · refine iteNT (fun z => y0 (by have := V.int.inj z; omega)) ?_
        refine ⟨_, rfl, _, rfl, _, _, rfl, rfl, (by show (0 : Int) < y; omega), _, rfl, _, rfl, ?_⟩
        refine ⟨⟨y, x % y, _, rfl, rfl, ?_⟩, ?_⟩
        · rw [← g, Nat.gcd_comm x y, Nat.gcd_rec y x, Nat.gcd_comm]
        · show x % y < y
          exact Nat.mod_lt _ (by omega)
    · rintro σ H' Q Q' h ⟨v, e, hs, k, ek, q⟩
      exact ⟨v, e, hs, k, ek, h _ _ q⟩

theorem lcmN_take {ns : List Nat} {i n : Nat} (h : ns[i]? = some n) : lcmN (ns.take (i + 1)) = Nat.lcm (lcmN (ns.take i)) n := by
  unfold lcmN
  rw [List.take_add_one, h, List.foldl_append]
  rfl
theorem lcmN_fit {b : Nat} {ns : List Nat} (h : ∀ n ∈ ns, Fit b (n : Int)) : Fit (1 + b * ns.length) ((lcmN ns : Nat) : Int) :=
  fit_nat.mpr (foldl_lcm_lt ns 1 1 (by decide) fun n hn => fit_nat.mp (h n hn))
theorem lcm_wayN (a b : Nat) : (a : Int) / ((Nat.gcd a b : Nat) : Int) * (b : Int) = ((Nat.lcm a b : Nat) : Int) := by
  have := lcm_way a b
  rwa [Int.gcd_natCast_natCast] at this
theorem c_joint_multiple (D : DefAt K mg "joint_multiple" s_joint_multiple ["numbers"] f fd) (T : Txt mg) (G_common : Callee P w K mg base 1 "common" ["one", "other"] spCommon) : Callee P w K mg base 2 "joint_multiple" ["numbers"] (spJoint K) := by
  refine D.ok sc_joint_multiple (fun vs H Q E h => ?_) (fun cdv A outer s H vs Q E hr h => ?_)
  · obtain ⟨p, ns, rfl, _⟩ := h
    rfl
  · obtain ⟨p, ns, rfl, hq, hlen, hall, kk⟩ := h
    refine ⟨_, (pss_cons (ps_set (i := 1) sc_joint_multiple.nd rfl (Or.inl rfl) pe_int)
      (pss_cons (ps_for PassesOwn.never rfl (pi_list (pv 0)) (pg_name (i := 2) sc_joint_multiple.nd rfl (Or.inl rfl))
      (pss_one (ps_set (i := 1) sc_joint_multiple.nd rfl (Or.inl rfl) (pe_op op_mulB (pe_op op_fdivB (pv 1) (pe_def G_common (hr.mono (by decide)) rfl (pa_cons (pv 1) (pa_cons (pv 2) pa_nil)))) (pv 2)))))
      (pss_one (ps_ret (pv 1))))), ?_⟩
    refine ⟨_, rfl, p, rfl, ⟨_, hq⟩, for_list (K := K) (a := p) (xs := (cs ns).map V.int) (fun i σ H' => ∃ o : Option V, σ = [some (.ref p), some (.int ((lcmN (ns.take i) : Nat) : Int)), o] ∧ H' = H) ⟨none, rfl, rfl⟩ (fun i σ H' _ ⟨_, _, e⟩ => e ▸ hq) ?_ ?_⟩
    · rintro i x σ H' hx ⟨o, rfl, rfl⟩
      obtain ⟨n, hn, rfl⟩ := cs_at hx
      have hm := hall n (List.mem_of_getElem? hn)
      have hjf : Fit (1 + 3000 * (ns.take i).length) ((lcmN (ns.take i) : Nat) : Int) := lcmN_fit fun m hm' => (hall m (List.mem_of_mem_take hm')).2
      have hil : (ns.take i).length ≤ 20 := by rw [List.length_take]; omega
      have gpos : 0 < Nat.gcd (lcmN (ns.take i)) n := Nat.gcd_pos_of_pos_right _ hm.1
      have gle : Nat.gcd (lcmN (ns.take i)) n ≤ n := Nat.le_of_dvd hm.1 (Nat.gcd_dvd_right _ _)
      refine ⟨_, rfl, _, rfl, _, rfl, lcmN (ns.take i), n, rfl, _, _, rfl, rfl, ⟨by show (0 : Int) < ((Nat.gcd (lcmN (ns.take i)) n : Nat) : Int); omega, 3000, by decide, fit_leN hm.2 gle⟩, _, rfl, _, _, rfl, rfl,
        ⟨1 + 3000 * (ns.take i).length, 3000, by omega, by decide, fit_leN hjf (Nat.div_le_self _ _), hm.2⟩, ?_⟩
      refine ⟨some (.int (n : Int)), ?_, rfl⟩
      show [some (V.ref p), some (V.int (((lcmN (ns.take i) : Nat) : Int) / ((Nat.gcd (lcmN (ns.take i)) n : Nat) : Int) * (n : Int))), some (V.int (n : Int))] = _
      rw [lcm_wayN, lcmN_take hn]
    · rintro σ H' ⟨o, rfl, rfl⟩
      rw [cs_len, List.take_length]
      exact ⟨_, rfl, kk⟩

theorem c_lowest (D : DefAt K mg "lowest" s_lowest ["top", "bottom"] f fd) (T : Txt mg) (G_common : Callee P w K mg base 1 "common" ["one", "other"] spCommon) : Callee P w K mg base 2 "lowest" ["top", "bottom"] spLowest := by
  refine D.ok sc_lowest (fun vs H Q E h => ?_) (fun cdv A outer s H vs Q E hr h => ?_)
  · obtain ⟨a, b, rfl, _⟩ := h
    rfl
  · obtain ⟨a, b, rfl, hb, hf, kk⟩ := h
    refine ⟨_, (pss_cons (ps_set (i := 2) sc_lowest.nd rfl (Or.inl rfl) (pe_def G_common (hr.mono (by decide)) rfl (pa_cons (pv 0) (pa_cons (pv 1) pa_nil))))
      (pss_one (ps_ret (pe_tup (pa_cons (pe_op op_fdivB (pv 0) (pv 2)) (pa_cons (pe_op op_fdivB (pv 1) (pv 2)) pa_nil)))))), ?_⟩
    have gpos : 0 < Nat.gcd a b := Nat.gcd_pos_of_pos_right _ hb
    have gle : Nat.gcd a b ≤ b := Nat.le_of_dvd hb (Nat.gcd_dvd_right _ _)
    have g0 : (0 : Int) < ((Nat.gcd a b : Nat) : Int) := by omega
    have gf : Fit 8000 ((Nat.gcd a b : Nat) : Int) := fit_leN hf gle
    refine ⟨_, rfl, _, rfl, a, b, rfl, ?_⟩
    refine ⟨_, rfl, _, rfl, _, _, rfl, rfl, ⟨g0, 8000, by decide, gf⟩, _, rfl, _, rfl, _, _, rfl, rfl, ⟨g0, 8000, by decide, gf⟩, (by show 2 ≤ sizeLine; exact small_line (by decide)), fun p hp => kk p hp⟩

theorem c_parts_over (D : DefAt K mg "parts_over" s_parts_over ["tops", "bottom"] f fd) (T : Txt mg) (G_lowest : Callee P w K mg base 2 "lowest" ["top", "bottom"] spLowest) : Callee P w K mg base 3 "parts_over" ["tops", "bottom"] (spPartsOver K) := by
  refine D.ok sc_parts_over (fun vs H Q E h => ?_) (fun cdv A outer s H vs Q E hr h => ?_)
  · obtain ⟨p, ns, b, rfl, _⟩ := h
    rfl
  · obtain ⟨p, ns, b, rfl, hq, hlen, hb, hf, kk⟩ := h
    refine ⟨_, (pss_one (ps_ret (pe_comp (N := ["top", "bottom"]) (ix := [none, some 1]) rfl (CompOk.of (by rfl)) (pi_list (pv 0)) (fun _ _ _ _ => (pg_name (i := 0) (show List.Nodup (["top", "bottom"] : List Str) by decide +kernel) rfl (Or.inl rfl))) (fun _ _ _ _ => pts_nil) (fun _ _ _ _ => (pe_def G_lowest (hr.mono (by decide)) rfl (pa_cons (pv 0) (pa_cons (pv 1) pa_nil))))))), ?_⟩
    refine ⟨_, rfl, p, rfl, ⟨_, hq⟩, fun d hd => comp_list (xs := (cs ns).map V.int) (fun i ys H' => ∃ rs : List Addr, ys = rs.map V.ref ∧ Same H H' ∧ H' d = some (.lst ys) ∧ Paired (IsPart H') rs ((ns.take i).map fun x => low x b))
      (by rw [cs_len]; exact small_line (by omega)) ⟨[], rfl, Same.upd_new hd, upd_same, .nil⟩ (fun i ys H' hi ⟨rs, e, s1, _, pr⟩ => ⟨s1.seq hq, ?_⟩) ?_ ?_⟩
    · rw [e, List.length_map, Paired.length pr, List.length_map, List.length_take]
      omega
    · rintro i x ys H' hx ⟨rs, rfl, s1, e1, pr⟩
      obtain ⟨n, hn, rfl⟩ := cs_at hx
      refine ⟨_, rfl, _, rfl, n, b, rfl, hb, hf, fun l hl => ?_⟩
      have nl : l ≠ d := fun z => by rw [z, e1] at hl; cases hl
      refine ⟨by rw [upd_ne (Ne.symm nl)]; exact e1, rs ++ [l], by rw [List.map_append]; rfl, ?_, upd_same, ?_⟩
      · exact (s1.new (s1.free hl)).new hd
      · rw [List.take_add_one, hn, List.map_append]
        refine Paired.snoc (pr_imp pr fun a q _ e => ?_) ?_
        · have e' : H' a = some (.tup [.int (q.1 : Int), .int (q.2 : Int)]) := e
          show upd (upd H' l _) d _ a = _
          rw [upd_ne (ne_of e' e1 (by intro z; cases z)), upd_ne (ne_of_none e' hl)]
          exact e'
        · show upd (upd H' l _) d _ l = _
          rw [upd_ne nl, upd_same]
    · rintro ys H' ⟨rs, rfl, s1, e1, pr⟩
      rw [cs_len, List.take_length] at pr
      exact kk H' d rs s1 ⟨e1, pr⟩ hd

theorem c_joint_bottom (D : DefAt K mg "joint_bottom" s_joint_bottom ["parts"] f fd) (T : Txt mg) (G_joint_multiple : Callee P w K mg base 2 "joint_multiple" ["numbers"] (spJoint K)) : Callee P w K mg base 3 "joint_bottom" ["parts"] spJB := by
  refine D.ok sc_joint_bottom (fun vs H Q E h => ?_) (fun cdv A outer s H vs Q E hr h => ?_)
  · obtain ⟨p, rs, ps, rfl, _⟩ := h
    rfl
  · obtain ⟨p, rs, ps, rfl, prt, hlen, hall, kk⟩ := h
    have hlm : (rs.map V.ref).length = ps.length := by rw [List.length_map]; exact prt.len
    refine ⟨_, (pss_one (ps_ret (pe_def G_joint_multiple (hr.mono (by decide)) rfl (pa_cons (pe_comp (N := ["part"]) (ix := [none]) rfl (CompOk.of (by rfl)) (pi_list (pv 0)) (fun _ _ _ _ => (pg_name (i := 0) (show List.Nodup (["part"] : List Str) by decide +kernel) rfl (Or.inl rfl))) (fun _ _ _ _ => pts_nil) (fun _ _ _ _ => (pe_ix (ix_tupK (K := K) rfl) (pv 0) pe_int (fun _ _ => rfl)))) pa_nil)))), ?_⟩
    refine ⟨_, rfl, p, rfl, ⟨_, SqL.of prt.top⟩, fun d hd => comp_list (xs := rs.map V.ref) (fun i ys H' => ys = (cs ((ps.take i).map (·.2))).map V.int ∧ H' = upd H d (.lst ys))
      (by rw [hlm]; exact small_line (by omega)) ⟨rfl, rfl⟩ (fun i ys H' hi ⟨e, e2⟩ => ⟨?_, ?_⟩) ?_ ?_⟩
    · rw [e2]
      exact (Same.upd_new hd).seq (SqL.of prt.top)
    · rw [e, cs_len, List.length_map, List.length_take]
      omega
    · rintro i x ys H' hx ⟨rfl, rfl⟩
      obtain ⟨r, hr', rfl⟩ := ref_at hx
      obtain ⟨q, hq, e⟩ := pr_get prt.items hr'
      have e' : upd H d (.lst ((cs ((ps.take i).map (·.2))).map V.int)) r = some (.tup [.int (q.1 : Int), .int (q.2 : Int)]) := by rw [upd_ne (ne_of_none e hd)]; exact e
      refine ⟨_, rfl, r, _, 1, _, rfl, rfl, SqT.of e', rfl, upd_same, ?_, by rw [upd_upd]⟩
      rw [List.take_add_one, hq, List.map_append, cs_snoc]
      rfl
    · rintro ys H' ⟨rfl, rfl⟩
      rw [hlm, List.take_length]
      refine ⟨d, ps.map (·.2), rfl, SqL.of upd_same, by rw [List.length_map]; exact hlen, fun n hn => ?_, kk _ (Same.upd_new hd)⟩
      obtain ⟨q, hq, rfl⟩ := List.mem_map.mp hn
      exact hall q hq

theorem c_tops_over (D : DefAt K mg "tops_over" s_tops_over ["parts", "bottom"] f fd) (T : Txt mg) : Callee P w K mg base 1 "tops_over" ["parts", "bottom"] spTopsOver := by
  refine D.ok sc_tops_over (fun vs H Q E h => ?_) (fun cdv A outer s H vs Q E hr h => ?_)
  · obtain ⟨p, rs, ps, b, rfl, _⟩ := h
    rfl
  · obtain ⟨p, rs, ps, b, rfl, prt, hlen, hall, hfb, kk⟩ := h
    have hlm : (rs.map V.ref).length = ps.length := by rw [List.length_map]; exact prt.len
    refine ⟨_, (pss_one (ps_ret (pe_comp (N := ["part", "bottom"]) (ix := [none, some 1]) rfl (CompOk.of (by rfl)) (pi_list (pv 0)) (fun _ _ _ _ => (pg_name (i := 0) (show List.Nodup (["part", "bottom"] : List Str) by decide +kernel) rfl (Or.inl rfl))) (fun _ _ _ _ => pts_nil) (fun _ _ _ _ => (pe_op op_mulB (pe_ix (ix_tupK (K := K) rfl) (pv 0) pe_int (fun _ _ => rfl)) (pe_op op_fdivB (pv 1) (pe_ix (ix_tupK (K := K) rfl) (pv 0) pe_int (fun _ _ => rfl)))))))), ?_⟩
    refine ⟨_, rfl, p, rfl, ⟨_, SqL.of prt.top⟩, fun d hd => comp_list (xs := rs.map V.ref) (fun i ys H' => ys = (cs (topsOf (ps.take i) b)).map V.int ∧ H' = upd H d (.lst ys))
      (by rw [hlm]; exact small_line (by omega)) ⟨rfl, rfl⟩ (fun i ys H' hi ⟨e, e2⟩ => ⟨?_, ?_⟩) ?_ ?_⟩
    · rw [e2]
      exact (Same.upd_new hd).seq (SqL.of prt.top)
    · rw [e, cs_len]
      unfold topsOf
      rw [List.length_map, List.length_take]
      omega
    · rintro i x ys H' hx ⟨rfl, rfl⟩
      obtain ⟨r, hr', rfl⟩ := ref_at hx
      obtain ⟨q, hq, e⟩ := pr_get prt.items hr'
      have hm := hall q (List.mem_of_getElem? hq)
      have e' : upd H d (.lst ((cs (topsOf (ps.take i) b)).map V.int)) r = some (.tup [.int (q.1 : Int), .int (q.2 : Int)]) := by rw [upd_ne (ne_of_none e hd)]; exact e
      refine ⟨_, rfl, r, _, 0, _, rfl, rfl, SqT.of e', rfl, _, rfl, _, rfl, r, _, 1, _, rfl, rfl, SqT.of e', rfl, _, _, rfl, rfl, ⟨by show (0 : Int) < (q.2 : Int); have := hm.1; omega, 3000, by decide, hm.2.2⟩, _, _, rfl, rfl,
        ⟨3000, 100000, by decide, by decide, hm.2.1, fit_leN hfb (Nat.div_le_self _ _)⟩, upd_same, ?_, by rw [upd_upd]⟩
      unfold topsOf
      rw [List.take_add_one, hq, List.map_append]
      exact cs_snoc _ (q.1 * (b / q.2))
    · rintro ys H' ⟨rfl, rfl⟩
      rw [hlm, List.take_length]
      exact kk _ d (Same.upd_new hd) upd_same hd

theorem c_come_to_one (D : DefAt K mg "come_to_one" s_come_to_one ["parts"] f fd) (T : Txt mg) (G_joint_bottom : Callee P w K mg base 3 "joint_bottom" ["parts"] spJB) (G_tops_over : Callee P w K mg base 1 "tops_over" ["parts", "bottom"] spTopsOver) :
    Callee P w K mg base 4 "come_to_one" ["parts"] spCome := by
  refine D.ok sc_come_to_one (fun vs H Q E h => ?_) (fun cdv A outer s H vs Q E hr h => ?_)
  · obtain ⟨p, rs, ps, rfl, _⟩ := h
    rfl
  · obtain ⟨p, rs, ps, rfl, prt, hlen, hall, kk⟩ := h
    refine ⟨_, (pss_cons (ps_set (i := 1) sc_come_to_one.nd rfl (Or.inl rfl) (pe_def G_joint_bottom (hr.mono (by decide)) rfl (pa_cons (pv 0) pa_nil)))
      (pss_one (ps_ret (pe_cmpR op_eq (pe_callB (call_sumI rfl) rfl T.g_sum PyProof.Rows.boot_sum (pa_cons (pe_def G_tops_over (hr.mono (by decide)) rfl (pa_cons (pv 0) (pa_cons (pv 1) pa_nil))) pa_nil)) (pv 1) (nomark _))))), ?_⟩
    refine ⟨_, rfl, p, rs, ps, rfl, prt, hlen, fun q hq => ⟨(hall q hq).1, (hall q hq).2.2⟩, fun H1 s1 => ?_⟩
    have hfb : Fit 100000 ((lcmN (ps.map (·.2)) : Nat) : Int) := by
      refine (lcmN_fit (b := 3000) fun n hn => ?_).mono ?_
      · obtain ⟨q, hq, rfl⟩ := List.mem_map.mp hn
        exact (hall q hq).2.2
      · rw [List.length_map]
        omega
    refine ⟨_, rfl, _, rfl, p, rs, ps, _, rfl, prt.same s1, hlen, hall, hfb, fun H2 d s2 nl hd => ⟨d, _, rfl, SqL.of nl, _, rfl, rfl, ?_⟩⟩
    refine blq (kk _ (s1.trans s2)) ?_
    rw [cs_sum]
    refine decide_eq_decide.mpr ⟨fun z => by rw [z], fun z => ?_⟩
    have := V.int.inj z
    omega

theorem c_is_part (D : DefAt K mg "is_part" s_is_part ["pair"] f fd) (T : Txt mg) (G_common : Callee P w K mg base 1 "common" ["one", "other"] spCommon) : Callee P w K mg base 2 "is_part" ["pair"] spIsPart := by
  refine D.ok sc_is_part (fun vs H Q E h => ?_) (fun cdv A outer s H vs Q E hr h => ?_)
  · obtain ⟨r, a, b, rfl, _⟩ := h
    rfl
  · obtain ⟨r, a, b, rfl, e, kk⟩ := h
    have sq : SqT K H r [.int a, .int b] := SqT.of e
    refine ⟨_, (pss_one (ps_ret (pe_and (pe_cmpR op_ge (pe_ix ix_tup (pv 0) pe_int (fun _ _ => rfl)) pe_int (nomark _)) (pe_and (pe_cmpR op_ge (pe_ix ix_tup (pv 0) pe_int (fun _ _ => rfl)) pe_int (nomark _)) (pe_one (pe_cmpR op_eq (pe_def G_common (hr.mono (by decide)) rfl (pa_cons (pe_ix ix_tup (pv 0) pe_int (fun _ _ => rfl)) (pa_cons (pe_ix ix_tup (pv 0) pe_int (fun _ _ => rfl)) pa_nil))) pe_int (nomark _))))))), ?_⟩
    refine ⟨_, rfl, r, _, 0, _, rfl, rfl, sq, rfl, _, _, rfl, rfl, _, rfl, ?_⟩
    refine ite2 (fun h1 => ?_) (fun h1 => ?_)
    · refine ⟨_, rfl, r, _, 1, _, rfl, rfl, sq, rfl, _, _, rfl, rfl, _, rfl, ?_⟩
      refine ite2 (fun h2 => ?_) (fun h2 => ?_)
      · have a0 := of_decide_eq_true h1
        have b1 := of_decide_eq_true h2
        obtain ⟨x, rfl⟩ := Int.eq_ofNat_of_zero_le a0
        obtain ⟨y, rfl⟩ := Int.eq_ofNat_of_zero_le (show 0 ≤ b by omega)
        refine ⟨_, rfl, r, _, 0, _, rfl, rfl, sq, rfl, _, rfl, r, _, 1, _, rfl, rfl, sq, rfl, x, y, rfl, rfl, ?_⟩
        refine blq kk ?_
        unfold partB
        rw [h1, h2, Bool.true_and, Bool.true_and]
        refine decide_eq_decide.mpr ⟨fun z => ?_, fun z => ?_⟩
        · rw [Int.gcd_natCast_natCast] at z
          rw [z]
          rfl
        · have := V.int.inj z
          rw [Int.gcd_natCast_natCast]
          omega
      · refine blq kk ?_
        unfold partB
        rw [Bool.eq_false_iff.mpr h2, Bool.false_and, Bool.and_false]
    · refine blq kk ?_
      unfold partB
      rw [Bool.eq_false_iff.mpr h1, Bool.false_and]

/-! ### houses and steps -/
theorem house_true {t : List (List Int)} (h : House t) : houseB t = true := by
  have rows : t.all (rowB t.length) = true := List.all_eq_true.mpr fun row hr => by
    have g := h.rows row hr
    have wt : row.all wtB = true := List.all_eq_true.mpr fun x hx => by
      have := g.wts x hx
      unfold wtB
      rw [decide_eq_true this.1, decide_eq_true this.2]
      rfl
    unfold rowB
    rw [wt, decide_eq_true (by rw [g.len]), decide_eq_true ((sum_pos' fun x hx => (g.wts x hx).1).2 g.some')]
    rfl
  have h1 := h.lo
  have h2 := h.hi
  unfold houseB
  rw [rows, decide_eq_true (by omega), decide_eq_true (by omega)]
  rfl
theorem small_house {t : List (List Int)} (h : House t) : Small 1000 t := ⟨Nat.le_trans h.hi (by decide), fun row hr => by rw [(h.rows row hr).len]; exact Nat.le_trans h.hi (by decide)⟩
theorem map_true : ∀ l : List Addr, (((l.map V.ref).filter fun _ => true).map fun _ => V.bl true) = (l.map fun _ => true).map V.bl
  | [] => rfl
  | r :: l => by
    have ih := map_true l
    simp only [List.map_cons, List.filter_cons, if_true] at ih ⊢
    rw [ih]
theorem notT {A B : Prop} (h : B) : if (!true) = true then A else B := h

theorem c_need_house (D : DefAt K mg "need_house" s_need_house ["table"] f fd) (T : Txt mg) (G_is_house : Callee P w K mg base 2 "is_house" ["table"] spIsHouse) : Callee P w K mg base 3 "need_house" ["table"] spNeedHouse := by
  refine D.ok sc_need_house (fun vs H Q E h => ?_) (fun cdv A outer s H vs Q E hr h => ?_)
  · obtain ⟨p, rs, t, rfl, _⟩ := h
    rfl
  · obtain ⟨p, rs, t, rfl, tab, hh, kk⟩ := h
    refine ⟨_, (pss_one (ps_if (pt_not (pt_val (pe_def G_is_house (hr.mono (by decide)) rfl (pa_cons (pv 0) pa_nil)))) (pss_one ps_never) pss_nil)), ?_⟩
    refine ⟨_, rfl, p, rs, t, rfl, tab, small_house hh, fun H1 s1 => ⟨_, rfl, ?_⟩⟩
    rw [house_true hh]
    exact notT (kk H1 s1)

theorem c_need_room (D : DefAt K mg "need_room" s_need_room ["table", "room"] f fd) (T : Txt mg) : Callee P w K mg base 1 "need_room" ["table", "room"] spNeedRoom := by
  refine D.ok sc_need_room (fun vs H Q E h => ?_) (fun cdv A outer s H vs Q E hr h => ?_)
  · obtain ⟨p, rs, t, x, rfl, _⟩ := h
    rfl
  · obtain ⟨p, rs, t, x, rfl, tab, h0, h1, kk⟩ := h
    have hlm : (rs.map V.ref).length = t.length := by rw [List.length_map]; exact tab.len
    refine ⟨_, (pss_one (ps_if (pt_not (pt_chain op_le op_lt pe_int (pv 1) (pe_callB call_len_seq rfl T.g_len PySem.boot_len (pa_cons (pv 0) pa_nil)))) (pss_one ps_never) pss_nil)), ?_⟩
    refine ⟨_, rfl, _, _, rfl, rfl, _, rfl, ?_⟩
    rw [decide_eq_true h0]
    refine ⟨_, rfl, p, _, rfl, .inl (SqL.of tab.top), _, _, rfl, rfl, _, rfl, ?_⟩
    rw [hlm, decide_eq_true h1]
    exact notT kk

theorem c_are_shares (D : DefAt K mg "are_shares" s_are_shares ["table", "pairs"] f fd) (T : Txt mg) (G_come_to_one : Callee P w K mg base 4 "come_to_one" ["parts"] spCome) (G_is_part : Callee P w K mg base 2 "is_part" ["pair"] spIsPart) :
    Callee P w K mg base 5 "are_shares" ["table", "pairs"] spAreShares := by
  refine D.ok sc_are_shares (fun vs H Q E h => ?_) (fun cdv A outer s H vs Q E hr h => ?_)
  · obtain ⟨p, q, rs, rs', t, ps, rfl, _⟩ := h
    rfl
  · obtain ⟨p, q, rs, rs', t, ps, rfl, tab, prt, S, t8, kk⟩ := h
    have hlm : (rs.map V.ref).length = t.length := by rw [List.length_map]; exact tab.len
    have hlq : (rs'.map V.ref).length = t.length := by rw [List.length_map, prt.len, S.len]
    refine ⟨_, (pss_one (ps_ret (pe_and (pe_cmpR op_eq (pe_callB call_len_seq rfl T.g_len PySem.boot_len (pa_cons (pv 1) pa_nil)) (pe_callB call_len_seq rfl T.g_len PySem.boot_len (pa_cons (pv 0) pa_nil)) (nomark _)) (pe_and (pe_callB (call_allB rfl) rfl T.g_all PyProof.Rows.boot_all (pa_cons (pe_comp (N := ["pair"]) (ix := [none]) rfl (CompOk.of (by rfl)) (pi_list (pv 1)) (fun _ _ _ _ => (pg_name (i := 0) (show List.Nodup (["pair"] : List Str) by decide +kernel) rfl (Or.inl rfl))) (fun _ _ _ _ => pts_nil) (fun _ _ _ _ => (pe_def G_is_part (hr.mono (by decide)) rfl (pa_cons (pv 0) pa_nil)))) pa_nil)) (pe_one (pe_def G_come_to_one (hr.mono (by decide)) rfl (pa_cons (pv 1) pa_nil))))))), ?_⟩
    refine ⟨_, rfl, q, _, rfl, .inl (SqL.of prt.top), _, rfl, p, _, rfl, .inl (SqL.of tab.top), rfl, _, rfl, ?_⟩
    rw [hlm, hlq, decide_eq_true rfl]
    refine ⟨_, rfl, q, rfl, ⟨_, SqL.of prt.top⟩, fun d hd => comp_pure (fun _ => true) (fun _ => .bl true) (by rw [hlq]; exact small_line (by omega)) (SqL.of prt.top) hd (fun x _ ys R h => h) (fun x hx _ ys R h => ?_) ?_⟩
    · obtain ⟨r, hr', rfl⟩ := List.mem_map.mp hx
      obtain ⟨i, hi⟩ := List.getElem?_of_mem hr'
      obtain ⟨z, hz, e⟩ := pr_get prt.items hi
      have hm := S.parts z (List.mem_of_getElem? hz)
      have e' : upd H d (.lst ys) r = some (.tup [.int (z.1 : Int), .int (z.2 : Int)]) := by rw [upd_ne (ne_of_none e hd)]; exact e
      refine ⟨_, rfl, r, _, _, rfl, e', blq h ?_⟩
      unfold partB
      rw [decide_eq_true (by omega), decide_eq_true (show (1 : Int) ≤ (z.2 : Int) by have := hm.1; omega), Int.gcd_natCast_natCast, decide_eq_true hm.2.1]
      rfl
    · rw [map_true]
      refine ⟨d, rs'.map fun _ => true, rfl, SqL.of upd_same, _, rfl, ?_⟩
      have ea : ((rs'.map fun _ => true).all id) = true := by
        rw [List.all_map, List.all_eq_true]
        intro x _
        rfl
      rw [ea]
      have s1 : Same H (upd H d (.lst ((rs'.map fun _ => true).map V.bl))) := Same.upd_new hd
      refine ⟨_, rfl, q, rs', ps, rfl, prt.same s1, by rw [S.len]; omega, fun z hz => ⟨(S.parts z hz).1, (S.parts z hz).2.2⟩, fun H2 s2 => blq (kk H2 (s1.trans s2)) ?_⟩
      rw [decide_eq_true S.one]

theorem c_need_shares (D : DefAt K mg "need_shares" s_need_shares ["table", "pairs"] f fd) (T : Txt mg) (G_are_shares : Callee P w K mg base 5 "are_shares" ["table", "pairs"] spAreShares) : Callee P w K mg base 6 "need_shares" ["table", "pairs"] spNeedShares := by
  refine D.ok sc_need_shares (fun vs H Q E h => ?_) (fun cdv A outer s H vs Q E hr h => ?_)
  · obtain ⟨p, q, rs, rs', t, ps, rfl, _⟩ := h
    rfl
  · obtain ⟨p, q, rs, rs', t, ps, rfl, tab, prt, S, t8, kk⟩ := h
    refine ⟨_, (pss_one (ps_if (pt_not (pt_val (pe_def G_are_shares (hr.mono (by decide)) rfl (pa_cons (pv 0) (pa_cons (pv 1) pa_nil))))) (pss_one ps_never) pss_nil)), ?_⟩
    exact ⟨_, rfl, _, rfl, p, q, rs, rs', t, ps, rfl, tab, prt, S, t8, fun H1 s1 => ⟨_, rfl, notT (kk H1 s1)⟩⟩

/-- a row of the house by its place -/
theorem row_at {H : Hp} {p : Addr} {rs : List Addr} {t : NT} {i : Nat} {r : Addr} (tab : Tab H p rs (up t)) (h : rs[i]? = some r) : ∃ row, t[i]? = some row ∧ H r = some (.lst ((cs row).map V.int)) := by
  obtain ⟨row, h1, h2⟩ := pr_get tab.rows h
  obtain ⟨n, h3, rfl⟩ := up_at h1
  exact ⟨n, h3, h2⟩
theorem tab_len {H : Hp} {p : Addr} {rs : List Addr} {t : NT} (tab : Tab H p rs (up t)) : (rs.map V.ref).length = t.length := by rw [List.length_map, tab.len, up_len]

theorem c_step_bottom (D : DefAt K mg "step_bottom" s_step_bottom ["table"] f fd) (T : Txt mg) (G_joint_multiple : Callee P w K mg base 2 "joint_multiple" ["numbers"] (spJoint K)) : Callee P w K mg base 3 "step_bottom" ["table"] spStepBottom := by
  refine D.ok sc_step_bottom (fun vs H Q E h => ?_) (fun cdv A outer s H vs Q E hr h => ?_)
  · obtain ⟨p, rs, t, rfl, _⟩ := h
    rfl
  · obtain ⟨p, rs, t, rfl, tab, hh, kk⟩ := h
    have hlm := tab_len tab
    have t8 := hh.hi
    refine ⟨_, (pss_one (ps_ret (pe_def G_joint_multiple (hr.mono (by decide)) rfl (pa_cons (pe_comp (N := ["row"]) (ix := [none]) rfl (CompOk.of (by rfl)) (pi_list (pv 0)) (fun _ _ _ _ => (pg_name (i := 0) (show List.Nodup (["row"] : List Str) by decide +kernel) rfl (Or.inl rfl))) (fun _ _ _ _ => pts_nil) (fun _ _ _ _ => (pe_callB (call_sumIK (K := K) rfl rfl) rfl T.g_sum PyProof.Rows.boot_sum (pa_cons (pv 0) pa_nil)))) pa_nil)))), ?_⟩
    refine ⟨_, rfl, p, rfl, ⟨_, SqL.of tab.top⟩, fun d hd => comp_list (xs := rs.map V.ref) (fun i ys H' => ys = (cs ((t.take i).map List.sum)).map V.int ∧ H' = upd H d (.lst ys))
      (by rw [hlm]; exact small_line (by omega)) ⟨rfl, rfl⟩ (fun i ys H' hi ⟨e, e2⟩ => ⟨?_, ?_⟩) ?_ ?_⟩
    · rw [e2]
      exact (Same.upd_new hd).seq (SqL.of tab.top)
    · rw [e, cs_len, List.length_map, List.length_take]
      omega
    · rintro i x ys H' hx ⟨rfl, rfl⟩
      obtain ⟨r, hr', rfl⟩ := ref_at hx
      obtain ⟨row, hrow, e⟩ := row_at tab hr'
      have e' : upd H d (.lst ((cs ((t.take i).map List.sum)).map V.int)) r = some (.lst ((cs row).map V.int)) := by rw [upd_ne (ne_of_none e hd)]; exact e
      refine ⟨_, rfl, r, cs row, rfl, SqL.of e', upd_same, ?_, by rw [upd_upd]⟩
      rw [List.take_add_one, hrow, List.map_append, cs_sum]
      exact cs_snoc _ row.sum
    · rintro ys H' ⟨rfl, rfl⟩
      rw [hlm, List.take_length]
      refine ⟨d, t.map List.sum, rfl, SqL.of upd_same, by rw [List.length_map]; omega, fun n hn => ?_, kk _ (Same.upd_new hd)⟩
      obtain ⟨row, hr', rfl⟩ := List.mem_map.mp hn
      exact ⟨(hh.rows row hr').2.2, Fit.mono (fit_nat.mpr (hh.sum_lt hr')) (by decide)⟩

theorem c_arriving (D : DefAt K mg "arriving" s_arriving ["table", "loads", "room"] f fd) (T : Txt mg) : Callee P w K mg base 1 "arriving" ["table", "loads", "room"] (spArriving K) := by
  refine D.ok sc_arriving (fun vs H Q E h => ?_) (fun cdv A outer s H vs Q E hr h => ?_)
  · obtain ⟨p, q, rs, t, ld, j, rfl, _⟩ := h
    rfl
  · obtain ⟨p, q, rs, t, ld, j, rfl, tab, hh, hq, hl, hj, kk⟩ := h
    have hlm := tab_len tab
    have t8 := hh.hi
    refine ⟨_, (pss_one (ps_ret (pe_callB (call_sumI rfl) rfl T.g_sum PyProof.Rows.boot_sum (pa_cons (pe_comp (N := ["load", "row", "room"]) (ix := [none, none, some 2]) rfl (CompOk.of (by rfl)) (pi_zip2 rfl T.g_zip (pa_cons (pv 1) (pa_cons (pv 0) pa_nil))) (fun _ _ _ _ => (pg_tupK (n := 2) (K := K) rfl rfl (pgs_cons (pg_name (i := 0) (show List.Nodup (["load", "row", "room"] : List Str) by decide +kernel) rfl (Or.inl rfl)) (pgs_cons (pg_name (i := 1) (show List.Nodup (["load", "row", "room"] : List Str) by decide +kernel) rfl (Or.inl rfl)) pgs_nil)))) (fun _ _ _ _ => pts_nil) (fun _ _ _ _ => (pe_op op_mul (pv 0) (pe_ix (ix_listK (K := K) rfl) (pv 1) (pv 2) (fun _ _ => rfl))))) pa_nil)))), ?_⟩
    refine ⟨_, rfl, _, rfl, q, p, rfl, ⟨_, hq⟩, ⟨_, SqL.of tab.top⟩, fun d hd => comp_zip (xs := (cs ld).map V.int) (ys := rs.map V.ref)
      (fun i zs H' => zs = (cs ((List.zipWith (fun x row => x * row.getD j 0) ld t).take i)).map V.int ∧ Same H H' ∧ H' d = some (.lst zs)) (by rw [cs_len]; exact small_line (by omega)) (by rw [cs_len, hlm, hl]) ⟨rfl, Same.upd_new hd, upd_same⟩
      (fun i zs H' hi ⟨e, s1, e2⟩ => ⟨s1.seq hq, s1.seq (SqL.of tab.top), ?_⟩) ?_ ?_⟩
    · rw [e, cs_len, List.length_take]
      omega
    · rintro i x y zs H' T' hx hy ⟨rfl, s1, e1⟩ hT
      obtain ⟨n, hn, rfl⟩ := cs_at hx
      obtain ⟨r, hr', rfl⟩ := ref_at hy
      obtain ⟨row, hrow, e⟩ := row_at tab hr'
      have rm := hh.rows row (List.mem_of_getElem? hrow)
      have e' : upd H' T' (.tup [.int (n : Int), .ref r]) r = some (.lst ((cs row).map V.int)) := by rw [upd_ne (ne_of_none (s1 _ _ e) hT)]; exact s1 _ _ e
      have hj' : j < row.length := by rw [rm.1]; exact hj
      have ej : row[j]? = some row[j] := List.getElem?_eq_getElem hj'
      have wb := rm.2.1 row[j] (List.getElem_mem hj')
      refine ⟨_, rfl, _, rfl, _, rfl, r, _, _, _, rfl, rfl, SqL.of e', atI_nat (cs_get ej), _, _, rfl, rfl, .inr ⟨by omega, by omega⟩, ?_, ?_, ?_, upd_same⟩
      · rw [upd_ne (ne_of_none e1 hT)]; exact e1
      · have ez : (List.zipWith (fun x row => x * row.getD j 0) ld t)[i]? = some (n * row[j]) := by
          rw [List.getElem?_zipWith, hn, hrow]
          simp [List.getD_eq_getElem?_getD, ej]
        rw [List.take_add_one, ez]
        exact cs_snoc _ (n * row[j])
      · exact (s1.new (s1.free hT)).new hd
    · rintro zs H' ⟨rfl, s1, e1⟩
      have ll : (List.zipWith (fun x row => x * row.getD j 0) ld t).length = ld.length := by rw [List.length_zipWith, hl]; exact Nat.min_self _
      rw [cs_len, ← ll, List.take_length] at e1
      refine ⟨d, cs (List.zipWith (fun x row => x * row.getD j 0) ld t), rfl, SqL.of e1, ?_⟩
      rw [cs_sum]
      exact kk H' s1

theorem c_tops_after_step (D : DefAt K mg "tops_after_step" s_tops_after_step ["table", "tops"] f fd) (T : Txt mg) (G_step_bottom : Callee P w K mg base 3 "step_bottom" ["table"] spStepBottom) (G_arriving : Callee P w K mg base 1 "arriving" ["table", "loads", "room"] (spArriving K)) :
    Callee P w K mg base 4 "tops_after_step" ["table", "tops"] (spTas K) := by
  refine D.ok sc_tops_after_step (fun vs H Q E h => ?_) (fun cdv A outer s H vs Q E hr h => ?_)
  · obtain ⟨p, q, rs, t, ns, rfl, _⟩ := h
    rfl
  · obtain ⟨p, q, rs, t, ns, rfl, tab, hh, hq, hl, kk⟩ := h
    have hlm := tab_len tab
    have t8 := hh.hi
    refine ⟨_, (pss_cons (ps_set (i := 2) sc_tops_after_step.nd rfl (Or.inr rfl) (pe_def G_step_bottom (hr.mono (by decide)) rfl (pa_cons (pv 0) pa_nil)))
      (pss_cons (ps_set (i := 3) sc_tops_after_step.nd rfl (Or.inr rfl) (pe_comp (N := ["top", "row", "bottom"]) (ix := [none, none, some 2]) rfl (CompOk.of (by rfl)) (pi_zip2 rfl T.g_zip (pa_cons (pv 1) (pa_cons (pv 0) pa_nil))) (fun _ _ _ _ => (pg_tupK (n := 2) (K := K) rfl rfl (pgs_cons (pg_name (i := 0) (show List.Nodup (["top", "row", "bottom"] : List Str) by decide +kernel) rfl (Or.inl rfl)) (pgs_cons (pg_name (i := 1) (show List.Nodup (["top", "row", "bottom"] : List Str) by decide +kernel) rfl (Or.inl rfl)) pgs_nil)))) (fun _ _ _ _ => pts_nil) (fun _ _ _ _ => (pe_op op_mul (pv 0) (pe_op op_fdiv (pv 2) (pe_callB (call_sumIK (K := K) rfl rfl) rfl T.g_sum PyProof.Rows.boot_sum (pa_cons (pv 1) pa_nil)))))))
      (pss_one (ps_ret (pe_comp (N := ["room", "table", "loads"]) (ix := [none, some 0, some 3]) rfl (CompOk.of (by rfl)) (pi_range1 rfl T.g_range (pa_cons (pe_callB call_len_seq rfl T.g_len PySem.boot_len (pa_cons (pv 0) pa_nil)) pa_nil)) (fun _ _ _ _ => (pg_name (i := 0) (show List.Nodup (["room", "table", "loads"] : List Str) by decide +kernel) rfl (Or.inl rfl))) (fun _ _ _ _ => pts_nil) (fun _ _ _ _ => (pe_def G_arriving (hr.mono (by decide)) rfl (pa_cons (pv 1) (pa_cons (pv 2) (pa_cons (pv 0) pa_nil)))))))))), ?_⟩
    refine ⟨_, rfl, p, rs, t, rfl, tab, hh, fun H1 s1 => ?_⟩
    have tab1 := tab.same s1
    have hq1 := s1.seq hq
    -- loads
    refine ⟨_, rfl, _, rfl, q, p, rfl, ⟨_, hq1⟩, ⟨_, SqL.of tab1.top⟩, fun d hd => comp_zip (xs := (cs ns).map V.int) (ys := rs.map V.ref)
      (fun i zs H' => zs = (cs ((loads (Lc t) ns t).take i)).map V.int ∧ Same H1 H' ∧ H' d = some (.lst zs)) (by rw [cs_len]; exact small_line (by omega)) (by rw [cs_len, hlm, hl]) ⟨rfl, Same.upd_new hd, upd_same⟩
      (fun i zs H' hi ⟨e, s2, e2⟩ => ⟨s2.seq hq1, s2.seq (SqL.of tab1.top), ?_⟩) ?_ ?_⟩
    · rw [e, cs_len, List.length_take]
      omega
    · rintro i x y zs H' T' hx hy ⟨rfl, s2, e1⟩ hT
      obtain ⟨n, hn, rfl⟩ := cs_at hx
      obtain ⟨r, hr', rfl⟩ := ref_at hy
      obtain ⟨row, hrow, e⟩ := row_at tab1 hr'
      have hrm := List.mem_of_getElem? hrow
      have rm := hh.rows row hrm
      have e' : upd H' T' (.tup [.int (n : Int), .ref r]) r = some (.lst ((cs row).map V.int)) := by rw [upd_ne (ne_of_none (s2 _ _ e) hT)]; exact s2 _ _ e
      have sl := hh.sum_lt hrm
      have Ll := hh.L_lt
      have qle : Lc t / row.sum ≤ Lc t := Nat.div_le_self _ _
      refine ⟨_, rfl, _, rfl, _, rfl, r, cs row, rfl, SqL.of e', _, _, rfl, rfl, ?_⟩
      rw [cs_sum]
      refine ⟨⟨by have := rm.2.2; omega, by omega⟩, _, _, rfl, rfl, .inr ⟨?_, ?_⟩, ?_, ?_, ?_, upd_same⟩
      · show -(2 ^ 64) < (((Lc t / row.sum : Nat)) : Int)
        generalize Lc t / row.sum = qq at qle ⊢
        omega
      · show (((Lc t / row.sum : Nat)) : Int) < 2 ^ 64
        generalize Lc t / row.sum = qq at qle ⊢
        omega
      · rw [upd_ne (ne_of_none e1 hT)]; exact e1
      · have ez : (loads (Lc t) ns t)[i]? = some (n * (Lc t / row.sum)) := by
          unfold loads
          rw [List.getElem?_zipWith, hn, hrow]
        rw [List.take_add_one, ez]
        exact cs_snoc _ (n * (Lc t / row.sum))
      · exact (s2.new (s2.free hT)).new hd
    rintro zs H2 ⟨rfl, s2, e2⟩
    have ll : (loads (Lc t) ns t).length = ns.length := by unfold loads; rw [List.length_zipWith, hl]; exact Nat.min_self _
    rw [cs_len, ← ll, List.take_length] at e2
    have tab2 := tab1.same s2
    -- the new tops
    refine ⟨_, rfl, p, _, rfl, .inl (SqL.of tab2.top), _, rfl, by rw [hlm]; omega, by rw [hlm]; omega, fun g hg => ?_⟩
    rw [hlm]
    refine comp_range (n := t.length) (fun i ys H' => ys = (cs ((mov t ns).take i)).map V.int ∧ Same H2 H' ∧ H' g = some (.lst ys)) (small_line (by omega)) ⟨rfl, Same.upd_new hg, upd_same⟩ (fun i ys H' hi ⟨e, _, _⟩ => ?_) ?_ ?_
    · rw [e, cs_len, List.length_take]
      omega
    · rintro i ys H' hi ⟨rfl, s3, e3⟩
      refine ⟨_, rfl, _, rfl, _, rfl, p, d, rs, t, loads (Lc t) ns t, i, ?_, tab2.same s3, hh, s3.seq (SqL.of e2), by rw [ll, hl], hi, fun H4 s4 => ⟨s4 _ _ e3, ?_, ?_, upd_same⟩⟩
      · show [V.ref p, V.ref d, V.int (0 + (i : Int))] = _
        rw [Int.zero_add]
      · have em : (mov t ns)[i]? = some (arr (loads (Lc t) ns t) t i) := by
          unfold mov
          rw [List.getElem?_map, List.getElem?_range hi]
          rfl
        rw [List.take_add_one, em]
        exact cs_snoc _ (arr (loads (Lc t) ns t) t i)
      · exact (s3.trans s4).new hg
    · rintro ys H' ⟨rfl, s3, e3⟩
      have lm := mov_len t ns
      rw [← lm, List.take_length] at e3
      exact kk H' g (s1.trans (s2.trans s3)) e3 ((s1.trans s2).free hg)

theorem c_walked (D : DefAt K mg "walked" s_walked ["table", "shares"] f fd) (T : Txt mg) (G_need_house : Callee P w K mg base 3 "need_house" ["table"] spNeedHouse) (G_need_shares : Callee P w K mg base 6 "need_shares" ["table", "pairs"] spNeedShares)
    (G_joint_bottom : Callee P w K mg base 3 "joint_bottom" ["parts"] spJB) (G_tops_after_step : Callee P w K mg base 4 "tops_after_step" ["table", "tops"] (spTas K)) (G_parts_over : Callee P w K mg base 3 "parts_over" ["tops", "bottom"] (spPartsOver K))
    (G_tops_over : Callee P w K mg base 1 "tops_over" ["parts", "bottom"] spTopsOver) (G_step_bottom : Callee P w K mg base 3 "step_bottom" ["table"] spStepBottom) : Callee P w K mg base 7 "walked" ["table", "shares"] spWalked := by
  refine D.ok sc_walked (fun vs H Q E h => ?_) (fun cdv A outer s H vs Q E hr h => ?_)
  · obtain ⟨p, q, rs, rs', t, ps, rfl, _⟩ := h
    rfl
  · obtain ⟨p, q, rs, rs', t, ps, rfl, tab, hh, hH, prt, S, kk⟩ := h
    have t8 := hh.hi
    have pl : ps.length ≤ 20 := by rw [S.len]; omega
    have Ll := hh.L_lt
    refine ⟨_, (pss_cons (ps_expr (pe_def G_need_house (hr.mono (by decide)) rfl (pa_cons (pv 0) pa_nil)))
      (pss_cons (ps_expr (pe_def G_need_shares (hr.mono (by decide)) rfl (pa_cons (pv 0) (pa_cons (pv 1) pa_nil))))
      (pss_cons (ps_set (i := 2) sc_walked.nd rfl (Or.inl rfl) (pe_def G_joint_bottom (hr.mono (by decide)) rfl (pa_cons (pv 1) pa_nil)))
      (pss_cons (ps_set (i := 3) sc_walked.nd rfl (Or.inl rfl) (pe_def G_tops_after_step (hr.mono (by decide)) rfl (pa_cons (pv 0) (pa_cons (pe_def G_tops_over (hr.mono (by decide)) rfl (pa_cons (pv 1) (pa_cons (pv 2) pa_nil))) pa_nil))))
      (pss_one (ps_ret (pe_def G_parts_over (hr.mono (by decide)) rfl (pa_cons (pv 3) (pa_cons (pe_op op_mul (pv 2) (pe_def G_step_bottom (hr.mono (by decide)) rfl (pa_cons (pv 0) pa_nil))) pa_nil))))))))), ?_⟩
    refine ⟨_, rfl, p, rs, _, rfl, tab, hH, fun H1 s1 => ?_⟩
    refine ⟨_, rfl, _, rfl, p, q, rs, rs', _, ps, rfl, tab.same s1, prt.same s1, by rw [up_len]; exact S, by rw [up_len]; exact t8, fun H2 s2 => ?_⟩
    have s02 := s1.trans s2
    refine ⟨_, rfl, q, rs', ps, rfl, prt.same s02, pl, fun z hz => ⟨(S.parts z hz).1, (S.parts z hz).2.2.2⟩, fun H3 s3 => ?_⟩
    have s03 := s02.trans s3
    refine ⟨_, rfl, _, rfl, _, rfl, q, rs', ps, _, rfl, prt.same s03, pl, fun z hz => ⟨(S.parts z hz).1, (S.parts z hz).2.2⟩, S.fit.mono (by decide), fun H4 d s4 nl hd => ?_⟩
    have s04 := s03.trans s4
    refine ⟨p, d, rs, t, _, rfl, tab.same s04, hh, SqL.of nl, by unfold topsOf; rw [List.length_map, S.len], fun H5 g s5 ng hg => ?_⟩
    have s05 := s04.trans s5
    have bpos : 0 < lcmN (ps.map (·.2)) := lcmN_pos fun n hn => by
      obtain ⟨z, hz, rfl⟩ := List.mem_map.mp hn
      exact (S.parts z hz).1
    refine ⟨_, rfl, _, rfl, _, rfl, p, rs, t, rfl, tab.same s05, hh, fun H6 s6 => ⟨_, _, rfl, rfl, .inr ⟨by omega, by omega⟩, ?_⟩⟩
    have s06 := s05.trans s6
    have lf : Fit 57 ((Lc t : Nat) : Int) := fit_nat.mpr Ll
    refine ⟨g, mov t (topsOf ps (lcmN (ps.map (·.2)))), lcmN (ps.map (·.2)) * Lc t, rfl, (s6.seq (SqL.of ng)), by rw [mov_len]; omega, Nat.mul_pos bpos hh.Lpos, ?_, fun H7 e ds s7 pr he => ?_⟩
    · rw [Int.natCast_mul]
      exact (S.fit.mul lf).mono (by decide)
    · exact kk H7 e ds (s06.trans s7) pr (s06.free he)

theorem c_step (D : DefAt K mg "step" s_step ["table", "one", "other"] f fd) (T : Txt mg) (G_need_house : Callee P w K mg base 3 "need_house" ["table"] spNeedHouse) (G_need_room : Callee P w K mg base 1 "need_room" ["table", "room"] spNeedRoom)
    (G_lowest : Callee P w K mg base 2 "lowest" ["top", "bottom"] spLowest) : Callee P w K mg base 4 "step" ["table", "one", "other"] spStep := by
  refine D.ok sc_step (fun vs H Q E h => ?_) (fun cdv A outer s H vs Q E hr h => ?_)
  · obtain ⟨p, rs, t, x, y, rfl, _⟩ := h
    rfl
  · obtain ⟨p, rs, t, x, y, rfl, tab, hh, hH, hx, hy, kk⟩ := h
    have hlm := tab_len tab
    have t8 := hh.hi
    refine ⟨_, (pss_cons (ps_expr (pe_def G_need_house (hr.mono (by decide)) rfl (pa_cons (pv 0) pa_nil)))
      (pss_cons (ps_expr (pe_def G_need_room (hr.mono (by decide)) rfl (pa_cons (pv 0) (pa_cons (pv 1) pa_nil))))
      (pss_cons (ps_expr (pe_def G_need_room (hr.mono (by decide)) rfl (pa_cons (pv 0) (pa_cons (pv 2) pa_nil))))
      (pss_one (ps_ret (pe_def G_lowest (hr.mono (by decide)) rfl (pa_cons (pe_ix ix_list (pe_ix ix_list (pv 0) (pv 1) (fun _ _ => rfl)) (pv 2) (fun _ _ => rfl)) (pa_cons (pe_callB (call_sumI rfl) rfl T.g_sum PyProof.Rows.boot_sum (pa_cons (pe_ix ix_list (pv 0) (pv 1) (fun _ _ => rfl)) pa_nil)) pa_nil)))))))), ?_⟩
    refine ⟨_, rfl, p, rs, _, rfl, tab, hH, fun H1 s1 => ?_⟩
    have tab1 := tab.same s1
    refine ⟨_, rfl, _, rfl, p, rs, _, _, rfl, tab1, by omega, by rw [up_len]; omega, ?_⟩
    refine ⟨_, rfl, _, rfl, p, rs, _, _, rfl, tab1, by omega, by rw [up_len]; omega, ?_⟩
    have hx' : x < rs.length := by
      rw [List.length_map] at hlm
      omega
    have er : rs[x]? = some rs[x] := List.getElem?_eq_getElem hx'
    obtain ⟨row, hrow, e⟩ := row_at tab1 er
    have hrm := List.mem_of_getElem? hrow
    have rm := hh.rows row hrm
    have sl := hh.sum_lt hrm
    have es := cs_sum row
    have hy' : y < row.length := by rw [rm.1]; exact hy
    have ey : row[y]? = some row[y] := List.getElem?_eq_getElem hy'
    have ati : atI (rs.map V.ref) ((x : Nat) : Int) = some (.ref rs[x]) := atI_pos (by omega) (by rw [Int.toNat_natCast, List.getElem?_map, er]; rfl)
    have atw : atI ((cs row).map V.int) ((y : Nat) : Int) = some (.int (row[y] : Int)) := atI_pos (by omega) (by rw [Int.toNat_natCast]; exact cs_get ey)
    refine ⟨_, rfl, _, rfl, p, _, _, _, rfl, rfl, SqL.of tab1.top, ati, _, rfl, rs[x], _, _, _, rfl, rfl, SqL.of e, atw, _, rfl, _, rfl, p, _, _, _, rfl, rfl, SqL.of tab1.top, ati, rs[x], cs row, rfl, SqL.of e, row[y], row.sum, (by rw [es]; rfl), rm.2.2, fit_nat.mpr (Nat.lt_of_lt_of_le sl (Nat.pow_le_pow_right (by decide) (by decide))), fun g hg => ?_⟩
    exact kk row hrow (upd H1 g _) g (s1.new (s1.free hg)) (by rw [List.getD_eq_getElem?_getD, ey]; exact upd_same) (s1.free hg)

/-! ### the law's own reckoners -/
theorem c_law_common (D : DefAt K mg "_law_common" s_law_common ["one", "other"] f fd) (T : Txt mg) : Callee P w K mg base 1 "_law_common" ["one", "other"] spCommon := by
  refine D.ok sc_law_common (fun vs H Q E h => ?_) (fun cdv A outer s H vs Q E hr h => ?_)
  · obtain ⟨a, b, rfl, _⟩ := h
    rfl
  · obtain ⟨a, b, rfl, kk⟩ := h
    refine ⟨_, (pss_cons (ps_while PassesOwn.never (pt_cmpR op_gt (pv 1) pe_int (nomark _))
      (pss_cons (ps_set (i := 2) sc_law_common.nd rfl (Or.inl rfl) (pe_op op_mod (pv 0) (pv 1)))
      (pss_cons (ps_set (i := 0) sc_law_common.nd rfl (Or.inl rfl) (pv 1))
      (pss_one (ps_set (i := 1) sc_law_common.nd rfl (Or.inl rfl) (pv 2))))))
      (pss_one (ps_ret (pv 0)))), ?_⟩
    refine while_by (fun σ H' => ∃ (x y : Nat) (o : Option V), σ = [some (.int (x : Int)), some (.int (y : Int)), o] ∧ H' = H ∧ Nat.gcd x y = Nat.gcd a b) (fun σ _ => muG σ) ⟨a, b, none, rfl, rfl, rfl⟩ ?_ ?_
    · rintro σ H' ⟨x, y, o, rfl, rfl, g⟩
      refine ⟨_, rfl, _, _, rfl, rfl, _, rfl, ?_⟩
      refine ite2 (fun hy => ?_) (fun hy => ⟨_, rfl, ?_⟩)
      · have y0 : 0 < y := by
          have := of_decide_eq_true hy
          omega
        refine ⟨_, rfl, _, rfl, _, _, rfl, rfl, (by show (0 : Int) < y; omega), _, rfl, _, rfl, ?_⟩
        refine ⟨⟨y, x % y, _, rfl, rfl, ?_⟩, ?_⟩
        · rw [← g, Nat.gcd_comm x y, Nat.gcd_rec y x, Nat.gcd_comm]
        · show x % y < y
          exact Nat.mod_lt _ y0
      · have y0 : y = 0 := by
          have : ¬ (0 : Int) < y := fun z => hy (decide_eq_true z)
          omega
        subst y0
        have e : x = Nat.gcd a b := by rw [← g, Nat.gcd_zero_right]
        rw [e]
        exact kk
    · rintro σ H' Q Q' h ⟨v, e, i, j, e1, e2, k, ek, q⟩
      exact ⟨v, e, i, j, e1, e2, k, ek, h _ _ q⟩

theorem c_law_is_part (D : DefAt K mg "_law_is_part" s_law_is_part ["found", "top", "bottom"] f fd) (T : Txt mg) (G_law_common : Callee P w K mg base 1 "_law_common" ["one", "other"] spCommon) : Callee P w K mg base 2 "_law_is_part" ["found", "top", "bottom"] spLIsPart := by
  refine D.ok sc_law_is_part (fun vs H Q E h => ?_) (fun cdv A outer s H vs Q E hr h => ?_)
  · obtain ⟨r, a, b, top, bot, rfl, _⟩ := h
    rfl
  · obtain ⟨r, a, b, top, bot, rfl, e, hb, hg, hx, ⟨f1, f2, f3, f4⟩, kk⟩ := h
    have sq : SqT K H r [.int (a : Int), .int (b : Int)] := SqT.of e
    refine ⟨_, (pss_cons (ps_if (PW.pt (pw_or (pt_not (pt_val (pe_callB call_isi rfl T.g_isinstance PyProof.Rows.boot_isinstance (pa_cons (pv 0) (pa_cons (pe_bltn (v := .ty "tuple") rfl T.g_tuple PyProof.Rows.boot_tuple rfl) pa_nil))))) (pw_or1 (pt_cmpR op_ne (pe_callB call_len_seq rfl T.g_len PySem.boot_len (pa_cons (pv 0) pa_nil)) pe_int (nomark _))))) (pss_one (ps_ret pe_bl)) pss_nil)
      (pss_cons (ps_for PassesOwn.never rfl (pi_tup (pv 0)) (pg_name (i := 3) sc_law_is_part.nd rfl (Or.inl rfl))
      (pss_one (ps_if (PW.pt (pw_or (pt_not (pt_val (pe_callB call_isi rfl T.g_isinstance PyProof.Rows.boot_isinstance (pa_cons (pv 3) (pa_cons (pe_bltn (v := .ty "int") rfl T.g_int PyProof.Rows.boot_int rfl) pa_nil))))) (pw_or1 (pt_val (pe_callB call_isi rfl T.g_isinstance PyProof.Rows.boot_isinstance (pa_cons (pv 3) (pa_cons (pe_bltn (v := .ty "bool") rfl T.g_bool PyProof.Rows.boot_bool rfl) pa_nil))))))) (pss_one (ps_ret pe_bl)) pss_nil)))
      (pss_cons (ps_if (PW.pt (pw_or (pt_cmpR op_lt (pe_ix ix_tup (pv 0) pe_int (fun _ _ => rfl)) pe_int (nomark _)) (pw_or (pt_cmpR op_lt (pe_ix ix_tup (pv 0) pe_int (fun _ _ => rfl)) pe_int (nomark _)) (pw_or1 (pt_cmpR op_ne (pe_def G_law_common (hr.mono (by decide)) rfl (pa_cons (pe_ix ix_tup (pv 0) pe_int (fun _ _ => rfl)) (pa_cons (pe_ix ix_tup (pv 0) pe_int (fun _ _ => rfl)) pa_nil))) pe_int (nomark _)))))) (pss_one (ps_ret pe_bl)) pss_nil)
      (pss_one (ps_ret (pe_cmpR op_eq (pe_op op_mulB (pe_ix ix_tup (pv 0) pe_int (fun _ _ => rfl)) (pv 2)) (pe_op op_mulB (pv 1) (pe_ix ix_tup (pv 0) pe_int (fun _ _ => rfl))) (nomark _))))))), ?_⟩
    refine ⟨_, rfl, _, _, "tuple", true, rfl, .tup e, kit_same K _, _, rfl, notT ?_⟩
    refine ⟨_, rfl, r, _, rfl, .inr sq, rfl, _, rfl, iteNS rfl ?_⟩
    refine ⟨_, rfl, r, rfl, ⟨_, sq⟩, for_tup (K := K) (a := r) (xs := [.int (a : Int), .int (b : Int)]) (fun i σ H' => ∃ o : Option V, σ = [some (.ref r), some (.int (top : Int)), some (.int (bot : Int)), o] ∧ H' = H) ⟨none, rfl, rfl⟩ (fun i σ H' _ ⟨_, _, e'⟩ => e' ▸ sq) ?_ ?_⟩
    · rintro i x σ H' hx ⟨o, rfl, rfl⟩
      obtain ⟨n, rfl⟩ : ∃ n : Int, x = .int n := by
        match i, hx with
        | 0, hx => exact ⟨_, (Option.some.inj hx).symm⟩
        | 1, hx => exact ⟨_, (Option.some.inj hx).symm⟩
        | i + 2, hx => simp at hx
      refine ⟨_, rfl, _, _, "int", true, rfl, .int n, kit_same K _, _, rfl, notT ?_⟩
      refine ⟨_, rfl, _, _, "bool", false, rfl, .int n, kit_int_bool K, _, rfl, iteF ?_⟩
      exact ⟨_, rfl, rfl⟩
    · rintro σ H' ⟨o, rfl, rfl⟩
      refine ⟨_, rfl, r, _, 0, _, rfl, rfl, sq, rfl, _, _, rfl, rfl, _, rfl, ite2 (fun h => absurd (of_decide_eq_true h) (by omega)) (fun _ => ?_)⟩
      refine ⟨_, rfl, r, _, 1, _, rfl, rfl, sq, rfl, _, _, rfl, rfl, _, rfl, ite2 (fun h => absurd (of_decide_eq_true h) (by omega)) (fun _ => ?_)⟩
      refine ⟨_, rfl, r, _, 0, _, rfl, rfl, sq, rfl, _, rfl, r, _, 1, _, rfl, rfl, sq, rfl, a, b, rfl, rfl, _, rfl, iteNS (by rw [hg]; rfl) ?_⟩
      refine ⟨_, rfl, r, _, 0, _, rfl, rfl, sq, rfl, _, rfl, _, _, rfl, rfl, ⟨100000, 100000, by decide, by decide, f1, f4⟩, _, rfl, _, rfl, r, _, 1, _, rfl, rfl, sq, rfl, _, _, rfl, rfl, ⟨100000, 100000, by decide, by decide, f3, f2⟩, rfl, blq kk ?_⟩
      refine (decide_eq_true ?_).symm
      show V.int ((a : Int) * (bot : Int)) = V.int ((top : Int) * (b : Int))
      rw [← Int.natCast_mul, ← Int.natCast_mul, hx]

theorem c_law_parts_like (D : DefAt K mg "_law_parts_like" s_law_parts_like ["found", "tops", "bottom"] f fd) (T : Txt mg) (G_law_is_part : Callee P w K mg base 2 "_law_is_part" ["found", "top", "bottom"] spLIsPart) :
    Callee P w K mg base 3 "_law_parts_like" ["found", "tops", "bottom"] (spLPartsLike K) := by
  refine D.ok sc_law_parts_like (fun vs H Q E h => ?_) (fun cdv A outer s H vs Q E hr h => ?_)
  · obtain ⟨p, q, rs, ns, b, rfl, _⟩ := h
    rfl
  · obtain ⟨p, q, rs, ns, b, rfl, prt, hq, hlen, hb, hfb, hall, kk⟩ := h
    have hlm : (rs.map V.ref).length = ns.length := by rw [List.length_map, prt.len, List.length_map]
    refine ⟨_, (pss_cons (ps_if (PW.pt (pw_or (pt_not (pt_val (pe_callB call_isi rfl T.g_isinstance PyProof.Rows.boot_isinstance (pa_cons (pv 0) (pa_cons (pe_bltn (v := .ty "list") rfl T.g_list PyProof.Rows.boot_list rfl) pa_nil))))) (pw_or1 (pt_cmpR op_ne (pe_callB call_len_seq rfl T.g_len PySem.boot_len (pa_cons (pv 0) pa_nil)) (pe_callB call_len_seq rfl T.g_len PySem.boot_len (pa_cons (pv 1) pa_nil)) (nomark _))))) (pss_one (ps_ret pe_bl)) pss_nil)
      (pss_one (ps_ret (pe_callB (call_allB rfl) rfl T.g_all PyProof.Rows.boot_all (pa_cons (pe_comp (N := ["one", "top", "bottom"]) (ix := [none, none, some 2]) rfl (CompOk.of (by rfl)) (pi_zip2 rfl T.g_zip (pa_cons (pv 0) (pa_cons (pv 1) pa_nil))) (fun _ _ _ _ => (pg_tupK (n := 2) (K := K) rfl rfl (pgs_cons (pg_name (i := 0) (show List.Nodup (["one", "top", "bottom"] : List Str) by decide +kernel) rfl (Or.inl rfl)) (pgs_cons (pg_name (i := 1) (show List.Nodup (["one", "top", "bottom"] : List Str) by decide +kernel) rfl (Or.inl rfl)) pgs_nil)))) (fun _ _ _ _ => pts_nil) (fun _ _ _ _ => (pe_def G_law_is_part (hr.mono (by decide)) rfl (pa_cons (pv 0) (pa_cons (pv 1) (pa_cons (pv 2) pa_nil)))))) pa_nil))))), ?_⟩
    refine ⟨_, rfl, _, _, "list", true, rfl, .lst prt.top, kit_same K _, _, rfl, notT ?_⟩
    refine ⟨_, rfl, p, _, rfl, .inl (SqL.of prt.top), _, rfl, q, _, rfl, .inl hq, rfl, _, rfl, iteNS (by rw [hlm, cs_len]) ?_⟩
    refine ⟨_, rfl, _, rfl, p, q, rfl, ⟨_, SqL.of prt.top⟩, ⟨_, hq⟩, fun d hd => comp_zip (xs := rs.map V.ref) (ys := (cs ns).map V.int) (fun i zs H' => zs = (List.replicate i true).map V.bl ∧ Same H H' ∧ H' d = some (.lst zs))
      (by rw [hlm]; exact small_line (by omega)) (by rw [hlm, cs_len]) ⟨rfl, Same.upd_new hd, upd_same⟩ (fun i zs H' hi ⟨e, s1, e2⟩ => ⟨s1.seq (SqL.of prt.top), s1.seq hq, ?_⟩) ?_ ?_⟩
    · rw [e, List.length_map, List.length_replicate]
      exact Nat.le_refl _
    · rintro i x y zs H' T' hx hy ⟨rfl, s1, e1⟩ hT
      obtain ⟨r, hr', rfl⟩ := ref_at hx
      obtain ⟨n, hn, rfl⟩ := cs_at hy
      obtain ⟨z, hz, e⟩ := pr_get prt.items hr'
      rw [List.getElem?_map, hn] at hz
      have ez : low n b = z := Option.some.inj hz
      subst ez
      have e' : upd H' T' (.tup [.ref r, .int (n : Int)]) r = some (.tup [.int ((low n b).1 : Int), .int ((low n b).2 : Int)]) := by rw [upd_ne (ne_of_none (s1 _ _ e) hT)]; exact s1 _ _ e
      have fn := hall n (List.mem_of_getElem? hn)
      refine ⟨_, rfl, _, rfl, _, rfl, r, (low n b).1, (low n b).2, n, b, rfl, e', low_pos hb, low_coprime hb, low_cross n b, ⟨fit_leN fn (Nat.div_le_self _ _), fit_leN hfb (Nat.div_le_self _ _), fn, hfb⟩, ?_, ?_, ?_, upd_same⟩
      · rw [upd_ne (ne_of_none e1 hT)]; exact e1
      · rw [List.replicate_succ', List.map_append]
        rfl
      · exact (s1.new (s1.free hT)).new hd
    · rintro zs H' ⟨rfl, s1, e1⟩
      refine ⟨d, List.replicate (rs.map V.ref).length true, rfl, SqL.of e1, blq (kk H' s1) ?_⟩
      refine (List.all_eq_true.mpr fun x hx => ?_).symm
      rw [(List.mem_replicate.mp hx).2]
      rfl

theorem lcm_wayN' (a b : Nat) : (a : Int) * (b : Int) / ((Nat.gcd a b : Nat) : Int) = ((Nat.lcm a b : Nat) : Int) := by
  have := lcm_way' a b
  rwa [Int.gcd_natCast_natCast] at this
theorem c_law_sums (D : DefAt K mg "_law_sums" s_law_sums ["table"] f fd) (T : Txt mg) (G_law_common : Callee P w K mg base 1 "_law_common" ["one", "other"] spCommon) : Callee P w K mg base 2 "_law_sums" ["table"] spLSums := by
  refine D.ok sc_law_sums (fun vs H Q E h => ?_) (fun cdv A outer s H vs Q E hr h => ?_)
  · obtain ⟨p, rs, t, rfl, _⟩ := h
    rfl
  · obtain ⟨p, rs, t, rfl, tab, hh, kk⟩ := h
    have hlm := tab_len tab
    refine ⟨_, (pss_cons (ps_set (i := 1) sc_law_sums.nd rfl (Or.inl rfl) pe_int)
      (pss_cons (ps_for PassesOwn.never rfl (pi_list (pv 0)) (pg_name (i := 2) sc_law_sums.nd rfl (Or.inl rfl))
      (pss_one (ps_set (i := 1) sc_law_sums.nd rfl (Or.inl rfl) (pe_op op_fdiv (pe_op op_mul (pv 1) (pe_callB (call_sumI rfl) rfl T.g_sum PyProof.Rows.boot_sum (pa_cons (pv 2) pa_nil))) (pe_def G_law_common (hr.mono (by decide)) rfl (pa_cons (pv 1) (pa_cons (pe_callB (call_sumI rfl) rfl T.g_sum PyProof.Rows.boot_sum (pa_cons (pv 2) pa_nil)) pa_nil)))))))
      (pss_one (ps_ret (pv 1))))), ?_⟩
    refine ⟨_, rfl, p, rfl, ⟨_, SqL.of tab.top⟩, for_list (K := K) (a := p) (xs := rs.map V.ref) (fun i σ H' => ∃ o : Option V, σ = [some (.ref p), some (.int ((lcmN ((t.map List.sum).take i) : Nat) : Int)), o] ∧ H' = H) ⟨none, rfl, rfl⟩ (fun i σ H' _ ⟨_, _, e⟩ => e ▸ SqL.of tab.top) ?_ ?_⟩
    · rintro i x σ H' hx ⟨o, rfl, rfl⟩
      obtain ⟨r, hr', rfl⟩ := ref_at hx
      obtain ⟨row, hrow, e⟩ := row_at tab hr'
      have hrm := List.mem_of_getElem? hrow
      have rm := hh.rows row hrm
      have sl := hh.sum_lt hrm
      have es := cs_sum row
      have gpos : 0 < Nat.gcd (lcmN ((t.map List.sum).take i)) row.sum := Nat.gcd_pos_of_pos_right _ rm.2.2
      have gle : Nat.gcd (lcmN ((t.map List.sum).take i)) row.sum ≤ row.sum := Nat.le_of_dvd rm.2.2 (Nat.gcd_dvd_right _ _)
      refine ⟨_, rfl, _, rfl, r, cs row, rfl, SqL.of e, _, _, rfl, rfl, .inr ⟨by rw [es]; omega, by rw [es]; omega⟩, _, rfl, _, rfl, r, cs row, rfl, SqL.of e, lcmN ((t.map List.sum).take i), row.sum, (by show [V.int _, V.int (cs row).sum] = _; rw [es]), _, _, rfl, rfl,
        ⟨by show (0 : Int) < ((Nat.gcd (lcmN ((t.map List.sum).take i)) row.sum : Nat) : Int); omega, by show ((Nat.gcd (lcmN ((t.map List.sum).take i)) row.sum : Nat) : Int) < 1073741824; omega⟩, ?_⟩
      refine ⟨some (.ref r), ?_, rfl⟩
      show [some (V.ref p), some (V.int (((lcmN ((t.map List.sum).take i) : Nat) : Int) * (cs row).sum / ((Nat.gcd (lcmN ((t.map List.sum).take i)) row.sum : Nat) : Int))), some (V.ref r)] = _
      rw [es, lcm_wayN', lcmN_take (n := row.sum) (by rw [List.getElem?_map, hrow]; rfl)]
    · rintro σ H' ⟨o, rfl, rfl⟩
      rw [hlm, List.take_of_length_le (by rw [List.length_map]; exact Nat.le_refl _)]
      exact ⟨_, rfl, kk⟩

theorem zeros_of (row : List V) : ((row.filter fun _ => true).map fun _ => V.int 0) = (cs (List.replicate row.length 0)).map V.int := by
  induction row with
  | nil => rfl
  | cons x r ih =>
    simp only [List.filter_cons, if_true, List.map_cons, List.length_cons, List.replicate_succ] at ih ⊢
    rw [ih]
    rfl
/-- the list while row i is added, places below j done -/
def midL (t : NT) (ns : List Nat) (i j : Nat) (ld : Nat) (row : List Nat) : List Nat := (List.range t.length).map fun k => accN t ns i k + (if k < j then ld * row.getD k 0 else 0)
theorem mid_get {t : NT} {ns : List Nat} {i j ld k : Nat} {row : List Nat} (h : k < t.length) : (midL t ns i j ld row)[k]? = some (accN t ns i k + (if k < j then ld * row.getD k 0 else 0)) := by
  unfold midL
  rw [List.getElem?_map, List.getElem?_range h]
  rfl
theorem mid_set {t : NT} {ns : List Nat} {i j ld : Nat} {row : List Nat} (h : j < t.length) : (midL t ns i j ld row).set j (accN t ns i j + ld * row.getD j 0) = midL t ns i (j + 1) ld row := by
  refine List.ext_getElem? fun k => ?_
  by_cases hk : k = j
  · subst hk
    rw [List.getElem?_set_self (by unfold midL; rw [List.length_map, List.length_range]; exact h), mid_get h, if_pos (by omega)]
  · rw [List.getElem?_set_ne (Ne.symm hk)]
    by_cases hl : k < t.length
    · rw [mid_get hl, mid_get hl]
      by_cases q : k < j
      · rw [if_pos q, if_pos (by omega)]
      · rw [if_neg q, if_neg (by omega)]
    · unfold midL
      rw [List.getElem?_eq_none (by rw [List.length_map, List.length_range]; omega), List.getElem?_eq_none (by rw [List.length_map, List.length_range]; omega)]
theorem mid_zero (t : NT) (ns : List Nat) (i ld : Nat) (row : List Nat) : midL t ns i 0 ld row = (List.range t.length).map (accN t ns i) := by
  unfold midL
  refine List.map_congr_left fun k _ => ?_
  rw [if_neg (Nat.not_lt_zero _)]
  rfl
theorem mid_end {t : NT} {ns : List Nat} {i n : Nat} {row : List Nat} (h1 : ns[i]? = some n) (h2 : t[i]? = some row) : midL t ns i t.length (n * (Lc t / row.sum)) row = (List.range t.length).map (accN t ns (i + 1)) := by
  unfold midL
  refine List.map_congr_left fun k hk => ?_
  rw [if_pos (List.mem_range.mp hk), accN_succ h1 h2]
theorem acc_start (t : NT) (ns : List Nat) : (List.range t.length).map (accN t ns 0) = List.replicate t.length 0 := by
  refine List.ext_getElem? fun k => ?_
  by_cases hl : k < t.length
  · rw [List.getElem?_map, List.getElem?_range hl, List.getElem?_replicate, if_pos hl]
    rfl
  · rw [List.getElem?_eq_none (by rw [List.length_map, List.length_range]; omega), List.getElem?_eq_none (by rw [List.length_replicate]; omega)]
theorem acc_end {t : NT} {ns : List Nat} (hl : ns.length = t.length) : (List.range t.length).map (accN t ns t.length) = mov t ns := by
  unfold mov
  exact List.map_congr_left fun k _ => accN_all hl k

theorem c_law_moved (D : DefAt K mg "_law_moved" s_law_moved ["table", "tops", "bottom"] f fd) (T : Txt mg) (G_law_sums : Callee P w K mg base 2 "_law_sums" ["table"] spLSums) : Callee P w K mg base 3 "_law_moved" ["table", "tops", "bottom"] (spLMoved K) := by
  refine D.ok sc_law_moved (fun vs H Q E h => ?_) (fun cdv A outer s H vs Q E hr h => ?_)
  · obtain ⟨p, q, rs, t, ns, b, rfl, _⟩ := h
    rfl
  · obtain ⟨p, q, rs, t, ns, b, rfl, tab, hh, hq, hl, kk⟩ := h
    have hlm := tab_len tab
    have t8 := hh.hi
    have Ll := hh.L_lt
    refine ⟨_, (pss_cons (ps_set (i := 3) sc_law_moved.nd rfl (Or.inl rfl) (pe_def G_law_sums (hr.mono (by decide)) rfl (pa_cons (pv 0) pa_nil)))
      (pss_cons (ps_comp (i := 4) (N := ["row"]) (ix := [none]) sc_law_moved.nd rfl rfl rfl (CompOk.of (by rfl)) (pi_list (pv 0)) (fun _ _ _ _ => (pg_name (i := 0) (show List.Nodup (["row"] : List Str) by decide +kernel) rfl (Or.inl rfl))) (fun _ _ _ _ => pts_nil) (fun _ _ _ _ => pe_int))
      (pss_cons (ps_for PassesOwn.never rfl (pi_range1 rfl T.g_range (pa_cons (pe_callB call_len_seq rfl T.g_len PySem.boot_len (pa_cons (pv 0) pa_nil)) pa_nil)) (pg_name (i := 5) sc_law_moved.nd rfl (Or.inl rfl))
      (pss_cons (ps_set (i := 6) sc_law_moved.nd rfl (Or.inl rfl) (pe_op op_mul (pe_ix ix_list (pv 1) (pv 5) (fun _ _ => rfl)) (pe_op op_fdiv (pv 3) (pe_callB (call_sumI rfl) rfl T.g_sum PyProof.Rows.boot_sum (pa_cons (pe_ix ix_list (pv 0) (pv 5) (fun _ _ => rfl)) pa_nil)))))
      (pss_one (ps_for PassesOwn.never rfl (pi_range1 rfl T.g_range (pa_cons (pe_callB call_len_seq rfl T.g_len PySem.boot_len (pa_cons (pv 0) pa_nil)) pa_nil)) (pg_name (i := 7) sc_law_moved.nd rfl (Or.inl rfl))
      (pss_one (ps_asg (pe_op op_add (pe_ix ix_list (pv 4) (pv 7) (fun _ _ => rfl)) (pe_op op_mul (pv 6) (pe_ix ix_list (pe_ix ix_list (pv 0) (pv 5) (fun _ _ => rfl)) (pv 7) (fun _ _ => rfl)))) (pg_sub (pv 4) (pv 7) set_list)))))))
      (pss_one (ps_ret (pe_tup (pa_cons (pv 4) (pa_cons (pe_op op_mul (pv 2) (pv 3)) pa_nil)))))))), ?_⟩
    refine ⟨_, rfl, p, rs, t, rfl, tab, hh, ?_⟩
    -- found = noughts
    refine ⟨_, rfl, p, rfl, ⟨_, SqL.of tab.top⟩, fun g hg => comp_pure (fun _ => true) (fun _ => .int 0) (by rw [hlm]; exact small_line (by omega)) (SqL.of tab.top) hg (fun x _ ys R h => h) (fun x hx _ ys R h => h) ?_⟩
    rw [zeros_of, hlm, ← acc_start t ns]
    have s1 : Same H (upd H g (.lst ((cs ((List.range t.length).map (accN t ns 0))).map V.int))) := Same.upd_new hg
    refine ⟨_, rfl, p, _, rfl, .inl (SqL.of (s1 _ _ tab.top)), _, rfl, by rw [hlm]; omega, by rw [hlm]; omega, ?_⟩
    rw [hlm]
    refine for_range (lo := 0) (n := t.length) (fun i σ H' => ∃ o1 o2 o3 : Option V, σ = [some (.ref p), some (.ref q), some (.int (b : Int)), some (.int ((Lc t : Nat) : Int)), some (.ref g), o1, o2, o3] ∧ Same H H' ∧ NL H' g ((List.range t.length).map (accN t ns i)))
      ⟨none, none, none, rfl, s1, upd_same⟩ ?_ ?_
    · rintro i σ H' hi ⟨o1, o2, o3, rfl, s2, ng⟩
      have tab2 := tab.same s2
      have hi' : i < rs.length := by
        rw [List.length_map] at hlm
        omega
      have er : rs[i]? = some rs[i] := List.getElem?_eq_getElem hi'
      obtain ⟨row, hrow, e⟩ := row_at tab2 er
      have hrm := List.mem_of_getElem? hrow
      have rm := hh.rows row hrm
      have sl := hh.sum_lt hrm
      have es := cs_sum row
      have hn' : i < ns.length := by omega
      have hn : ns[i]? = some ns[i] := List.getElem?_eq_getElem hn'
      have ati : atI (rs.map V.ref) (0 + (i : Int)) = some (.ref rs[i]) := atI_pos (by omega) (by rw [off0, List.getElem?_map, er]; rfl)
      have atn : atI ((cs ns).map V.int) (0 + (i : Int)) = some (.int (ns[i] : Int)) := atI_pos (by omega) (by rw [off0]; exact cs_get hn)
      have qle : Lc t / row.sum ≤ Lc t := Nat.div_le_self _ _
      have qz : ((Lc t : Nat) : Int) / (cs row).sum = ((Lc t / row.sum : Nat) : Int) := by rw [es]; rfl
      -- often = tops[one] * (whole // sum(table[one]))
      refine ⟨_, rfl, _, rfl, q, _, _, _, rfl, rfl, s2.seq hq, atn, _, rfl, _, rfl, _, rfl, p, _, _, _, rfl, rfl, SqL.of tab2.top, ati, rs[i], cs row, rfl, SqL.of e, _, _, rfl, rfl, ⟨by rw [es]; have := rm.2.2; omega, by rw [es]; omega⟩, _, _, rfl, rfl, .inr ⟨?_, ?_⟩, ?_⟩
      · rw [qz]
        generalize Lc t / row.sum = qq at qle ⊢
        omega
      · rw [qz]
        generalize Lc t / row.sum = qq at qle ⊢
        omega
      -- for other in range(len(table))
      refine ⟨_, rfl, p, _, rfl, .inl (SqL.of tab2.top), _, rfl, by rw [hlm]; omega, by rw [hlm]; omega, ?_⟩
      rw [hlm]
      refine for_range (lo := 0) (n := t.length) (fun j σ H' => ∃ o3 : Option V, σ = [some (.ref p), some (.ref q), some (.int (b : Int)), some (.int ((Lc t : Nat) : Int)), some (.ref g), some (.int (0 + (i : Int))), some (.int (((ns[i] * (Lc t / row.sum) : Nat)) : Int)), o3] ∧ Same H H' ∧ NL H' g (midL t ns i j (ns[i] * (Lc t / row.sum)) row))
        ⟨o3, ?_, s2, by rw [mid_zero]; exact ng⟩ ?_ ?_
      · show [_, _, _, _, _, _, some (V.int ((ns[i] : Int) * (((Lc t : Nat) : Int) / (cs row).sum))), _] = _
        rw [qz, ← Int.natCast_mul]
      · clear o3 s2 ng e tab2 H'
        rintro j σ H' hj ⟨o3, rfl, s2, ng⟩
        have tab2 := tab.same s2
        obtain ⟨row', hrow', e⟩ := row_at tab2 er
        rw [hrow] at hrow'
        cases hrow'
        have hj' : j < row.length := by rw [rm.1]; exact hj
        have ej : row[j]? = some row[j] := List.getElem?_eq_getElem hj'
        have ejd : row.getD j 0 = row[j] := by rw [List.getD_eq_getElem?_getD, ej]; rfl
        have wb := rm.2.1 row[j] (List.getElem_mem hj')
        have gj := mid_get (ns := ns) (i := i) (j := j) (ld := ns[i] * (Lc t / row.sum)) (row := row) hj
        rw [if_neg (Nat.lt_irrefl _), Nat.add_zero] at gj
        have atg : atI ((cs (midL t ns i j (ns[i] * (Lc t / row.sum)) row)).map V.int) (0 + (j : Int)) = some (.int ((accN t ns i j : Nat) : Int)) := atI_pos (by omega) (by rw [off0]; exact cs_get gj)
        have atw : atI ((cs row).map V.int) (0 + (j : Int)) = some (.int (row[j] : Int)) := atI_pos (by omega) (by rw [off0]; exact cs_get ej)
        have lm : ((cs (midL t ns i j (ns[i] * (Lc t / row.sum)) row)).map V.int).length = t.length := by rw [cs_len]; unfold midL; rw [List.length_map, List.length_range]
        refine ⟨_, rfl, _, rfl, g, _, _, _, rfl, rfl, SqL.of ng, atg, _, rfl, _, rfl, _, rfl, p, _, _, _, rfl, rfl, SqL.of tab2.top, ati, _, rfl, rs[i], _, _, _, rfl, rfl, SqL.of e, atw, _, _, rfl, rfl, .inr ⟨by omega, by omega⟩, _, _, rfl, rfl, ?_⟩
        refine ⟨_, rfl, _, rfl, g, _, _, _, rfl, rfl, ng, ixN_of (by omega) (by rw [lm]; omega), ?_⟩
        rw [off0]
        refine ⟨_, rfl, ?_, ?_⟩
        · intro c o hc
          rw [upd_ne (ne_of_none hc hg)]
          exact s2 _ _ hc
        · show upd H' g (.lst (((cs (midL t ns i j (ns[i] * (Lc t / row.sum)) row)).map V.int).set j (V.int (((accN t ns i j : Nat) : Int) + ((ns[i] * (Lc t / row.sum) : Nat) : Int) * (row[j] : Int))))) g = _
          rw [upd_same, ← Int.natCast_mul, ← Int.natCast_add, ← mid_set hj, ejd]
          rw [cs, cs, List.map_set, List.map_set]
      · rintro σ H' ⟨o3, rfl, s3, ng3⟩
        rw [mid_end hn hrow] at ng3
        exact ⟨_, _, _, rfl, s3, ng3⟩
    · rintro σ H' ⟨o1, o2, o3, rfl, s2, ng⟩
      rw [acc_end hl] at ng
      refine ⟨_, rfl, _, rfl, _, rfl, _, _, rfl, rfl, .inr ⟨by omega, by omega⟩, (by show 2 ≤ sizeLine; exact small_line (by decide)), fun T' hT => ?_⟩
      refine kk _ g T' (s2.new (s2.free hT)) (by show upd H' T' _ g = _; rw [upd_ne (ne_of_none ng hT)]; exact ng) ?_ hg
      rw [upd_same, Int.natCast_mul]

/-! ### the program's own classes -/
structure Adr where
  StrollError : Addr
  NoHouse : Addr
  NoRoom : Addr
  NoCount : Addr
  NoShares : Addr
  NotBack : Addr
  Parted : Addr
  NoNote : Addr
structure Clz (K : PySem.W.Frag) (mg : Str → Option Value) (z : Adr) : Prop where
  x_StrollError : mg "StrollError" = some (.ref z.StrollError)
  x_NoHouse : mg "NoHouse" = some (.ref z.NoHouse)
  x_NoRoom : mg "NoRoom" = some (.ref z.NoRoom)
  x_NoCount : mg "NoCount" = some (.ref z.NoCount)
  x_NoShares : mg "NoShares" = some (.ref z.NoShares)
  x_NotBack : mg "NotBack" = some (.ref z.NotBack)
  x_Parted : mg "Parted" = some (.ref z.Parted)
  x_NoNote : mg "NoNote" = some (.ref z.NoNote)
  r_NoShares : PySem.W.excIn K z.NoShares [.type "ValueError", .type "Exception", .type "BaseException", .type "object"] "ValueError.__new__" = true
  ga : PySem.W.findIn K (.ref z.NoShares) "__getattribute__" = some (some (.builtin "BaseException.__getattribute__"))
  gt : PySem.W.findIn K (.ref z.NoShares) "__getattr__" = some none
  ca : PySem.W.findIn K (.ref z.NoShares) "__class__" = some (some (.builtin "object.__class__"))
  mo : PySem.W.mroIn K z.NoShares (.type "object") = some true
  mb : PySem.W.mroIn K z.NoShares (.type "BaseException") = some true
  hn : PySem.W.specialIn K (.builtin "object.__class__") "__get__" = some (some (.builtin "getset_descriptor.__get__"))
  tk : PySem.W.takesIn K (.builtin "object.__class__") = some true
  ex : PySem.W.exmOne K (.ref z.NoShares) (.ref z.StrollError) = some true
  i_NoCount : PySem.W.kitOne K (.ref z.NoShares) (.ref z.NoCount) = some false
  i_NoHouse : PySem.W.kitOne K (.ref z.NoShares) (.ref z.NoHouse) = some false
  i_NoNote : PySem.W.kitOne K (.ref z.NoShares) (.ref z.NoNote) = some false
  i_NoRoom : PySem.W.kitOne K (.ref z.NoShares) (.ref z.NoRoom) = some false
  i_NoShares : PySem.W.kitOne K (.ref z.NoShares) (.ref z.NoShares) = some true
  i_NotBack : PySem.W.kitOne K (.ref z.NoShares) (.ref z.NotBack) = some false
  i_Parted : PySem.W.kitOne K (.ref z.NoShares) (.ref z.Parted) = some false
  i_ValueError : PySem.W.kitOne K (.ref z.NoShares) (.type "ValueError") = some true
theorem Clz.exc {z : Adr} (Z : Clz K mg z) : ExcK K z.NoShares := ⟨Z.ga, Z.gt, Z.ca, Z.mo, Z.mb, (by
  obtain ⟨cd, h, _⟩ := Option.bind_eq_some_iff.mp Z.mo
  rw [h]; rfl), Z.hn, Z.tk⟩
theorem notF {A B : Prop} (h : A) : if (!false) = true then A else B := h

theorem b_are_shares (D : DefAt K mg "are_shares" s_are_shares ["table", "pairs"] f fd) (T : Txt mg) (G_come_to_one : Callee P w K mg base 4 "come_to_one" ["parts"] spCome) (G_is_part : Callee P w K mg base 2 "is_part" ["pair"] spIsPart) :
    Callee P w K mg base 5 "are_shares" ["table", "pairs"] spAreBad := by
  refine D.ok sc_are_shares (fun vs H Q E h => ?_) (fun cdv A outer s H vs Q E hr h => ?_)
  · obtain ⟨p, q, rs, ds, t, ps, rfl, _⟩ := h
    rfl
  · obtain ⟨p, q, rs, ds, t, ps, rfl, tab, t8, prt, p9, bad, kk⟩ := h
    have hlm : (rs.map V.ref).length = t.length := by rw [List.length_map]; exact tab.len
    have hlq : (ds.map V.ref).length = ps.length := by rw [List.length_map]; exact prt.len
    refine ⟨_, (pss_one (ps_ret (pe_and (pe_cmpR op_eq (pe_callB call_len_seq rfl T.g_len PySem.boot_len (pa_cons (pv 1) pa_nil)) (pe_callB call_len_seq rfl T.g_len PySem.boot_len (pa_cons (pv 0) pa_nil)) (nomark _)) (pe_and (pe_callB (call_allB rfl) rfl T.g_all PyProof.Rows.boot_all (pa_cons (pe_comp (N := ["pair"]) (ix := [none]) rfl (CompOk.of (by rfl)) (pi_list (pv 1)) (fun _ _ _ _ => (pg_name (i := 0) (show List.Nodup (["pair"] : List Str) by decide +kernel) rfl (Or.inl rfl))) (fun _ _ _ _ => pts_nil) (fun _ _ _ _ => (pe_def G_is_part (hr.mono (by decide)) rfl (pa_cons (pv 0) pa_nil)))) pa_nil)) (pe_one (pe_def G_come_to_one (hr.mono (by decide)) rfl (pa_cons (pv 1) pa_nil))))))), ?_⟩
    refine ⟨_, rfl, q, _, rfl, .inl (SqL.of prt.top), _, rfl, p, _, rfl, .inl (SqL.of tab.top), rfl, _, rfl, ?_⟩
    rw [hlm, hlq]
    by_cases hl : ps.length = t.length
    · rw [decide_eq_true (by rw [hl])]
      refine ⟨_, rfl, q, rfl, ⟨_, SqL.of prt.top⟩, fun d hd => comp_list (xs := ds.map V.ref) (fun i ys H' => ys = ((ps.take i).map fun z => partB z.1 z.2).map V.bl ∧ H' = upd H d (.lst ys))
        (by rw [hlq]; exact small_line (by omega)) ⟨rfl, rfl⟩ (fun i ys H' hi ⟨e, e2⟩ => ⟨?_, ?_⟩) ?_ ?_⟩
      · rw [e2]
        exact (Same.upd_new hd).seq (SqL.of prt.top)
      · rw [e, List.length_map, List.length_map, List.length_take]
        omega
      · rintro i x ys H' hx ⟨rfl, rfl⟩
        obtain ⟨r, hr', rfl⟩ := ref_at hx
        obtain ⟨z, hz, e⟩ := pr_get prt.items hr'
        have e' : upd H d (.lst (((ps.take i).map fun z => partB z.1 z.2).map V.bl)) r = some (.tup [.int z.1, .int z.2]) := by rw [upd_ne (ne_of_none e hd)]; exact e
        refine ⟨_, rfl, r, _, _, rfl, e', upd_same, ?_, by rw [upd_upd]⟩
        rw [List.take_add_one, hz, List.map_append, List.map_append]
        rfl
      · rintro ys H' ⟨rfl, rfl⟩
        rw [hlq, List.take_length]
        have s1 : Same H (upd H d (.lst ((ps.map fun z => partB z.1 z.2).map V.bl))) := Same.upd_new hd
        refine ⟨d, ps.map fun z => partB z.1 z.2, rfl, SqL.of upd_same, _, rfl, ?_⟩
        cases bad with
        | len h => exact absurd hl h
        | part _ z hz hb =>
          have ea : ((ps.map fun z => partB z.1 z.2).all id) = false := by
            refine Bool.eq_false_iff.mpr fun h => ?_
            have := List.all_eq_true.mp h (partB z.1 z.2) (List.mem_map.mpr ⟨z, hz, rfl⟩)
            rw [hb] at this
            cases this
          rw [ea]
          exact iteF (kk _ s1)
        | sum ns e hn hp hs =>
          subst e
          have ea : (((ns.map zc).map fun z => partB z.1 z.2).all id) = true := by
            rw [List.all_eq_true]
            intro x hx
            rw [List.map_map] at hx
            obtain ⟨n, hn, rfl⟩ := List.mem_map.mp hx
            have hm := hp n hn
            show partB (n.1 : Int) (n.2 : Int) = true
            unfold partB
            rw [decide_eq_true (by omega), decide_eq_true (show (1 : Int) ≤ (n.2 : Int) by have := hm.1; omega), Int.gcd_natCast_natCast, decide_eq_true hm.2.1]
            rfl
          rw [ea]
          refine ⟨_, rfl, q, ds, ns, rfl, ⟨s1 _ _ prt.top, pr_imp (pr_zc prt.items) fun _ _ _ q => s1 _ _ q⟩, by rw [List.length_map] at p9; omega, fun z hz => ⟨(hp z hz).1, (hp z hz).2.2⟩, fun H2 s2 => blq (kk H2 (s1.trans s2)) ?_⟩
          rw [decide_eq_false hs]
    · rw [decide_eq_false (fun z => hl (by have := V.int.inj z; omega))]
      exact iteF (kk _ (Same.refl H))

theorem x_need_shares (D : DefAt K mg "need_shares" s_need_shares ["table", "pairs"] f fd) (T : Txt mg) {z : Adr} (Z : Clz K mg z) (B_are_shares : Callee P w K mg base 5 "are_shares" ["table", "pairs"] spAreBad) : CalleeX P w K mg base 6 "need_shares" ["table", "pairs"] (spNeedBad z.NoShares) := by
  have G_are_shares := B_are_shares
  refine D.okX sc_need_shares (fun vs H Q E h => ?_) (fun cdv A outer s H vs Q E hr h => ?_)
  · obtain ⟨p, q, rs, ds, t, ps, rfl, _⟩ := h
    rfl
  · obtain ⟨p, q, rs, ds, t, ps, rfl, tab, t8, prt, p9, bad, kk⟩ := h
    refine ⟨_, (pss_one (ps_if (pt_not (pt_val (pe_def G_are_shares (hr.mono (by decide)) rfl (pa_cons (pv 0) (pa_cons (pv 1) pa_nil))))) (pss_one (ps_raise cx_leaves rfl rfl Z.x_NoShares Z.r_NoShares (pa_cons pe_str pa_nil))) pss_nil)), ?_⟩
    exact ⟨_, rfl, _, rfl, p, q, rs, ds, t, ps, rfl, tab, t8, prt, p9, bad, fun H1 s1 => ⟨_, rfl, notF ⟨small_line (by decide), kk H1 s1⟩⟩⟩

theorem x_walked (D : DefAt K mg "walked" s_walked ["table", "shares"] f fd) (T : Txt mg) {z : Adr} (Z : Clz K mg z) (G_need_house : Callee P w K mg base 3 "need_house" ["table"] spNeedHouse) (X_need_shares : CalleeX P w K mg base 6 "need_shares" ["table", "pairs"] (spNeedBad z.NoShares))
    (G_joint_bottom : Callee P w K mg base 3 "joint_bottom" ["parts"] spJB) (G_tops_after_step : Callee P w K mg base 4 "tops_after_step" ["table", "tops"] (spTas K)) (G_parts_over : Callee P w K mg base 3 "parts_over" ["tops", "bottom"] (spPartsOver K))
    (G_tops_over : Callee P w K mg base 1 "tops_over" ["parts", "bottom"] spTopsOver) (G_step_bottom : Callee P w K mg base 3 "step_bottom" ["table"] spStepBottom) : CalleeX P w K mg base 7 "walked" ["table", "shares"] (spWalkedBad z.NoShares) := by
  refine D.okX sc_walked (fun vs H Q E h => ?_) (fun cdv A outer s H vs Q E hr h => ?_)
  · obtain ⟨p, q, rs, ds, t, ps, rfl, _⟩ := h
    rfl
  · obtain ⟨p, q, rs, ds, t, ps, rfl, tab, hH, prt, p9, bad, kk⟩ := h
    refine ⟨_, (pss_cons (ps_expr (pe_def G_need_house (hr.mono (by decide)) rfl (pa_cons (pv 0) pa_nil)))
      (pss_cons (ps_expr (pe_defX X_need_shares (cx_passes fun _ _ _ h => h) (hr.mono (by decide)) rfl (pa_cons (pv 0) (pa_cons (pv 1) pa_nil))))
      (pss_cons (ps_set (i := 2) sc_walked.nd rfl (Or.inl rfl) (pe_def G_joint_bottom (hr.mono (by decide)) rfl (pa_cons (pv 1) pa_nil)))
      (pss_cons (ps_set (i := 3) sc_walked.nd rfl (Or.inl rfl) (pe_def G_tops_after_step (hr.mono (by decide)) rfl (pa_cons (pv 0) (pa_cons (pe_def G_tops_over (hr.mono (by decide)) rfl (pa_cons (pv 1) (pa_cons (pv 2) pa_nil))) pa_nil))))
      (pss_one (ps_ret (pe_def G_parts_over (hr.mono (by decide)) rfl (pa_cons (pv 3) (pa_cons (pe_op op_mul (pv 2) (pe_def G_step_bottom (hr.mono (by decide)) rfl (pa_cons (pv 0) pa_nil))) pa_nil))))))))), ?_⟩
    refine ⟨_, rfl, p, rs, _, rfl, tab, hH, fun H1 s1 => ?_⟩
    exact ⟨_, rfl, _, rfl, p, q, rs, ds, t, ps, rfl, tab.same s1, hH.hi, prt.same s1, p9, bad, fun H2 s2 => kk H2 (s1.trans s2)⟩

theorem n_law_which (D : DefAt K mg "_law_which" s_law_which ["e"] f fd) (T : Txt mg) {z : Adr} (Z : Clz K mg z) : CalleeN P w K mg base 1 "_law_which" ["e"] (spWhich z.NoShares "shares") := by
  refine D.okN sc_law_which (fun vs H Q E h => ?_) (fun cdv A outer s H vs Q E hr h => ?_)
  · obtain ⟨a, rfl, _⟩ := h
    rfl
  · obtain ⟨a, rfl, ha, kk⟩ := h
    refine ⟨_, (pss_cons (ps_set (i := 1) sc_law_which.nd rfl (Or.inl rfl) (pe_lst (pa_cons (pe_callB call_isX rfl T.g_isinstance PyProof.Rows.boot_isinstance (pa_cons (pv 0) (pa_cons (pe_globR rfl Z.x_NoCount) pa_nil))) (pa_cons (pe_callB call_isX rfl T.g_isinstance PyProof.Rows.boot_isinstance (pa_cons (pv 0) (pa_cons (pe_globR rfl Z.x_NoHouse) pa_nil))) (pa_cons (pe_callB call_isX rfl T.g_isinstance PyProof.Rows.boot_isinstance (pa_cons (pv 0) (pa_cons (pe_globR rfl Z.x_NoNote) pa_nil))) (pa_cons (pe_callB call_isX rfl T.g_isinstance PyProof.Rows.boot_isinstance (pa_cons (pv 0) (pa_cons (pe_globR rfl Z.x_NoRoom) pa_nil))) pa_nil))))))
      (pss_cons (ps_set (i := 2) sc_law_which.nd rfl (Or.inl rfl) (pe_op op_cat (pv 1) (pe_lst (pa_cons (pe_callB call_isX rfl T.g_isinstance PyProof.Rows.boot_isinstance (pa_cons (pv 0) (pa_cons (pe_globR rfl Z.x_NoShares) pa_nil))) (pa_cons (pe_callB call_isX rfl T.g_isinstance PyProof.Rows.boot_isinstance (pa_cons (pv 0) (pa_cons (pe_globR rfl Z.x_NotBack) pa_nil))) (pa_cons (pe_callB call_isX rfl T.g_isinstance PyProof.Rows.boot_isinstance (pa_cons (pv 0) (pa_cons (pe_globR rfl Z.x_Parted) pa_nil))) pa_nil))))))
      (pss_cons (ps_if (PW.pt (pw_or (pt_not (pt_val (pe_callB call_isX rfl T.g_isinstance PyProof.Rows.boot_isinstance (pa_cons (pv 0) (pa_cons (pe_bltn (v := .ty "ValueError") rfl T.g_ValueError PyProof.Rows.Boot.«ValueError» rfl) pa_nil))))) (pw_or1 (pt_cmpR op_ne (pe_bm PySem.F.plainAttrs_list PySem.F.slot_list_count PySem.F.type_list_count mt_countB (pv 2) (pa_cons pe_bl pa_nil)) pe_int (nomark _))))) (pss_one (ps_ret pe_str)) pss_nil)
      (pss_one (ps_ret (pe_ix ix_list (pe_lst (pa_cons pe_str (pa_cons pe_str (pa_cons pe_str (pa_cons pe_str (pa_cons pe_str (pa_cons pe_str (pa_cons pe_str pa_nil)))))))) (pe_bm PySem.F.plainAttrs_list PySem.F.slot_list_index PySem.F.type_list_index mt_indexB (pv 2) (pa_cons pe_bl pa_nil)) (fun _ _ => rfl))))))), ?_⟩
    have X0 := Z.exc
    refine ⟨_, rfl, a, _, _, _, rfl, ha, Z.exc, ⟨_, .inl ⟨rfl, Z.i_NoCount⟩⟩, _, rfl, a, _, _, _, rfl, ha, Z.exc, ⟨_, .inl ⟨rfl, Z.i_NoHouse⟩⟩, _, rfl, a, _, _, _, rfl, ha, Z.exc, ⟨_, .inl ⟨rfl, Z.i_NoNote⟩⟩, _, rfl, a, _, _, _, rfl, ha, Z.exc, ⟨_, .inl ⟨rfl, Z.i_NoRoom⟩⟩, small_line (by decide), fun lo hlo => ?_⟩
    have s1 : Same H (upd H lo (.lst [.bl false, .bl false, .bl false, .bl false])) := Same.upd_new hlo
    have ha1 := s1 _ _ ha
    refine ⟨_, rfl, _, rfl, a, _, _, _, rfl, ha1, Z.exc, ⟨_, .inl ⟨rfl, Z.i_NoShares⟩⟩, _, rfl, a, _, _, _, rfl, ha1, Z.exc, ⟨_, .inl ⟨rfl, Z.i_NotBack⟩⟩, _, rfl, a, _, _, _, rfl, ha1, Z.exc, ⟨_, .inl ⟨rfl, Z.i_Parted⟩⟩, small_line (by decide), fun l2 hl2 => ?_⟩
    have s2 : Same (upd H lo (.lst [.bl false, .bl false, .bl false, .bl false])) (upd (upd H lo (.lst [.bl false, .bl false, .bl false, .bl false])) l2 (.lst [.bl true, .bl false, .bl false])) := Same.upd_new hl2
    refine ⟨lo, l2, _, _, rfl, rfl, s2 _ _ upd_same, upd_same, small_line (by decide), fun p hp => ?_⟩
    have s3 := Same.upd_new (o := .lst ([.bl false, .bl false, .bl false, .bl false] ++ [.bl true, .bl false, .bl false])) hp
    have sA := (s1.trans s2).trans s3
    have ha3 := sA _ _ ha
    have tl : SqL K (upd (upd (upd H lo (.lst [.bl false, .bl false, .bl false, .bl false])) l2 (.lst [.bl true, .bl false, .bl false])) p (.lst ([.bl false, .bl false, .bl false, .bl false] ++ [.bl true, .bl false, .bl false]))) p ([false, false, false, false, true, false, false].map V.bl) := SqL.of upd_same
    refine ⟨_, rfl, a, _, _, _, rfl, ha3, Z.exc, ⟨p, .inr ⟨_, rfl, Z.i_ValueError⟩⟩, _, rfl, notT ?_⟩
    refine ⟨_, rfl, .inl ⟨rfl, _, tl⟩, p, _, true, rfl, rfl, tl, rfl, _, rfl, iteNS rfl ?_⟩
    refine ⟨small_line (by decide), fun p4 hp4 => ?_⟩
    have s4 := Same.upd_new (o := .lst [.str "count", .str "house", .str "note", .str "room", .str "shares", .str "back", .str "parted"]) hp4
    refine ⟨_, rfl, .inl ⟨rfl, _, s4.seq tl⟩, p, _, true, 4, rfl, rfl, s4.seq tl, by decide, rfl, by decide, p4, _, 4, _, rfl, rfl, SqL.of upd_same, rfl, kk _ (sA.trans s4)⟩

theorem c_law_asked (D : DefAt K mg "_law_asked" s_law_asked ["table", "shares"] f fd) (T : Txt mg) {z : Adr} (Z : Clz K mg z) (X_walked : CalleeX P w K mg base 7 "walked" ["table", "shares"] (spWalkedBad z.NoShares)) (N_law_which : CalleeN P w K mg base 1 "_law_which" ["e"] (spWhich z.NoShares "shares")) :
    Callee P w K mg base 8 "_law_asked" ["table", "shares"] (spAskedBad "shares") := by
  refine D.ok sc_law_asked (fun vs H Q E h => ?_) (fun cdv A outer s H vs Q E hr h => ?_)
  · obtain ⟨p, q, rs, ds, t, ps, rfl, _⟩ := h
    rfl
  · obtain ⟨p, q, rs, ds, t, ps, rfl, tab, hH, prt, p9, bad, kk⟩ := h
    refine ⟨_, (pss_cons (ps_set (i := 2) sc_law_asked.nd rfl (Or.inl rfl) pe_non)
      (pss_cons (ps_try (i := 3) rfl rfl sc_law_asked.nd rfl rfl rfl Z.x_StrollError (fun _ _ _ hx => (pss_one (ps_set (i := 2) sc_law_asked.nd rfl (Or.inl rfl) (pe_defX X_walked hx (hr.mono (by decide)) rfl (pa_cons (pv 0) (pa_cons (pv 1) pa_nil))))))
      (fun _ => (pss_one (ps_set (i := 2) sc_law_asked.nd rfl (Or.inl rfl) (pe_defN N_law_which ((Room.n (hr.mono (by decide))).mark _) rfl (pa_cons (pv 3) pa_nil))))))
      (pss_one (ps_ret (pv 2))))), ?_⟩
    refine ⟨_, rfl, _, rfl, p, q, rs, ds, t, ps, rfl, tab, hH, prt, p9, bad, fun H1 s1 => ?_⟩
    refine ⟨_, rfl, Z.ex, fun σ' a hl ha => ?_⟩
    match σ', hl with
    | [o0, o1, o2, o3], _ =>
      refine ⟨_, rfl, a, rfl, upd_same, fun H2 s2 => ?_⟩
      exact ⟨_, rfl, kk H2 ((s1.trans (Same.upd_new ha)).trans s2)⟩

/-! ### shares that are drawn, levelled, spoilt -/
theorem c_law_levelled (D : DefAt K mg "_law_levelled" s_law_levelled ["shares"] f fd) (T : Txt mg) (G_law_common : Callee P w K mg base 1 "_law_common" ["one", "other"] spCommon) : Callee P w K mg base 2 "_law_levelled" ["shares"] spLevelled := by
  refine D.ok sc_law_levelled (fun vs H Q E h => ?_) (fun cdv A outer s H vs Q E hr h => ?_)
  · obtain ⟨q, ds, ps, rfl, _⟩ := h
    rfl
  · obtain ⟨q, ds, ps, rfl, prt, p8, hall, kk⟩ := h
    have hlm : (ds.map V.ref).length = ps.length := by rw [List.length_map]; exact prt.len
    have hfb : ∀ i, Fit 1000 ((lcmN ((ps.map (·.2)).take i) : Nat) : Int) := fun i => by
      refine (lcmN_fit (b := 100) fun n hn => ?_).mono ?_
      · obtain ⟨z, hz, rfl⟩ := List.mem_map.mp (List.mem_of_mem_take hn)
        exact (hall z hz).2.2
      · rw [List.length_take, List.length_map]
        omega
    refine ⟨_, (pss_cons (ps_set (i := 1) sc_law_levelled.nd rfl (Or.inr rfl) pe_int)
      (pss_cons (ps_for PassesOwn.never rfl (pi_list (pv 0)) (pg_name (i := 2) sc_law_levelled.nd rfl (Or.inl rfl))
      (pss_one (ps_set (i := 1) sc_law_levelled.nd rfl (Or.inr rfl) (pe_op op_fdivB (pe_op op_mulB (pv 1) (pe_ix ix_tup (pv 2) pe_int (fun _ _ => rfl))) (pe_def G_law_common (hr.mono (by decide)) rfl (pa_cons (pv 1) (pa_cons (pe_ix ix_tup (pv 2) pe_int (fun _ _ => rfl)) pa_nil)))))))
      (pss_one (ps_ret (pe_tup (pa_cons (pe_comp (N := ["share", "bottom"]) (ix := [none, some 1]) rfl (CompOk.of (by rfl)) (pi_list (pv 0)) (fun _ _ _ _ => (pg_name (i := 0) (show List.Nodup (["share", "bottom"] : List Str) by decide +kernel) rfl (Or.inl rfl))) (fun _ _ _ _ => pts_nil) (fun _ _ _ _ => (pe_op op_mulB (pe_ix (ix_tupK (K := K) rfl) (pv 0) pe_int (fun _ _ => rfl)) (pe_op op_fdivB (pv 1) (pe_ix (ix_tupK (K := K) rfl) (pv 0) pe_int (fun _ _ => rfl)))))) (pa_cons (pv 1) pa_nil))))))), ?_⟩
    refine ⟨_, rfl, q, rfl, ⟨_, SqL.of prt.top⟩, for_list (K := K) (a := q) (xs := ds.map V.ref) (fun i σ H' => ∃ o : Option V, σ = [some (.ref q), some (.int ((lcmN ((ps.map (·.2)).take i) : Nat) : Int)), o] ∧ H' = H) ⟨none, rfl, rfl⟩ (fun i σ H' _ ⟨_, _, e⟩ => e ▸ SqL.of prt.top) ?_ ?_⟩
    · rintro i x σ H' hx ⟨o, rfl, rfl⟩
      obtain ⟨r, hr', rfl⟩ := ref_at hx
      obtain ⟨z, hz, e⟩ := pr_get prt.items hr'
      have hm := hall z (List.mem_of_getElem? hz)
      have gpos : 0 < Nat.gcd (lcmN ((ps.map (·.2)).take i)) z.2 := Nat.gcd_pos_of_pos_right _ hm.1
      have gle : Nat.gcd (lcmN ((ps.map (·.2)).take i)) z.2 ≤ z.2 := Nat.le_of_dvd hm.1 (Nat.gcd_dvd_right _ _)
      refine ⟨_, rfl, _, rfl, r, _, 1, _, rfl, rfl, SqT.of e, rfl, _, _, rfl, rfl, ⟨1000, 100, by decide, by decide, hfb i, hm.2.2⟩, _, rfl, _, rfl, r, _, 1, _, rfl, rfl, SqT.of e, rfl, lcmN ((ps.map (·.2)).take i), z.2, rfl, _, _, rfl, rfl,
        ⟨by show (0 : Int) < ((Nat.gcd (lcmN ((ps.map (·.2)).take i)) z.2 : Nat) : Int); omega, 100, by decide, fit_leN hm.2.2 gle⟩, ?_⟩
      refine ⟨some (.ref r), ?_, rfl⟩
      show [some (V.ref q), some (V.int (((lcmN ((ps.map (·.2)).take i) : Nat) : Int) * (z.2 : Int) / ((Nat.gcd (lcmN ((ps.map (·.2)).take i)) z.2 : Nat) : Int))), some (V.ref r)] = _
      rw [lcm_wayN', lcmN_take (n := z.2) (by rw [List.getElem?_map, hz]; rfl)]
    · rintro σ H' ⟨o, rfl, rfl⟩
      rw [hlm, List.take_of_length_le (by rw [List.length_map]; exact Nat.le_refl _)]
      have hB := hfb ps.length
      rw [List.take_of_length_le (by rw [List.length_map]; exact Nat.le_refl _)] at hB
      generalize lcmN (ps.map (·.2)) = b at hB kk ⊢
      refine ⟨_, rfl, q, rfl, ⟨_, SqL.of prt.top⟩, fun d hd => comp_list (xs := ds.map V.ref) (fun i ys H'' => ys = (cs (topsOf (ps.take i) b)).map V.int ∧ H'' = upd H' d (.lst ys))
        (by rw [hlm]; exact small_line (by omega)) ⟨rfl, rfl⟩ (fun i ys H'' hi ⟨e, e2⟩ => ⟨?_, ?_⟩) ?_ ?_⟩
      · rw [e2]
        exact (Same.upd_new hd).seq (SqL.of prt.top)
      · rw [e, cs_len]
        unfold topsOf
        rw [List.length_map, List.length_take]
        omega
      · rintro i x ys H'' hx ⟨rfl, rfl⟩
        obtain ⟨r, hr', rfl⟩ := ref_at hx
        obtain ⟨z, hz, e⟩ := pr_get prt.items hr'
        have hm := hall z (List.mem_of_getElem? hz)
        have e' : upd H' d (.lst ((cs (topsOf (ps.take i) b)).map V.int)) r = some (.tup [.int (z.1 : Int), .int (z.2 : Int)]) := by rw [upd_ne (ne_of_none e hd)]; exact e
        refine ⟨_, rfl, r, _, 0, _, rfl, rfl, SqT.of e', rfl, _, rfl, _, rfl, r, _, 1, _, rfl, rfl, SqT.of e', rfl, _, _, rfl, rfl, ⟨by show (0 : Int) < (z.2 : Int); have := hm.1; omega, 100, by decide, hm.2.2⟩, _, _, rfl, rfl,
          ⟨100, 1000, by decide, by decide, hm.2.1, fit_leN hB (Nat.div_le_self _ _)⟩, upd_same, ?_, by rw [upd_upd]⟩
        unfold topsOf
        rw [List.take_add_one, hz, List.map_append]
        exact cs_snoc _ (z.1 * (b / z.2))
      · rintro ys H'' ⟨rfl, rfl⟩
        rw [hlm, List.take_length]
        refine ⟨_, rfl, (by show 2 ≤ sizeLine; exact small_line (by decide)), fun T' hT => ?_⟩
        have s1 : Same H' (upd H' d (.lst ((cs (topsOf ps b)).map V.int))) := Same.upd_new hd
        exact kk _ d T' (s1.new (s1.free hT)) (by show upd (upd H' d _) T' _ d = _; rw [upd_ne (ne_of_none upd_same hT), upd_same]) upd_same hd

theorem pick4 (c : Int) : ∃ v : Int, atI [V.int 1, V.int 7, V.int 40, V.int 1000003] (c % 4) = some (.int v) ∧ 1 ≤ v ∧ v ≤ 1000003 := by
  have h0 : 0 ≤ c % 4 := Int.emod_nonneg _ (by decide)
  have h1 : c % 4 < 4 := Int.emod_lt_of_pos _ (by decide)
  generalize c % 4 = r at h0 h1
  have : r = 0 ∨ r = 1 ∨ r = 2 ∨ r = 3 := by omega
  rcases this with rfl | rfl | rfl | rfl
  · exact ⟨1, rfl, by decide, by decide⟩
  · exact ⟨7, rfl, by decide, by decide⟩
  · exact ⟨40, rfl, by decide, by decide⟩
  · exact ⟨1000003, rfl, by decide, by decide⟩

theorem c_law_drawn (D : DefAt K mg "_law_drawn" s_law_drawn ["script", "spot", "many"] f fd) (T : Txt mg) (G_law_next : Callee P w K mg base 2 "_law_next" ["script", "spot"] (spNext K)) (G_law_cell_at : Callee P w K mg base 1 "_law_cell_at" ["script", "k"] (spCell K))
    (G_law_common : Callee P w K mg base 1 "_law_common" ["one", "other"] spCommon) : Callee P w K mg base 3 "_law_drawn" ["script", "spot", "many"] (spDrawn K) := by
  refine D.ok sc_law_drawn (fun vs H Q E h => ?_) (fun cdv A outer s H vs Q E hr h => ?_)
  · obtain ⟨a, p, ns, k, m, rfl, _⟩ := h
    rfl
  · obtain ⟨a, p, ns, k, m, rfl, hs, hp, hk, m1, m8, kk⟩ := h
    have B0 := Bd.start hs hp hk
    have tail : ∃ tt, PSs (cxOf CX0 P w K mg base ["script", "spot", "many", "tops", "shares", "top", "both"] "_law_drawn" (defScope s_law_drawn) f cdv A outer s H E).nox ((defBody s_law_drawn).drop 2) tt ∧
        ∀ (H1 : Hp) (g : Addr) (tops : List Nat) (k1 : Int), Bd K H a ns p H1 k1 → H g = none → NL H1 g tops → Drawn tops m →
          tt { nx := fun _ H' => Q .non H', rt := Q } [some (.ref a), some (.ref p), some (.int (m : Int)), some (.ref g), none, none, none] H1 := by
      refine ⟨_, (pss_cons (ps_set (i := 4) sc_law_drawn.nd rfl (Or.inl rfl) (pe_lst pa_nil))
      (pss_cons (ps_for PassesOwn.never rfl (pi_list (pv 3)) (pg_name (i := 5) sc_law_drawn.nd rfl (Or.inl rfl))
      (pss_cons (ps_set (i := 6) sc_law_drawn.nd rfl (Or.inl rfl) (pe_def G_law_common (hr.mono (by decide)) rfl (pa_cons (pv 5) (pa_cons (pe_callB (call_sumI rfl) rfl T.g_sum PyProof.Rows.boot_sum (pa_cons (pv 3) pa_nil)) pa_nil))))
      (pss_one (ps_expr (pe_bm PySem.F.plainAttrs_list PySem.F.slot_list_append PySem.F.type_list_append mt_append (pv 4) (pa_cons (pe_tup (pa_cons (pe_op op_fdiv (pv 5) (pv 6)) (pa_cons (pe_op op_fdiv (pe_callB (call_sumI rfl) rfl T.g_sum PyProof.Rows.boot_sum (pa_cons (pv 3) pa_nil)) (pv 6)) pa_nil))) pa_nil))))))
      (pss_one (ps_ret (pv 4))))), fun H1 g tops k1 B1 hg0 ng dr => ?_⟩
      have es := cs_sum tops
      refine ⟨Nat.zero_le _, fun q hq => ?_⟩
      have q0 := B1.old hq
      have gq : g ≠ q := ne_of_none (show H1 g = some _ from ng) hq
      refine ⟨_, rfl, g, rfl, ⟨_, SqL.of (show upd H1 q (.lst []) g = _ by rw [upd_ne gq]; exact ng)⟩, for_list (K := K) (a := g) (xs := (cs tops).map V.int) (fun i σ H' => ∃ (o5 o6 : Option V) (ds : List Addr),
        σ = [some (.ref a), some (.ref p), some (.int (m : Int)), some (.ref g), some (.ref q), o5, o6] ∧ Bd K H a ns p H' k1 ∧ NL H' g tops ∧ H' q = some (.lst (ds.map V.ref)) ∧ Paired (IsPart H') ds ((tops.take i).map fun x => low x tops.sum))
        ⟨none, none, [], rfl, B1.new hq, (by show upd H1 q _ g = _; rw [upd_ne gq]; exact ng), upd_same, .nil⟩ (fun i σ H' _ ⟨_, _, _, _, _, e, _⟩ => SqL.of e) ?_ ?_⟩
      · rintro i x σ H' hx ⟨o5, o6, ds, rfl, B, ng', hq', pr⟩
        obtain ⟨n, hn, rfl⟩ := cs_at hx
        have gpos : 0 < Nat.gcd n tops.sum := Nat.gcd_pos_of_pos_right _ dr.pos
        have gle : Nat.gcd n tops.sum ≤ tops.sum := Nat.le_of_dvd dr.pos (Nat.gcd_dvd_right _ _)
        have lt := dr.lt
        have gI : (0 : Int) < ((Nat.gcd n tops.sum : Nat) : Int) ∧ ((Nat.gcd n tops.sum : Nat) : Int) < 1073741824 := by omega
        refine ⟨_, rfl, _, rfl, g, cs tops, rfl, SqL.of ng', n, tops.sum, (by show [V.int _, V.int (cs tops).sum] = _; rw [es]), ?_⟩
        refine ⟨_, rfl, .inl ⟨rfl, _, SqL.of hq'⟩, _, rfl, _, rfl, _, _, rfl, rfl, gI, _, rfl, g, cs tops, rfl, SqL.of ng', _, rfl, _, _, rfl, rfl, gI, (by show 2 ≤ sizeLine; exact small_line (by decide)), fun tp htp => ?_⟩
        have tg : tp ≠ g := Ne.symm (ne_of_none (show H' g = some _ from ng') htp)
        have tq : tp ≠ q := fun z => by rw [z, hq'] at htp; cases htp
        have dl : ds.length ≤ 8 := by
          rw [Paired.length pr, List.length_map, List.length_take, dr.len]
          omega
        refine ⟨q, _, _, rfl, rfl, (by rw [upd_ne (Ne.symm tq)]; exact hq'), small1000 (by rw [List.length_map]; omega), ?_⟩
        refine ⟨_, _, ds ++ [tp], rfl, (B.new htp).own q0, ?_, ?_, ?_⟩
        · show upd (upd H' tp _) q _ g = _
          rw [upd_ne gq, upd_ne (Ne.symm tg)]
          exact ng'
        · rw [upd_same, List.map_append]
          rfl
        · rw [List.take_add_one, hn, List.map_append]
          refine Paired.snoc (pr_imp pr fun c z _ e => ?_) ?_
          · have e' : H' c = some (.tup [.int (z.1 : Int), .int (z.2 : Int)]) := e
            show upd (upd H' tp _) q _ c = _
            rw [upd_ne (ne_of e' hq' (by intro z; cases z)), upd_ne (ne_of_none e' htp)]
            exact e'
          · show upd (upd H' tp _) q _ tp = _
            rw [upd_ne tq, upd_same, es]
            rfl
      · rintro σ H' ⟨o5, o6, ds, rfl, B, ng', hq', pr⟩
        rw [cs_len, List.take_length] at pr
        exact ⟨_, rfl, kk H' q ds tops k1 B ⟨hq', pr⟩ dr q0⟩
    obtain ⟨tt, ptt, rtt⟩ := tail
    refine ⟨_, (pss_cons (ps_comp (i := 3) (N := ["k", "script", "spot"]) (ix := [none, some 0, some 1]) sc_law_drawn.nd rfl rfl rfl (CompOk.of (by rfl)) (pi_range1 rfl T.g_range (pa_cons (pv 2) pa_nil)) (fun _ _ _ _ => (pg_name (i := 0) (show List.Nodup (["k", "script", "spot"] : List Str) by decide +kernel) rfl (Or.inl rfl))) (fun _ _ _ _ => pts_nil) (fun _ _ _ _ => (pe_op op_mod (pe_def G_law_next (hr.mono (by decide)) rfl (pa_cons (pv 1) (pa_cons (pv 2) pa_nil))) (pe_ix (ix_listK (K := K) rfl) (pe_lst (pa_cons pe_int (pa_cons pe_int (pa_cons pe_int (pa_cons pe_int pa_nil))))) (pe_op op_mod (pe_def G_law_cell_at (hr.mono (by decide)) rfl (pa_cons (pv 1) (pa_cons pe_int pa_nil))) pe_int) (fun _ _ => rfl)))))
      (pss_cons (ps_if (pt_cmpR op_eq (pe_callB (call_sumI rfl) rfl T.g_sum PyProof.Rows.boot_sum (pa_cons (pv 3) pa_nil)) pe_int (nomark _)) (pss_one (ps_asg pe_int (pg_sub (pv 3) (pe_op op_mod (pe_def G_law_cell_at (hr.mono (by decide)) rfl (pa_cons (pv 0) (pa_cons pe_int pa_nil))) (pv 2)) set_list))) pss_nil)
      ptt)), ?_⟩
    refine ⟨_, rfl, _, rfl, by omega, by omega, fun g hg => ?_⟩
    rw [Int.toNat_natCast]
    refine comp_range (n := m) (fun i ys H' => ∃ (ts : List Nat) (k' : Int), ys = (cs ts).map V.int ∧ ts.length = i ∧ (∀ n ∈ ts, n ≤ 1000003) ∧ Bd K H a ns p H' k' ∧ H' g = some (.lst ys)) (small_line (by omega)) ⟨[], k, rfl, rfl, by simp, B0.new hg, upd_same⟩ (fun i ys H' hi ⟨ts, _, e, e2, _⟩ => ?_) ?_ ?_
    · rw [e, cs_len, e2]
      exact Nat.le_refl _
    · rintro i ys H' hi ⟨ts, k', rfl, hl, hb, B, eg⟩
      refine ⟨_, rfl, _, rfl, a, p, ns, k', rfl, B.sc, B.spot, B.k0, fun n => ?_⟩
      refine ⟨small_line (by decide), fun l hl' => ?_⟩
      have B2 := B.next.new (o := .lst [.int 1, .int 7, .int 40, .int 1000003]) hl'
      refine ⟨_, rfl, a, ns, 0, rfl, B2.sc.seq, by decide, fun c => ⟨_, _, rfl, rfl, (by show (0 : Int) < 4; decide), ?_⟩⟩
      obtain ⟨v, e4, v1, v2⟩ := pick4 c
      refine ⟨l, _, _, _, rfl, rfl, SqL.of upd_same, e4, _, _, rfl, rfl, (by show (0 : Int) < v; omega), ?_⟩
      have r0 : 0 ≤ n % v := Int.emod_nonneg _ (by omega)
      have r1 : n % v < v := Int.emod_lt_of_pos _ (by omega)
      have eg2 : upd (upd H' p (.lst [.int (k' + 1)])) l (.lst [.int 1, .int 7, .int 40, .int 1000003]) g = some (.lst ((cs ts).map V.int)) := by
        have z : upd H' p (.lst [.int (k' + 1)]) g = some (.lst ((cs ts).map V.int)) := by rw [upd_ne (B.ne hg)]; exact eg
        rw [upd_ne (ne_of_none z hl')]
        exact z
      refine ⟨eg2, ts ++ [(n % v).toNat], k' + 1, ?_, by rw [List.length_append, hl]; rfl, fun y hy => ?_, B2.own hg, upd_same⟩
      · rw [← cs_snoc, Int.toNat_of_nonneg r0]
      · rcases List.mem_append.mp hy with hy | hy
        · exact hb y hy
        · rw [List.mem_singleton.mp hy]
          omega
    rintro ys H' ⟨ts, k', rfl, hl, hb, B, eg⟩
    have es := cs_sum ts
    have le := sum_le_mul hb
    refine ⟨_, rfl, g, cs ts, rfl, SqL.of eg, rfl, _, rfl, ?_⟩
    refine ite2 (fun hz => ?_) (fun hz => ?_)
    · have z0 : ts.sum = 0 := by
        have := V.int.inj (of_decide_eq_true hz)
        rw [es] at this
        omega
      refine ⟨_, rfl, _, rfl, a, ns, 1, rfl, B.sc.seq, by decide, fun c => ⟨_, rfl, _, _, rfl, rfl, (by show (0 : Int) < (m : Int); omega), ?_⟩⟩
      have b1 : 0 ≤ c % (m : Int) := Int.emod_nonneg _ (by omega)
      have b2 : c % (m : Int) < m := Int.emod_lt_of_pos _ (by omega)
      refine ⟨g, _, _, _, rfl, rfl, eg, ixN_of b1 (by rw [cs_len]; omega), ?_⟩
      have e1 : ((cs ts).map V.int).set (c % (m : Int)).toNat (.int 1) = (cs (ts.set (c % (m : Int)).toNat 1)).map V.int := by
        rw [cs, cs, List.map_set, List.map_set]
        rfl
      rw [e1]
      have hjl : (c % (m : Int)).toNat < ts.length := by omega
      have le2 : (ts.set (c % (m : Int)).toNat 1).sum ≤ 1000003 * (ts.set (c % (m : Int)).toNat 1).length := sum_le_mul fun x hx => by
        rcases mem_set_or hx with h | h
        · exact hb x h
        · rw [h]; decide
      rw [List.length_set, hl] at le2
      have ge1 : 1 ≤ (ts.set (c % (m : Int)).toNat 1).sum := le_sum (List.mem_iff_getElem.mpr ⟨_, by rw [List.length_set]; exact hjl, by simp⟩)
      exact rtt _ g _ k' (B.own hg) hg upd_same ⟨by rw [List.length_set]; exact hl, by omega, by
        have : 1000003 * m ≤ 1000003 * 8 := Nat.mul_le_mul_left _ m8
        omega⟩
    · have z0 : 0 < ts.sum := by
        rcases Nat.eq_zero_or_pos ts.sum with h | h
        · exact absurd (decide_eq_true (by rw [es, h]; rfl)) hz
        · exact h
      rw [hl] at le
      exact rtt _ g ts k' B hg eg ⟨hl, z0, by
        have : 1000003 * m ≤ 1000003 * 8 := Nat.mul_le_mul_left _ m8
        omega⟩

/-! ### shares that are spoilt -/
theorem s1l : 1 ≤ sizeLine := small_line (by decide)
theorem s2l : 2 ≤ sizeLine := small_line (by decide)
theorem cut_take' (xs : List V) (i : Nat) : cutV xs none (some (i : Int)) = xs.take i := cut_take xs i
theorem cut_drop1 (ds : List Addr) (j : Nat) : cutV (ds.map V.ref) (some ((j : Int) + 1)) none = (ds.drop (j + 1)).map V.ref := by
  unfold cutV
  have e : ((j : Int) + 1) = ((j + 1 : Nat) : Int) := by omega
  rw [e, HT.sIx_nat, HT.sIx_none, List.length_map, ← List.map_drop, ← List.map_take]
  congr 1
  by_cases h : j + 1 ≤ ds.length
  · rw [Nat.min_eq_left h, List.take_of_length_le (by rw [List.length_drop]; exact Nat.le_refl _)]
  · rw [Nat.min_eq_right (by omega), List.drop_length, List.drop_eq_nil_of_le (by omega), List.take_nil]
theorem cut_last (ds : List Addr) (h : 1 ≤ ds.length) : cutV (ds.map V.ref) none (some (-1)) = (ds.take (ds.length - 1)).map V.ref := by
  unfold cutV
  rw [HT.sIx_none, List.drop_zero, List.length_map, Nat.sub_zero]
  have e : HT.sIx ds.length ds.length (some (-1)) = ds.length - 1 := by
    show (if (-1 : Int) < 0 then ((-1 : Int) + (ds.length : Int)).toNat else min (-1 : Int).toNat ds.length) = _
    rw [if_pos (by decide)]
    omega
  rw [e, ← List.map_take]
theorem cut_two (ds : List Addr) : cutV (ds.map V.ref) (some 2) none = (ds.drop 2).map V.ref := by
  have := cut_drop1 ds 1
  exact this
theorem bad_two {m : Nat} {l r : List (Int × Int)} {a b : Nat} (hb : 0 < b) (h : (l ++ [(2 * (a : Int), 2 * (b : Int))] ++ r).length = m) : Bad m (l ++ [(2 * (a : Int), 2 * (b : Int))] ++ r) := by
  refine .part h (2 * (a : Int), 2 * (b : Int)) (by simp) ?_
  unfold partB
  have e : Int.gcd (2 * (a : Int)) (2 * (b : Int)) ≠ 1 := by
    rw [Int.gcd_mul_left]
    intro z
    have z1 : Int.natAbs 2 * Int.gcd a b = 1 := z
    have : (2 : Int).natAbs = 2 := rfl
    rw [this] at z1
    omega
  rw [decide_eq_false e, Bool.and_false, Bool.and_false]
theorem bad_neg {m : Nat} {l r : List (Int × Int)} {a b : Int} (hb : b < 1) (h : (l ++ [(a, b)] ++ r).length = m) : Bad m (l ++ [(a, b)] ++ r) := by
  refine .part h (a, b) (by simp) ?_
  unfold partB
  rw [decide_eq_false (show ¬ (1 : Int) ≤ b by omega), Bool.false_and, Bool.and_false]
theorem topsOf_app (l r : List (Nat × Nat)) (b : Nat) : topsOf (l ++ r) b = topsOf l b ++ topsOf r b := List.map_append
theorem bad_more {m : Nat} {l r : List (Nat × Nat)} {z : Nat × Nat} (S : Shares (l ++ [z] ++ r) m) (z1 : z.1 < 2 ^ 25) (z2 : z.2 < 2 ^ 25) : Bad m (l.map zc ++ [((z.1 : Int) + (z.2 : Int), (z.2 : Int))] ++ r.map zc) := by
  have e2 : (l ++ [(z.1 + z.2, z.2)] ++ r).map (·.2) = (l ++ [z] ++ r).map (·.2) := by simp
  have hz := S.parts z (by simp)
  refine .sum (l ++ [(z.1 + z.2, z.2)] ++ r) (by simp [zc]) (by have := S.len; simpa using this) (fun q hq => ?_) ?_
  · rcases List.mem_append.mp hq with h | h
    · rcases List.mem_append.mp h with h | h
      · exact S.parts q (by simp [h])
      · rw [List.mem_singleton.mp h]
        refine ⟨hz.1, ?_, ?_, hz.2.2.2⟩
        · show Nat.gcd (z.1 + z.2) z.2 = 1
          rw [Nat.gcd_add_self_left]
          exact hz.2.1
        · exact fit_nat.mpr (Nat.lt_of_lt_of_le (show z.1 + z.2 < 2 ^ 26 by omega) (Nat.pow_le_pow_right (by decide) (by decide)))
    · exact S.parts q (by simp [h])
  · rw [e2]
    have h1 := S.one
    have bp : 0 < lcmN ((l ++ [z] ++ r).map (·.2)) := lcmN_pos fun n hn => by
      obtain ⟨y, hy, rfl⟩ := List.mem_map.mp hn
      exact (S.parts y hy).1
    have dv : z.2 ∣ lcmN ((l ++ [z] ++ r).map (·.2)) := dvd_lcmN (List.mem_map.mpr ⟨z, by simp, rfl⟩)
    generalize lcmN ((l ++ [z] ++ r).map (·.2)) = b at h1 bp dv ⊢
    rw [topsOf_app, topsOf_app, List.sum_append, List.sum_append] at h1 ⊢
    have t1 : (topsOf [z] b).sum = z.1 * (b / z.2) := by simp [topsOf]
    have t2 : (topsOf [(z.1 + z.2, z.2)] b).sum = z.1 * (b / z.2) + b := by
      simp only [topsOf, List.map_cons, List.map_nil, List.sum_cons, List.sum_nil, Nat.add_zero]
      rw [Nat.add_mul, Nat.mul_div_cancel' dv]
    rw [t1] at h1
    rw [t2]
    omega

theorem c_law_spoilt (D : DefAt K mg "_law_spoilt" s_law_spoilt ["shares", "way", "cell"] f fd) (T : Txt mg) : Callee P w K mg base 1 "_law_spoilt" ["shares", "way", "cell"] spSpoilt := by
  refine D.ok sc_law_spoilt (fun vs H Q E h => ?_) (fun cdv A outer s H vs Q E hr h => ?_)
  · obtain ⟨q, ds, tops, m, way, cell, rfl, _⟩ := h
    rfl
  · obtain ⟨q, ds, tops, m, way, cell, rfl, prt, dr, m1, m8, kk⟩ := h
    have S : Shares (tops.map fun x => low x tops.sum) m := by
      have Dt : Dist (List.replicate m []) tops.sum tops := ⟨by rw [List.length_replicate]; exact dr.len, rfl, dr.pos⟩
      have := (shares_of Dt (fit_nat.mpr (Nat.lt_of_lt_of_le dr.lt (Nat.pow_le_pow_right (by decide) (by decide))))).1
      rwa [List.length_replicate] at this
    have hlp : (tops.map fun x => low x tops.sum).length = m := S.len
    have lt := dr.lt
    have small : ∀ z ∈ (tops.map fun x => low x tops.sum), z.1 < 2 ^ 25 ∧ z.2 < 2 ^ 25 := fun z hz => by
      obtain ⟨x, hx, rfl⟩ := List.mem_map.mp hz
      have h1 : (low x tops.sum).1 ≤ x := Nat.div_le_self _ _
      have h2 : (low x tops.sum).2 ≤ tops.sum := Nat.div_le_self _ _
      have h3 := le_sum hx
      omega
    generalize (tops.map fun x => low x tops.sum) = ps at prt S hlp small
    have hld : ds.length = m := by rw [prt.len, hlp]
    have hlm : (ds.map V.ref).length = m := by rw [List.length_map, hld]
    refine ⟨_, (pss_cons (ps_set (i := 3) sc_law_spoilt.nd rfl (Or.inl rfl) (pe_op op_mod (pv 2) (pe_callB call_len_seq rfl T.g_len PySem.boot_len (pa_cons (pv 0) pa_nil))))
      (pss_cons (ps_asg (pe_ix ix_list (pv 0) (pv 3) (fun _ _ => rfl)) (pg_tup (n := 2) rfl (pgs_cons (pg_name (i := 4) sc_law_spoilt.nd rfl (Or.inl rfl)) (pgs_cons (pg_name (i := 5) sc_law_spoilt.nd rfl (Or.inl rfl)) pgs_nil))))
      (pss_cons (ps_if (pt_cmpR op_eq (pv 1) pe_int (nomark _)) (pss_one (ps_ret (pe_op op_cat (pe_op op_cat (pe_slice sl_list (pv 0) po_none (po_some (pv 3))) (pe_lst (pa_cons (pe_tup (pa_cons (pe_op op_mul pe_int (pv 4)) (pa_cons (pe_op op_mul pe_int (pv 5)) pa_nil))) pa_nil))) (pe_slice sl_list (pv 0) (po_some (pe_op op_add (pv 3) pe_int)) po_none)))) pss_nil)
      (pss_cons (ps_if (pt_cmpR op_eq (pv 1) pe_int (nomark _)) (pss_one (ps_ret (pe_op op_cat (pe_op op_cat (pe_slice sl_list (pv 0) po_none (po_some (pv 3))) (pe_lst (pa_cons (pe_tup (pa_cons (pe_un un_neg (pv 4)) (pa_cons (pe_un un_neg (pv 5)) pa_nil))) pa_nil))) (pe_slice sl_list (pv 0) (po_some (pe_op op_add (pv 3) pe_int)) po_none)))) pss_nil)
      (pss_cons (ps_if (pt_cmpR op_eq (pv 1) pe_int (nomark _)) (pss_one (ps_ret (pe_op op_cat (pe_op op_cat (pe_slice sl_list (pv 0) po_none (po_some (pv 3))) (pe_lst (pa_cons (pe_tup (pa_cons (pv 4) (pa_cons pe_int pa_nil))) pa_nil))) (pe_slice sl_list (pv 0) (po_some (pe_op op_add (pv 3) pe_int)) po_none)))) pss_nil)
      (pss_cons (ps_if (pt_cmpR op_eq (pv 1) pe_int (nomark _)) (pss_one (ps_ret (pe_op op_cat (pv 0) (pe_lst (pa_cons (pe_tup (pa_cons pe_int (pa_cons pe_int pa_nil))) pa_nil))))) pss_nil)
      (pss_cons (ps_if (pt_cmpR op_eq (pv 1) pe_int (nomark _)) (pss_one (ps_ret (pe_slice sl_list (pv 0) po_none (po_some (pe_un un_neg pe_int))))) pss_nil)
      (pss_cons (ps_if (pt_cmpR op_eq (pv 1) pe_int (nomark _)) (pss_one (ps_ret (pe_op op_cat (pe_op op_cat (pe_slice sl_list (pv 0) po_none (po_some (pv 3))) (pe_lst (pa_cons (pe_tup (pa_cons (pe_op op_add (pv 4) (pv 5)) (pa_cons (pv 5) pa_nil))) pa_nil))) (pe_slice sl_list (pv 0) (po_some (pe_op op_add (pv 3) pe_int)) po_none)))) pss_nil)
      (pss_cons (ps_if (pt_cmpR op_gt (pe_callB call_len_seq rfl T.g_len PySem.boot_len (pa_cons (pv 0) pa_nil)) pe_int (nomark _)) (pss_one (ps_ret (pe_op op_cat (pe_lst (pa_cons (pe_tup (pa_cons (pe_un un_neg pe_int) (pa_cons pe_int pa_nil))) (pa_cons (pe_tup (pa_cons pe_int (pa_cons pe_int pa_nil))) pa_nil))) (pe_comp (N := ["share"]) (ix := [none]) rfl (CompOk.of (by rfl)) (pi_list (pe_slice sl_list (pv 0) (po_some pe_int) po_none)) (fun _ _ _ _ => (pg_name (i := 0) (show List.Nodup (["share"] : List Str) by decide +kernel) rfl (Or.inl rfl))) (fun _ _ _ _ => pts_nil) (fun _ _ _ _ => (pe_tup (pa_cons pe_int (pa_cons pe_int pa_nil)))))))) pss_nil)
      (pss_one (ps_ret (pe_lst (pa_cons (pe_tup (pa_cons pe_int (pa_cons pe_int pa_nil))) pa_nil))))))))))))), ?_⟩
    refine ⟨_, rfl, _, rfl, q, _, rfl, .inl (SqL.of prt.top), _, _, rfl, rfl, (by rw [hlm]; omega), ?_⟩
    rw [hlm]
    have b0 : 0 ≤ cell % (m : Int) := Int.emod_nonneg _ (by omega)
    have b1 : cell % (m : Int) < m := Int.emod_lt_of_pos _ (by omega)
    obtain ⟨j, hj⟩ := Int.eq_ofNat_of_zero_le b0
    show gName 3 (V.int (cell % ((m : Nat) : Int))) _ H _
    rw [hj]
    rw [hj] at b1
    have jm : j < m := by omega
    have jd : j < ds.length := by omega
    have er : ds[j]? = some ds[j] := List.getElem?_eq_getElem jd
    obtain ⟨z, hz, e⟩ := pr_get prt.items er
    have zm := List.mem_of_getElem? hz
    have hzp := S.parts z zm
    have zs := small z zm
    have split : ps = ps.take j ++ [z] ++ ps.drop (j + 1) := by
      have jp : j < ps.length := by omega
      have e1 : ps[j] = z := Option.some.inj ((List.getElem?_eq_getElem jp).symm.trans hz)
      rw [List.append_assoc, List.singleton_append, ← e1, ← List.drop_eq_getElem_cons jp, List.take_append_drop]
    have lenN : ∀ x : Int × Int, ((ps.take j).map zc ++ [x] ++ (ps.drop (j + 1)).map zc).length = m := fun x => by
      rw [List.length_append, List.length_append, List.length_map, List.length_map, List.length_take, List.length_drop, hlp]
      show min j m + 1 + (m - (j + 1)) = m
      omega
    have fin : ∀ (x y : Int) (H6 : Hp) (p6 p2 : Addr), Same H H6 → H6 p6 = some (.lst ((ds.take j).map V.ref ++ [.ref p2] ++ (ds.drop (j + 1)).map V.ref)) → H6 p2 = some (.tup [.int x, .int y]) →
        Bad m ((ps.take j).map zc ++ [(x, y)] ++ (ps.drop (j + 1)).map zc) → Q (.ref p6) H6 := by
      intro x y H6 p6 p2 s6 et e2 bad
      refine kk H6 p6 (ds.take j ++ [p2] ++ ds.drop (j + 1)) _ s6 ⟨?_, ?_⟩ (by rw [lenN]; omega) bad
      · rw [et, List.map_append, List.map_append]
        rfl
      · have it := pr_cz prt.items
        have it' : Paired (IsPair H6) ds (ps.map zc) := pr_imp it fun _ _ _ q => s6 _ _ q
        refine pr_cat (pr_cat ?_ (.cons e2 .nil)) ?_
        · have := pr_take j it'
          rwa [← List.map_take] at this
        · have := pr_drop (j + 1) it'
          rwa [← List.map_drop] at this
    refine ⟨_, rfl, _, rfl, q, _, _, _, rfl, rfl, SqL.of prt.top, atI_pos (by omega) (by rw [Int.toNat_natCast, List.getElem?_map, er]; rfl), ds[j], _, rfl, SqT.of e, rfl, _, _, rfl, _, _, rfl, rfl, ?_⟩
    refine ⟨_, rfl, rfl, _, rfl, ite2 (fun hw => ?_) (fun hw1 => ?_)⟩
    · clear hw
      refine ⟨_, rfl, _, rfl, _, rfl, q, _, rfl, SqL.of prt.top, fun p1 hp1 => ?_⟩
      rw [cut_take', ← List.map_take]
      have s1 : Same H (upd H p1 (.lst ((ds.take j).map V.ref))) := Same.upd_new hp1
      refine ⟨_, rfl, _, _, rfl, rfl, .inl ⟨by decide, by decide⟩, _, rfl, _, _, rfl, rfl, .inl ⟨by decide, by decide⟩, s2l, fun p2 hp2 => ⟨s1l, fun p3 hp3 => ?_⟩⟩
      have s2 := s1.trans (Same.upd_new (o := .tup [.int (2 * (z.1 : Int)), .int (2 * (z.2 : Int))]) hp2)
      have n2 : H p2 = none := s1.free hp2
      have e2 : upd (upd H p1 (.lst ((ds.take j).map V.ref))) p2 (.tup [.int (2 * (z.1 : Int)), .int (2 * (z.2 : Int))]) p2 = some (.tup [.int (2 * (z.1 : Int)), .int (2 * (z.2 : Int))]) := upd_same
      have e1 : upd (upd H p1 (.lst ((ds.take j).map V.ref))) p2 (.tup [.int (2 * (z.1 : Int)), .int (2 * (z.2 : Int))]) p1 = some (.lst ((ds.take j).map V.ref)) := by rw [upd_ne (ne_of_none upd_same hp2), upd_same]
      generalize upd (upd H p1 (.lst ((ds.take j).map V.ref))) p2 (.tup [.int (2 * (z.1 : Int)), .int (2 * (z.2 : Int))]) = H2 at hp3 s2 e2 e1 ⊢
      have s3 := Same.upd_new (o := .lst [.ref p2]) hp3
      refine ⟨p1, p3, _, _, rfl, rfl, s3 _ _ e1, upd_same, (by rw [List.length_map, List.length_take]; exact small_line (by show _ + 1 ≤ 1000; omega)), fun p4 hp4 => ?_⟩
      have s4 := s3.trans (Same.upd_new (o := .lst ((ds.take j).map V.ref ++ [.ref p2])) hp4)
      have e4 : upd (upd H2 p3 (.lst [.ref p2])) p4 (.lst ((ds.take j).map V.ref ++ [.ref p2])) p4 = some (.lst ((ds.take j).map V.ref ++ [.ref p2])) := upd_same
      generalize upd (upd H2 p3 (.lst [.ref p2])) p4 (.lst ((ds.take j).map V.ref ++ [.ref p2])) = H4 at hp4 s4 e4 ⊢
      have s04 := s2.trans s4
      refine ⟨_, rfl, _, rfl, _, _, rfl, rfl, _, rfl, q, _, rfl, SqL.of (s04 _ _ prt.top), fun p5 hp5 => ?_⟩
      rw [cut_drop1]
      have s5 := Same.upd_new (o := .lst ((ds.drop (j + 1)).map V.ref)) hp5
      refine ⟨p4, p5, _, _, rfl, rfl, s5 _ _ e4, upd_same, (by rw [List.length_append, List.length_map, List.length_map, List.length_take, List.length_drop]; exact small_line (by show _ + 1 + _ ≤ 1000; omega)), fun p6 hp6 => ?_⟩
      have s6 := s5.trans (Same.upd_new (o := .lst ((ds.take j).map V.ref ++ [.ref p2] ++ (ds.drop (j + 1)).map V.ref)) hp6)
      have s06 := s04.trans s6
      exact fin (2 * (z.1 : Int)) (2 * (z.2 : Int)) _ p6 p2 s06 upd_same ((s4.trans s6) _ _ e2) (bad_two hzp.1 (lenN _))
    refine ⟨_, rfl, rfl, _, rfl, ite2 (fun hw => ?_) (fun hw2 => ?_)⟩
    · clear hw
      refine ⟨_, rfl, _, rfl, _, rfl, q, _, rfl, SqL.of prt.top, fun p1 hp1 => ?_⟩
      rw [cut_take', ← List.map_take]
      have s1 : Same H (upd H p1 (.lst ((ds.take j).map V.ref))) := Same.upd_new hp1
      refine ⟨_, rfl, _, rfl, _, rfl, _, rfl, s2l, fun p2 hp2 => ⟨s1l, fun p3 hp3 => ?_⟩⟩
      have s2 := s1.trans (Same.upd_new (o := .tup [.int (-(z.1 : Int)), .int (-(z.2 : Int))]) hp2)
      have n2 : H p2 = none := s1.free hp2
      have e2 : upd (upd H p1 (.lst ((ds.take j).map V.ref))) p2 (.tup [.int (-(z.1 : Int)), .int (-(z.2 : Int))]) p2 = some (.tup [.int (-(z.1 : Int)), .int (-(z.2 : Int))]) := upd_same
      have e1 : upd (upd H p1 (.lst ((ds.take j).map V.ref))) p2 (.tup [.int (-(z.1 : Int)), .int (-(z.2 : Int))]) p1 = some (.lst ((ds.take j).map V.ref)) := by rw [upd_ne (ne_of_none upd_same hp2), upd_same]
      generalize upd (upd H p1 (.lst ((ds.take j).map V.ref))) p2 (.tup [.int (-(z.1 : Int)), .int (-(z.2 : Int))]) = H2 at hp3 s2 e2 e1 ⊢
      have s3 := Same.upd_new (o := .lst [.ref p2]) hp3
      refine ⟨p1, p3, _, _, rfl, rfl, s3 _ _ e1, upd_same, (by rw [List.length_map, List.length_take]; exact small_line (by show _ + 1 ≤ 1000; omega)), fun p4 hp4 => ?_⟩
      have s4 := s3.trans (Same.upd_new (o := .lst ((ds.take j).map V.ref ++ [.ref p2])) hp4)
      have e4 : upd (upd H2 p3 (.lst [.ref p2])) p4 (.lst ((ds.take j).map V.ref ++ [.ref p2])) p4 = some (.lst ((ds.take j).map V.ref ++ [.ref p2])) := upd_same
      generalize upd (upd H2 p3 (.lst [.ref p2])) p4 (.lst ((ds.take j).map V.ref ++ [.ref p2])) = H4 at hp4 s4 e4 ⊢
      have s04 := s2.trans s4
      refine ⟨_, rfl, _, rfl, _, _, rfl, rfl, _, rfl, q, _, rfl, SqL.of (s04 _ _ prt.top), fun p5 hp5 => ?_⟩
      rw [cut_drop1]
      have s5 := Same.upd_new (o := .lst ((ds.drop (j + 1)).map V.ref)) hp5
      refine ⟨p4, p5, _, _, rfl, rfl, s5 _ _ e4, upd_same, (by rw [List.length_append, List.length_map, List.length_map, List.length_take, List.length_drop]; exact small_line (by show _ + 1 + _ ≤ 1000; omega)), fun p6 hp6 => ?_⟩
      have s6 := s5.trans (Same.upd_new (o := .lst ((ds.take j).map V.ref ++ [.ref p2] ++ (ds.drop (j + 1)).map V.ref)) hp6)
      have s06 := s04.trans s6
      exact fin (-(z.1 : Int)) (-(z.2 : Int)) _ p6 p2 s06 upd_same ((s4.trans s6) _ _ e2) (bad_neg (by have := hzp.1; omega) (lenN _))
    refine ⟨_, rfl, rfl, _, rfl, ite2 (fun hw => ?_) (fun hw3 => ?_)⟩
    · clear hw
      refine ⟨_, rfl, _, rfl, _, rfl, q, _, rfl, SqL.of prt.top, fun p1 hp1 => ?_⟩
      rw [cut_take', ← List.map_take]
      have s1 : Same H (upd H p1 (.lst ((ds.take j).map V.ref))) := Same.upd_new hp1
      refine ⟨_, rfl, s2l, fun p2 hp2 => ⟨s1l, fun p3 hp3 => ?_⟩⟩
      have s2 := s1.trans (Same.upd_new (o := .tup [.int (z.1 : Int), .int 0]) hp2)
      have n2 : H p2 = none := s1.free hp2
      have e2 : upd (upd H p1 (.lst ((ds.take j).map V.ref))) p2 (.tup [.int (z.1 : Int), .int 0]) p2 = some (.tup [.int (z.1 : Int), .int 0]) := upd_same
      have e1 : upd (upd H p1 (.lst ((ds.take j).map V.ref))) p2 (.tup [.int (z.1 : Int), .int 0]) p1 = some (.lst ((ds.take j).map V.ref)) := by rw [upd_ne (ne_of_none upd_same hp2), upd_same]
      generalize upd (upd H p1 (.lst ((ds.take j).map V.ref))) p2 (.tup [.int (z.1 : Int), .int 0]) = H2 at hp3 s2 e2 e1 ⊢
      have s3 := Same.upd_new (o := .lst [.ref p2]) hp3
      refine ⟨p1, p3, _, _, rfl, rfl, s3 _ _ e1, upd_same, (by rw [List.length_map, List.length_take]; exact small_line (by show _ + 1 ≤ 1000; omega)), fun p4 hp4 => ?_⟩
      have s4 := s3.trans (Same.upd_new (o := .lst ((ds.take j).map V.ref ++ [.ref p2])) hp4)
      have e4 : upd (upd H2 p3 (.lst [.ref p2])) p4 (.lst ((ds.take j).map V.ref ++ [.ref p2])) p4 = some (.lst ((ds.take j).map V.ref ++ [.ref p2])) := upd_same
      generalize upd (upd H2 p3 (.lst [.ref p2])) p4 (.lst ((ds.take j).map V.ref ++ [.ref p2])) = H4 at hp4 s4 e4 ⊢
      have s04 := s2.trans s4
      refine ⟨_, rfl, _, rfl, _, _, rfl, rfl, _, rfl, q, _, rfl, SqL.of (s04 _ _ prt.top), fun p5 hp5 => ?_⟩
      rw [cut_drop1]
      have s5 := Same.upd_new (o := .lst ((ds.drop (j + 1)).map V.ref)) hp5
      refine ⟨p4, p5, _, _, rfl, rfl, s5 _ _ e4, upd_same, (by rw [List.length_append, List.length_map, List.length_map, List.length_take, List.length_drop]; exact small_line (by show _ + 1 + _ ≤ 1000; omega)), fun p6 hp6 => ?_⟩
      have s6 := s5.trans (Same.upd_new (o := .lst ((ds.take j).map V.ref ++ [.ref p2] ++ (ds.drop (j + 1)).map V.ref)) hp6)
      have s06 := s04.trans s6
      exact fin (z.1 : Int) 0 _ p6 p2 s06 upd_same ((s4.trans s6) _ _ e2) (bad_neg (by decide) (lenN _))
    refine ⟨_, rfl, rfl, _, rfl, ite2 (fun hw => ?_) (fun hw4 => ?_)⟩
    · clear hw
      refine ⟨_, rfl, s2l, fun p2 hp2 => ⟨s1l, fun p3 hp3 => ?_⟩⟩
      have s2 := Same.upd_new (o := .tup [.int 0, .int 1]) hp2
      have e2 : upd H p2 (.tup [.int 0, .int 1]) p2 = some (.tup [.int 0, .int 1]) := upd_same
      generalize upd H p2 (.tup [.int 0, .int 1]) = H2 at hp3 s2 e2 ⊢
      have s3 := Same.upd_new (o := .lst [.ref p2]) hp3
      refine ⟨q, p3, _, _, rfl, rfl, (s2.trans s3) _ _ prt.top, upd_same, (by rw [hlm]; exact small_line (by show _ + 1 ≤ 1000; omega)), fun p4 hp4 => ?_⟩
      have s4 := s3.trans (Same.upd_new (o := .lst (ds.map V.ref ++ [.ref p2])) hp4)
      have s04 := s2.trans s4
      refine kk _ p4 (ds ++ [p2]) (ps.map zc ++ [(0, 1)]) s04 ⟨by rw [upd_same, List.map_append]; rfl, pr_cat (pr_imp (pr_cz prt.items) fun _ _ _ q => s04 _ _ q) (.cons (s4 _ _ e2) .nil)⟩ ?_ (.len ?_)
      · rw [List.length_append, List.length_map, hlp]
        show m + 1 ≤ 9
        omega
      · rw [List.length_append, List.length_map, hlp]
        show m + 1 ≠ m
        omega
    refine ⟨_, rfl, rfl, _, rfl, ite2 (fun hw => ?_) (fun hw5 => ?_)⟩
    · clear hw
      refine ⟨_, rfl, _, rfl, _, rfl, q, _, rfl, SqL.of prt.top, fun p1 hp1 => ?_⟩
      rw [cut_last ds (by omega), hld]
      have s1 : Same H (upd H p1 (.lst ((ds.take (m - 1)).map V.ref))) := Same.upd_new hp1
      refine kk _ p1 (ds.take (m - 1)) ((ps.take (m - 1)).map zc) s1 ⟨upd_same, ?_⟩ ?_ (.len ?_)
      · have := pr_take (m - 1) (pr_imp (pr_cz prt.items) fun _ _ _ q => s1 _ _ q)
        rwa [← List.map_take] at this
      · rw [List.length_map, List.length_take]
        omega
      · rw [List.length_map, List.length_take]
        omega
    refine ⟨_, rfl, rfl, _, rfl, ite2 (fun hw => ?_) (fun hw6 => ?_)⟩
    · clear hw
      refine ⟨_, rfl, _, rfl, _, rfl, q, _, rfl, SqL.of prt.top, fun p1 hp1 => ?_⟩
      rw [cut_take', ← List.map_take]
      have s1 : Same H (upd H p1 (.lst ((ds.take j).map V.ref))) := Same.upd_new hp1
      refine ⟨_, rfl, _, rfl, _, _, rfl, rfl, _, rfl, s2l, fun p2 hp2 => ⟨s1l, fun p3 hp3 => ?_⟩⟩
      have s2 := s1.trans (Same.upd_new (o := .tup [.int ((z.1 : Int) + (z.2 : Int)), .int (z.2 : Int)]) hp2)
      have n2 : H p2 = none := s1.free hp2
      have e2 : upd (upd H p1 (.lst ((ds.take j).map V.ref))) p2 (.tup [.int ((z.1 : Int) + (z.2 : Int)), .int (z.2 : Int)]) p2 = some (.tup [.int ((z.1 : Int) + (z.2 : Int)), .int (z.2 : Int)]) := upd_same
      have e1 : upd (upd H p1 (.lst ((ds.take j).map V.ref))) p2 (.tup [.int ((z.1 : Int) + (z.2 : Int)), .int (z.2 : Int)]) p1 = some (.lst ((ds.take j).map V.ref)) := by rw [upd_ne (ne_of_none upd_same hp2), upd_same]
      generalize upd (upd H p1 (.lst ((ds.take j).map V.ref))) p2 (.tup [.int ((z.1 : Int) + (z.2 : Int)), .int (z.2 : Int)]) = H2 at hp3 s2 e2 e1 ⊢
      have s3 := Same.upd_new (o := .lst [.ref p2]) hp3
      refine ⟨p1, p3, _, _, rfl, rfl, s3 _ _ e1, upd_same, (by rw [List.length_map, List.length_take]; exact small_line (by show _ + 1 ≤ 1000; omega)), fun p4 hp4 => ?_⟩
      have s4 := s3.trans (Same.upd_new (o := .lst ((ds.take j).map V.ref ++ [.ref p2])) hp4)
      have e4 : upd (upd H2 p3 (.lst [.ref p2])) p4 (.lst ((ds.take j).map V.ref ++ [.ref p2])) p4 = some (.lst ((ds.take j).map V.ref ++ [.ref p2])) := upd_same
      generalize upd (upd H2 p3 (.lst [.ref p2])) p4 (.lst ((ds.take j).map V.ref ++ [.ref p2])) = H4 at hp4 s4 e4 ⊢
      have s04 := s2.trans s4
      refine ⟨_, rfl, _, rfl, _, _, rfl, rfl, _, rfl, q, _, rfl, SqL.of (s04 _ _ prt.top), fun p5 hp5 => ?_⟩
      rw [cut_drop1]
      have s5 := Same.upd_new (o := .lst ((ds.drop (j + 1)).map V.ref)) hp5
      refine ⟨p4, p5, _, _, rfl, rfl, s5 _ _ e4, upd_same, (by rw [List.length_append, List.length_map, List.length_map, List.length_take, List.length_drop]; exact small_line (by show _ + 1 + _ ≤ 1000; omega)), fun p6 hp6 => ?_⟩
      have s6 := s5.trans (Same.upd_new (o := .lst ((ds.take j).map V.ref ++ [.ref p2] ++ (ds.drop (j + 1)).map V.ref)) hp6)
      have s06 := s04.trans s6
      exact fin ((z.1 : Int) + (z.2 : Int)) (z.2 : Int) _ p6 p2 s06 upd_same ((s4.trans s6) _ _ e2) (bad_more (by rw [← split]; exact S) zs.1 zs.2)
    refine ⟨_, rfl, q, _, rfl, .inl (SqL.of prt.top), _, _, rfl, rfl, _, rfl, ?_⟩
    rw [hlm]
    refine ite2 (fun hw => ?_) (fun hw => ?_)
    · have m2 : 2 ≤ m := by
        have := of_decide_eq_true hw
        omega
      refine ⟨_, rfl, s2l, fun t1 ht1 => ⟨s2l, fun t2 ht2 => ⟨s2l, fun l1 hl1 => ?_⟩⟩⟩
      have s1 := Same.upd_new (o := .tup [.int (-1), .int 1]) ht1
      have s2 := Same.upd_new (o := .tup [.int 2, .int 1]) ht2
      have s3 := Same.upd_new (o := .lst [.ref t1, .ref t2]) hl1
      have e1 := (s2.trans s3) _ _ (upd_same (H := H) (a := t1) (o := .tup [.int (-1), .int 1]))
      have e2 := s3 _ _ (upd_same (H := upd H t1 (.tup [.int (-1), .int 1])) (a := t2) (o := .tup [.int 2, .int 1]))
      have e3 : upd (upd (upd H t1 (.tup [.int (-1), .int 1])) t2 (.tup [.int 2, .int 1])) l1 (.lst [.ref t1, .ref t2]) l1 = some (.lst [.ref t1, .ref t2]) := upd_same
      have s03 := (s1.trans s2).trans s3
      generalize upd (upd (upd H t1 (.tup [.int (-1), .int 1])) t2 (.tup [.int 2, .int 1])) l1 (.lst [.ref t1, .ref t2]) = H3 at e1 e2 e3 s03 ⊢
      refine ⟨_, rfl, _, rfl, q, _, rfl, SqL.of (s03 _ _ prt.top), fun p4 hp4 => ?_⟩
      rw [cut_two]
      have s4 := Same.upd_new (o := .lst ((ds.drop 2).map V.ref)) hp4
      have e4 : upd H3 p4 (.lst ((ds.drop 2).map V.ref)) p4 = some (.lst ((ds.drop 2).map V.ref)) := upd_same
      generalize upd H3 p4 (.lst ((ds.drop 2).map V.ref)) = H4 at s4 e4 ⊢
      have hd2 : ((ds.drop 2).map V.ref).length = m - 2 := by rw [List.length_map, List.length_drop, hld]
      refine ⟨p4, rfl, ⟨_, SqL.of e4⟩, fun d hd => comp_list (xs := (ds.drop 2).map V.ref) (fun i ys H' => ∃ es : List Addr, ys = es.map V.ref ∧ Same H4 H' ∧ H' d = some (.lst ys) ∧ Paired (IsPair H') es (List.replicate i (0, 1)))
        (by rw [hd2]; exact small_line (by omega)) ⟨[], rfl, Same.upd_new hd, upd_same, .nil⟩ (fun i ys H' hi ⟨es, e, s5, _, pr⟩ => ⟨s5.seq (SqL.of e4), ?_⟩) ?_ ?_⟩
      · rw [e, List.length_map, Paired.length pr, List.length_replicate]
        exact Nat.le_refl _
      · rintro i x ys H' hx ⟨es, rfl, s5, e5, pr⟩
        refine ⟨small_line (by decide), fun t ht => ?_⟩
        have nt : t ≠ d := fun z => by rw [z, e5] at ht; cases ht
        refine ⟨by rw [upd_ne (Ne.symm nt)]; exact e5, es ++ [t], by rw [List.map_append]; rfl, (s5.new (s5.free ht)).new hd, upd_same, ?_⟩
        rw [List.replicate_succ']
        refine Paired.snoc (pr_imp pr fun c zz _ ec => ?_) ?_
        · have ec' : H' c = some (.tup [.int zz.1, .int zz.2]) := ec
          show upd (upd H' t _) d _ c = _
          rw [upd_ne (ne_of ec' e5 (by intro z; cases z)), upd_ne (ne_of_none ec' ht)]
          exact ec'
        · show upd (upd H' t _) d _ t = _
          rw [upd_ne nt, upd_same]
      · rintro ys H' ⟨es, rfl, s5, e5, pr⟩
        rw [hd2] at pr
        have esl : es.length = m - 2 := by rw [Paired.length pr, List.length_replicate]
        refine ⟨l1, d, _, _, rfl, rfl, (s4.trans s5) _ _ e3, e5, (by rw [List.length_map, esl]; exact small_line (by show 2 + _ ≤ 1000; omega)), fun p6 hp6 => ?_⟩
        have s6 := Same.upd_new (o := .lst ([.ref t1, .ref t2] ++ es.map V.ref)) hp6
        have s46 := (s4.trans s5).trans s6
        refine kk _ p6 (t1 :: t2 :: es) ((-1, 1) :: (2, 1) :: List.replicate (m - 2) (0, 1)) (s03.trans s46) ⟨upd_same, .cons (s46 _ _ e1) (.cons (s46 _ _ e2) (pr_imp pr fun _ _ _ q => s6 _ _ q))⟩ ?_ (.part ?_ (-1, 1) (by simp) rfl)
        · rw [List.length_cons, List.length_cons, List.length_replicate]
          omega
        · rw [List.length_cons, List.length_cons, List.length_replicate]
          omega
    · have m2 : m = 1 := by
        have h : ¬ (1 : Int) < (m : Int) := fun z => hw (decide_eq_true z)
        omega
      refine ⟨s2l, fun t1 ht1 => ⟨s1l, fun l1 hl1 => ?_⟩⟩
      have s1 := Same.upd_new (o := .tup [.int 1, .int 2]) ht1
      have s3 := Same.upd_new (o := .lst [.ref t1]) hl1
      refine kk _ l1 [t1] [(1, 2)] (s1.trans s3) ⟨upd_same, .cons (s3 _ _ upd_same) .nil⟩ (by decide) (.sum [(1, 2)] rfl m2.symm (fun z hz => ?_) (by decide))
      rw [List.mem_singleton.mp hz]
      exact ⟨by decide, by decide, fit_nat.mpr (Nat.lt_of_lt_of_le (show 1 < 2 ^ 2 by decide) (Nat.pow_le_pow_right (by decide) (by decide))), fit_nat.mpr (Nat.lt_of_lt_of_le (show 2 < 2 ^ 2 by decide) (Nat.pow_le_pow_right (by decide) (by decide)))⟩

/-! ### the law -/
def spLaw (K : PySem.W.Frag) : Sp := fun vs H Q _ => ∃ (a : Addr) (ns : List Int), vs = [.ref a] ∧ Scr K H a ns ∧ ∀ H', Q (.bl true) H'
theorem prt_off {H : Hp} {p d : Addr} {rs : List Addr} {ps : List (Nat × Nat)} {xs : List V} {o : HO} (h : Prt H p rs ps) (hd : H d = some (.lst xs)) (hp : p ≠ d) : Prt (upd H d o) p rs ps :=
  ⟨by rw [upd_ne hp]; exact h.top, pr_imp h.items fun a q _ e => by
    have e' : H a = some (.tup [.int (q.1 : Int), .int (q.2 : Int)]) := e
    show upd H d o a = _
    rw [upd_ne (ne_of e' hd (by intro z; cases z))]
    exact e'⟩
theorem ok_law (D : DefAt K mg "law" s_law ["script"] f fd) (T : Txt mg) (G_law_house : Callee P w K mg base 4 "_law_house" ["script", "spot", "most"] (spHouse K)) (G_law_cell_at : Callee P w K mg base 1 "_law_cell_at" ["script", "k"] (spCell K)) (G_law_next : Callee P w K mg base 2 "_law_next" ["script", "spot"] (spNext K))
    (G_step : Callee P w K mg base 4 "step" ["table", "one", "other"] spStep) (G_law_is_part : Callee P w K mg base 2 "_law_is_part" ["found", "top", "bottom"] spLIsPart) (G_law_drawn : Callee P w K mg base 3 "_law_drawn" ["script", "spot", "many"] (spDrawn K))
    (G_law_asked : Callee P w K mg base 8 "_law_asked" ["table", "shares"] (spAskedBad "shares")) (G_law_spoilt : Callee P w K mg base 1 "_law_spoilt" ["shares", "way", "cell"] spSpoilt) (G_law_levelled : Callee P w K mg base 2 "_law_levelled" ["shares"] spLevelled)
    (G_walked : Callee P w K mg base 7 "walked" ["table", "shares"] spWalked) (G_law_moved : Callee P w K mg base 3 "_law_moved" ["table", "tops", "bottom"] (spLMoved K))
    (G_law_parts_like : Callee P w K mg base 3 "_law_parts_like" ["found", "tops", "bottom"] (spLPartsLike K)) : FnOk P w K mg base CX0 12 f fd ["script"] (spLaw K) := by
  refine D.fn.ok sc_law (fun vs H Q E h => ?_) (fun cdv A outer s H vs Q E hr h => ?_)
  · obtain ⟨a, ns, rfl, _⟩ := h
    rfl
  · obtain ⟨a, ns, rfl, hs, kk⟩ := h
    have tail : ∃ tt, PSs (cxOf CX0 P w K mg base ["script", "spot", "table", "many", "one", "other", "kept", "told", "shares", "way", "handed", "tops", "bottom", "found"] "law" (defScope s_law) f cdv A outer s H E).nox ((defBody s_law).drop 5) tt ∧
        ∀ (H1 : Hp) (sp q : Addr) (rs : List Addr) (t : NT) (x y k1 : Int), Scr K H1 a ns → H1 sp = some (.lst [.int k1]) → 0 ≤ k1 → Tab H1 q rs (up t) → q ≠ sp → sp ∉ rs → NHouse t → House (up t) → 0 ≤ x → x < (t.length : Int) → 0 ≤ y → y < (t.length : Int) →
          tt { nx := fun _ H' => Q .non H', rt := Q } [some (.ref a), some (.ref sp), some (.ref q), some (.int (t.length : Int)), some (.int x), some (.int y), none, none, none, none, none, none, none, none] H1 := by
      refine ⟨_, (pss_cons (ps_comp (i := 6) (N := ["row"]) (ix := [none]) sc_law.nd rfl rfl rfl (CompOk.of (by rfl)) (pi_list (pv 2)) (fun _ _ _ _ => (pg_name (i := 0) (show List.Nodup (["row"] : List Str) by decide +kernel) rfl (Or.inl rfl))) (fun _ _ _ _ => pts_nil) (fun _ _ _ _ => (pe_callTy (call_list_ofK (K := K) rfl) rfl T.g_list PyProof.Rows.boot_list (pa_cons (pv 0) pa_nil))))
      (pss_cons (ps_set (i := 7) sc_law.nd rfl (Or.inl rfl) (pe_def G_step (hr.mono (by decide)) rfl (pa_cons (pv 2) (pa_cons (pv 4) (pa_cons (pv 5) pa_nil)))))
      (pss_cons (ps_if (PW.pt (pw_or (pt_not (pt_val (pe_def G_law_is_part (hr.mono (by decide)) rfl (pa_cons (pv 7) (pa_cons (pe_ix ix_list (pe_ix ix_list (pv 2) (pv 4) (fun _ _ => rfl)) (pv 5) (fun _ _ => rfl)) (pa_cons (pe_callB (call_sumI rfl) rfl T.g_sum PyProof.Rows.boot_sum (pa_cons (pe_ix ix_list (pv 2) (pv 4) (fun _ _ => rfl)) pa_nil)) pa_nil)))))) (pw_or1 (pt_cmpR (op_neD hr) (pv 2) (pv 6) (nomark _))))) (pss_one (ps_ret pe_bl)) pss_nil)
      (pss_cons (ps_set (i := 8) sc_law.nd rfl (Or.inl rfl) (pe_def G_law_drawn (hr.mono (by decide)) rfl (pa_cons (pv 0) (pa_cons (pv 1) (pa_cons (pv 3) pa_nil)))))
      (pss_cons (ps_set (i := 9) sc_law.nd rfl (Or.inl rfl) (pe_op op_mod (pe_def G_law_cell_at (hr.mono (by decide)) rfl (pa_cons (pv 0) (pa_cons pe_int pa_nil))) pe_int))
      (pss_cons (ps_if (pt_cmpR op_eq (pe_op op_mod (pv 9) pe_int) pe_int (nomark _)) (pss_one (ps_ret (pe_cmpR op_eq (pe_def G_law_asked (hr.mono (by decide)) rfl (pa_cons (pv 2) (pa_cons (pe_def G_law_spoilt (hr.mono (by decide)) rfl (pa_cons (pv 8) (pa_cons (pe_op op_fdiv (pv 9) pe_int) (pa_cons (pe_def G_law_cell_at (hr.mono (by decide)) rfl (pa_cons (pv 0) (pa_cons pe_int pa_nil))) pa_nil)))) pa_nil))) pe_str (nomark _)))) pss_nil)
      (pss_cons (ps_set (i := 10) sc_law.nd rfl (Or.inl rfl) (pe_callTy call_list_of rfl T.g_list PyProof.Rows.boot_list (pa_cons (pv 8) pa_nil)))
      (pss_cons (ps_asg (pe_def G_law_levelled (hr.mono (by decide)) rfl (pa_cons (pv 8) pa_nil)) (pg_tup (n := 2) rfl (pgs_cons (pg_name (i := 11) sc_law.nd rfl (Or.inl rfl)) (pgs_cons (pg_name (i := 12) sc_law.nd rfl (Or.inl rfl)) pgs_nil))))
      (pss_cons (ps_asg (pe_def G_law_moved (hr.mono (by decide)) rfl (pa_cons (pv 2) (pa_cons (pv 11) (pa_cons (pv 12) pa_nil)))) (pg_tup (n := 2) rfl (pgs_cons (pg_name (i := 11) sc_law.nd rfl (Or.inl rfl)) (pgs_cons (pg_name (i := 12) sc_law.nd rfl (Or.inl rfl)) pgs_nil))))
      (pss_cons (ps_set (i := 13) sc_law.nd rfl (Or.inl rfl) (pe_def G_walked (hr.mono (by decide)) rfl (pa_cons (pv 2) (pa_cons (pv 10) pa_nil))))
      (pss_cons (ps_if (PW.pt (pw_or (pt_not (pt_val (pe_def G_law_parts_like (hr.mono (by decide)) rfl (pa_cons (pv 13) (pa_cons (pv 11) (pa_cons (pv 12) pa_nil)))))) (pw_or (pt_cmpR (op_neD hr) (pv 10) (pv 8) (nomark _)) (pw_or1 (pt_cmpR (op_neD hr) (pv 2) (pv 6) (nomark _)))))) (pss_one (ps_ret pe_bl)) pss_nil)
      (pss_cons (ps_expr (pe_bm PySem.F.plainAttrs_list PySem.F.slot_list_append PySem.F.type_list_append mt_append (pv 13) (pa_cons (pe_tup (pa_cons pe_int (pa_cons pe_int pa_nil))) pa_nil)))
      (pss_one (ps_ret (pe_and (pe_cmpR (op_eqD hr) (pv 10) (pv 8) (nomark _)) (pe_one (pe_def G_law_parts_like (hr.mono (by decide)) rfl (pa_cons (pe_def G_walked (hr.mono (by decide)) rfl (pa_cons (pv 2) (pa_cons (pv 10) pa_nil))) (pa_cons (pv 11) (pa_cons (pv 12) pa_nil)))))))))))))))))))), fun H1 sp q rs t x' y' k1 scr spot k0 tab nq nr hh hH x0 x1 y0 y1 => ?_⟩
      obtain ⟨x, rfl⟩ := Int.eq_ofNat_of_zero_le x0
      obtain ⟨y, rfl⟩ := Int.eq_ofNat_of_zero_le y0
      have hx : x < t.length := by omega
      have hy : y < t.length := by omega
      have hlm := tab_len tab
      have t8 := hh.hi
      have t1 := hh.lo
      -- kept
      refine ⟨_, rfl, q, rfl, ⟨_, SqL.of tab.top⟩, fun F hF => comp_copy tab (by rw [up_len]; omega) hF (fun x H' R ⟨p, ys, e, h1, h2⟩ => ⟨_, rfl, p, ys, by rw [e], .inl h1, h2⟩) (fun H2 rsF s2 tabF n0 => ?_)⟩
      -- told = step(..)
      refine ⟨_, rfl, _, rfl, _, rfl, q, rs, t, x, y, rfl, tab.same s2, hh, hH, hx, hy, fun row hrow H3 d s3 ed hd => ?_⟩
      have s13 := s2.trans s3
      have tab3 := tab.same s13
      have hx' : x < rs.length := by
        rw [List.length_map] at hlm
        omega
      have er : rs[x]? = some rs[x] := List.getElem?_eq_getElem hx'
      obtain ⟨row', hrow', e⟩ := row_at tab3 er
      rw [hrow] at hrow'
      cases hrow'
      have hrm := List.mem_of_getElem? hrow
      have rm := hh.rows row hrm
      have sl := hh.sum_lt hrm
      have es := cs_sum row
      have hy' : y < row.length := by rw [rm.1]; exact hy
      have ey : row[y]? = some row[y] := List.getElem?_eq_getElem hy'
      have eyd : row.getD y 0 = row[y] := by rw [List.getD_eq_getElem?_getD, ey]; rfl
      rw [eyd] at ed
      have wb := rm.2.1 row[y] (List.getElem_mem hy')
      have ati : atI (rs.map V.ref) ((x : Nat) : Int) = some (.ref rs[x]) := atI_pos (by omega) (by rw [Int.toNat_natCast, List.getElem?_map, er]; rfl)
      have atw : atI ((cs row).map V.int) ((y : Nat) : Int) = some (.int (row[y] : Int)) := atI_pos (by omega) (by rw [Int.toNat_natCast]; exact cs_get ey)
      have fit7 : ∀ n : Nat, n < 2 ^ 7 → Fit 100000 (n : Int) := fun n hn => (fit_nat.mpr hn : Fit 7 (n : Int)).mono (by decide)
      have l1 : (low row[y] row.sum).1 ≤ row[y] := Nat.div_le_self _ _
      have l2 : (low row[y] row.sum).2 ≤ row.sum := Nat.div_le_self _ _
      refine ⟨_, rfl, _, rfl, _, rfl, q, _, _, _, rfl, rfl, SqL.of tab3.top, ati, _, rfl, rs[x], _, _, _, rfl, rfl, SqL.of e, atw, _, rfl, _, rfl, q, _, _, _, rfl, rfl, SqL.of tab3.top, ati, rs[x], cs row, rfl, SqL.of e,
        d, (low row[y] row.sum).1, (low row[y] row.sum).2, row[y], row.sum, (by rw [es]; rfl), ed, low_pos rm.2.2, low_coprime rm.2.2, low_cross _ _, ⟨fit7 _ (by omega), fit7 _ (by omega), fit7 _ (by omega), fit7 _ sl⟩, _, rfl, notT ?_⟩
      refine ⟨_, rfl, _, rfl, tabD (up t), tabD (up t), tab3.rd, (tabF.same s3).rd, shaped_tab _, shaped_tab _, _, rfl, ?_⟩
      rw [eqv_tab, decide_eq_true rfl]
      refine notT ?_
      -- shares = drawn
      have spot3 := s13 _ _ spot
      refine ⟨_, rfl, _, rfl, _, rfl, a, sp, ns, k1, t.length, rfl, scr.same s13, spot3, k0, t1, t8, fun H4 c ds tops k2 B4 prt dr hc => ?_⟩
      have tab4 : Tab H4 q rs (up t) := tab3.ext B4.ext (by simpa using nq) fun r hr' => by
        intro z
        exact nr (List.mem_singleton.mp z ▸ hr')
      have FnS : F ≠ sp := fun z => by rw [z, spot] at hF; cases hF
      have tabF4 : Tab H4 F rsF (up t) := (tabF.same s3).ext B4.ext (by simpa using FnS) fun r hr' => by
        intro z
        have := n0 r hr'
        rw [List.mem_singleton.mp z, spot] at this
        cases this
      have Dt : Dist t tops.sum tops := ⟨dr.len, rfl, dr.pos⟩
      have fS : Fit 3000 ((tops.sum : Nat) : Int) := fit_nat.mpr (Nat.lt_of_lt_of_le dr.lt (Nat.pow_le_pow_right (by decide) (by decide)))
      have S := (shares_of Dt fS).1
      -- way
      refine ⟨_, rfl, a, ns, 2, rfl, B4.sc.seq, by decide, fun c2 => ⟨_, _, rfl, rfl, (by show (0 : Int) < 16; decide), ?_⟩⟩
      refine ⟨_, rfl, _, _, rfl, rfl, (by show (0 : Int) < 2; decide), rfl, _, rfl, ite2 (fun hw => ?_) (fun hw => ?_)⟩
      · refine ⟨_, rfl, _, rfl, _, rfl, _, _, rfl, rfl, ⟨by decide, by decide⟩, _, rfl, a, ns, 1, rfl, B4.sc.seq, by decide, fun c1 => ⟨c, ds, tops, t.length, _, c1, rfl, prt, dr, t1, t8, fun H5 d5 ees ps s5 zprt p9 bad => ?_⟩⟩
        exact ⟨q, d5, rs, ees, up t, ps, rfl, tab4.same s5, hH, zprt, p9, by rw [up_len]; exact bad, fun H6 s6 => ⟨rfl, blq (kk H6) (decide_eq_true rfl).symm⟩⟩
      · have hall : ∀ z ∈ (tops.map fun x => low x tops.sum), 0 < z.2 ∧ Fit 100 (z.1 : Int) ∧ Fit 100 (z.2 : Int) := fun z hz => by
          obtain ⟨n, hn, rfl⟩ := List.mem_map.mp hz
          have h1 : (low n tops.sum).1 ≤ n := Nat.div_le_self _ _
          have h2 : (low n tops.sum).2 ≤ tops.sum := Nat.div_le_self _ _
          have h3 := le_sum hn
          have h4 := dr.lt
          refine ⟨low_pos dr.pos, fit_nat.mpr (Nat.lt_of_lt_of_le (show _ < 2 ^ 25 by omega) (Nat.pow_le_pow_right (by decide) (by decide))), fit_nat.mpr (Nat.lt_of_lt_of_le (show _ < 2 ^ 25 by omega) (Nat.pow_le_pow_right (by decide) (by decide)))⟩
        generalize (tops.map fun x => low x tops.sum) = ps at prt S hall
        have psl : ps.length = t.length := S.len
        -- handed = list(shares)
        refine ⟨_, rfl, c, _, rfl, .inl (SqL.of prt.top), fun hd5 hh5 => ?_⟩
        have s5 : Same H4 (upd H4 hd5 (.lst (ds.map V.ref))) := Same.upd_new hh5
        have prh : Prt (upd H4 hd5 (.lst (ds.map V.ref))) hd5 ds ps := ⟨upd_same, (prt.same s5).items⟩
        generalize upd H4 hd5 (.lst (ds.map V.ref)) = H5 at s5 prh
        have prt5 := prt.same s5
        -- tops, bottom = levelled(shares)
        refine ⟨_, rfl, c, ds, ps, rfl, prt5, by omega, hall, fun H6 g T6 s6 ng eT hg => ⟨T6, _, rfl, SqT.of eT, rfl, _, _, rfl, _, _, rfl, rfl, ?_⟩⟩
        have s46 := s5.trans s6
        have bpos : 0 < lcmN (ps.map (·.2)) := lcmN_pos fun n hn => by
          obtain ⟨z, hz, rfl⟩ := List.mem_map.mp hn
          exact (hall z hz).1
        have Db : Dist t (lcmN (ps.map (·.2))) (topsOf ps (lcmN (ps.map (·.2)))) := ⟨by unfold topsOf; rw [List.length_map]; exact psl, S.one, bpos⟩
        have Dm := Db.mov hh
        have fB : Fit 3057 ((lcmN (ps.map (·.2)) * Lc t : Nat) : Int) := by
          rw [Int.natCast_mul]
          exact (S.fit.mul (fit_nat.mpr hh.L_lt)).mono (by decide)
        -- moved
        refine ⟨_, rfl, _, rfl, _, rfl, q, g, rs, t, _, lcmN (ps.map (·.2)), rfl, tab4.same s46, hh, SqL.of ng, Db.len, fun H7 g7 T7 s7 ng7 eT7 hg7 => ⟨T7, _, rfl, SqT.of eT7, rfl, _, _, rfl, _, _, rfl, rfl, ?_⟩⟩
        have s47 := s46.trans s7
        have prh7 := prh.same (s6.trans s7)
        have prt7 := prt.same s47
        -- found = walked(..)
        refine ⟨_, rfl, _, rfl, q, hd5, rs, ds, t, ps, rfl, tab4.same s47, hh, hH, prh7, S, fun H8 fo fs s8 pr8 hfo => ?_⟩
        have s48 := s47.trans s8
        have fitm : ∀ n ∈ mov t (topsOf ps (lcmN (ps.map (·.2)))), Fit 100000 (n : Int) := fun n hn => (fit_leN fB (by rw [← Dm.sum]; exact le_sum hn)).mono (by decide)
        refine ⟨_, rfl, _, rfl, _, rfl, fo, g7, fs, _, _, rfl, pr8, s8.seq (SqL.of ng7), by rw [mov_len]; omega, Dm.pos, fB.mono (by decide), fitm, fun H9 s9 => ⟨_, rfl, notT ?_⟩⟩
        have s49 := s48.trans s9
        have prh9 := prh7.same (s8.trans s9)
        have prt9 := prt7.same (s8.trans s9)
        refine ⟨_, rfl, _, rfl, partsD ps, partsD ps, prh9.rd, prt9.rd, shaped_parts _, shaped_parts _, _, rfl, ?_⟩
        rw [eqv_parts, decide_eq_true rfl]
        refine notT ?_
        refine ⟨_, rfl, _, rfl, tabD (up t), tabD (up t), (tab4.same s49).rd, (tabF4.same s49).rd, shaped_tab _, shaped_tab _, _, rfl, ?_⟩
        rw [eqv_tab, decide_eq_true rfl]
        refine notT ?_
        -- found.append((0, 1))
        have pr9 := pr8.same s9
        have fsl : fs.length = t.length := by rw [pr8.len, List.length_map, mov_len]
        refine ⟨_, rfl, .inl ⟨rfl, _, SqL.of pr9.top⟩, s2l, fun tp htp => ?_⟩
        have s10 := Same.upd_new (o := .tup [.int 0, .int 1]) htp
        have pr10 := pr9.same s10
        have s410 := s49.trans s10
        have prh10 := prh9.same s10
        have prt10 := prt9.same s10
        have ng10 := (s8.trans (s9.trans s10)) _ _ ng7
        generalize upd H9 tp (.tup [.int 0, .int 1]) = H10 at s10 pr10 s410 prh10 prt10 ng10 ⊢
        refine ⟨fo, _, _, rfl, rfl, pr10.top, small1000 (by rw [List.length_map]; omega), ?_⟩
        have nh : hd5 ≠ fo := fun z => by
          have := prh7.top
          rw [z, hfo] at this
          cases this
        have nc : c ≠ fo := fun z => by
          have := prt7.top
          rw [z, hfo] at this
          cases this
        have ngf : g7 ≠ fo := ne_of_none (show H7 g7 = some _ from ng7) hfo
        have tab11 : Tab (upd H10 fo (.lst (fs.map V.ref ++ [.ref tp]))) q rs (up t) := by
          have t7 := tab4.same s47
          refine (tab4.same s410).off (fun z => ?_) fun z => ?_
          · rw [z, t7.top] at hfo; cases hfo
          · obtain ⟨row, _, e⟩ := t7.there z
            rw [e] at hfo; cases hfo
        have prh11 := prt_off (o := .lst (fs.map V.ref ++ [.ref tp])) prh10 pr10.top nh
        have prt11 := prt_off (o := .lst (fs.map V.ref ++ [.ref tp])) prt10 pr10.top nc
        have ng11 : NL (upd H10 fo (.lst (fs.map V.ref ++ [.ref tp]))) g7 (mov t (topsOf ps (lcmN (ps.map (·.2))))) := by
          show upd H10 fo _ g7 = _
          rw [upd_ne ngf]
          exact ng10
        generalize upd H10 fo (.lst (fs.map V.ref ++ [.ref tp])) = H11 at tab11 prh11 prt11 ng11 ⊢
        -- asked again
        refine ⟨_, rfl, _, rfl, partsD ps, partsD ps, prh11.rd, prt11.rd, shaped_parts _, shaped_parts _, _, rfl, ?_⟩
        rw [eqv_parts, decide_eq_true rfl]
        refine ⟨_, rfl, _, rfl, q, hd5, rs, ds, t, ps, rfl, tab11, hh, hH, prh11, S, fun H12 fo2 fs2 s12 pr12 hfo2 => ?_⟩
        exact ⟨_, rfl, _, rfl, fo2, g7, fs2, _, _, rfl, pr12, s12.seq (SqL.of ng11), by rw [mov_len]; omega, Dm.pos, fB.mono (by decide), fitm, fun H13 s13 => kk H13⟩
    obtain ⟨tt, ptt, rtt⟩ := tail
    refine ⟨_, (pss_cons (ps_set (i := 1) sc_law.nd rfl (Or.inl rfl) (pe_lst (pa_cons pe_int pa_nil)))
      (pss_cons (ps_set (i := 2) sc_law.nd rfl (Or.inl rfl) (pe_def G_law_house (hr.mono (by decide)) rfl (pa_cons (pv 0) (pa_cons (pv 1) (pa_cons pe_int pa_nil)))))
      (pss_cons (ps_set (i := 3) sc_law.nd rfl (Or.inl rfl) (pe_callB call_len_seq rfl T.g_len PySem.boot_len (pa_cons (pv 2) pa_nil)))
      (pss_cons (ps_set (i := 4) sc_law.nd rfl (Or.inl rfl) (pe_op op_mod (pe_def G_law_next (hr.mono (by decide)) rfl (pa_cons (pv 0) (pa_cons (pv 1) pa_nil))) (pv 3)))
      (pss_cons (ps_set (i := 5) sc_law.nd rfl (Or.inl rfl) (pe_op op_mod (pe_def G_law_next (hr.mono (by decide)) rfl (pa_cons (pv 0) (pa_cons (pv 1) pa_nil))) (pv 3)))
      ptt))))), ?_⟩
    refine ⟨(by show 1 ≤ sizeLine; exact small_line (by decide)), fun sp hsp => ?_⟩
    refine ⟨_, rfl, _, rfl, a, sp, ns, 3, 8, rfl, hs.same (Same.upd_new hsp), upd_same, by decide, by decide, by decide, fun H1 q rs t' k' B O hH hl => ?_⟩
    obtain ⟨t, rfl, hh⟩ := house_up hH
    have hlm := tab_len O.tab
    have t1 := hh.lo
    refine ⟨_, rfl, q, _, rfl, .inl O.sq, ?_⟩
    rw [hlm]
    refine ⟨_, rfl, _, rfl, a, sp, ns, k', rfl, B.sc, B.spot, B.k0, fun n1 => ⟨_, rfl, _, _, rfl, rfl, (by show (0 : Int) < (t.length : Int); omega), ?_⟩⟩
    refine ⟨_, rfl, _, rfl, a, sp, ns, k' + 1, rfl, B.next.sc, B.next.spot, B.next.k0, fun n2 => ⟨_, rfl, _, _, rfl, rfl, (by show (0 : Int) < (t.length : Int); omega), ?_⟩⟩
    have O2 := Own.spot (o := .lst [.int (k' + 1)]) B O
    have O3 := Own.spot (o := .lst [.int (k' + 1 + 1)]) B.next O2
    have x0 : 0 ≤ n1 % (t.length : Int) := Int.emod_nonneg _ (by omega)
    have x1 : n1 % (t.length : Int) < (t.length : Int) := Int.emod_lt_of_pos _ (by omega)
    have y0 : 0 ≤ n2 % (t.length : Int) := Int.emod_nonneg _ (by omega)
    have y1 : n2 % (t.length : Int) < (t.length : Int) := Int.emod_lt_of_pos _ (by omega)
    exact rtt _ sp q rs t _ _ _ B.next.next.sc B.next.next.spot B.next.next.k0 O3.tab (B.ne O.nq) (fun z => B.ne (O.nr sp z) rfl) hh hH x0 x1 y0 y1
end
theorem all_mk {l : PySem.W.OpenLaw} {w : World} {K : PySem.W.Frag} {h : Heap} {mg : Str → Option Value} {fa : Addr} (X : K.In h) (G : h.Ns mainGlobals mg) (hfa : mg "law" = some (.ref fa))
    {f1 : Addr} {od1 an1 : Option Addr} {sl1 : Array (Option Value)} {oc1 kV1 dc1 pm1 cd1 ct1 : Value} {f2 : Addr} {od2 an2 : Option Addr} {sl2 : Array (Option Value)} {oc2 kV2 dc2 pm2 cd2 ct2 : Value} {f3 : Addr} {od3 an3 : Option Addr} {sl3 : Array (Option Value)} {oc3 kV3 dc3 pm3 cd3 ct3 : Value} {f4 : Addr} {od4 an4 : Option Addr} {sl4 : Array (Option Value)} {oc4 kV4 dc4 pm4 cd4 ct4 : Value} {f5 : Addr} {od5 an5 : Option Addr} {sl5 : Array (Option Value)} {oc5 kV5 dc5 pm5 cd5 ct5 : Value} {f6 : Addr} {od6 an6 : Option Addr} {sl6 : Array (Option Value)} {oc6 kV6 dc6 pm6 cd6 ct6 : Value} {f7 : Addr} {od7 an7 : Option Addr} {sl7 : Array (Option Value)} {oc7 kV7 dc7 pm7 cd7 ct7 : Value} {f8 : Addr} {od8 an8 : Option Addr} {sl8 : Array (Option Value)} {oc8 kV8 dc8 pm8 cd8 ct8 : Value} {f9 : Addr} {od9 an9 : Option Addr} {sl9 : Array (Option Value)} {oc9 kV9 dc9 pm9 cd9 ct9 : Value} {f10 : Addr} {od10 an10 : Option Addr} {sl10 : Array (Option Value)} {oc10 kV10 dc10 pm10 cd10 ct10 : Value} {f11 : Addr} {od11 an11 : Option Addr} {sl11 : Array (Option Value)} {oc11 kV11 dc11 pm11 cd11 ct11 : Value} {f12 : Addr} {od12 an12 : Option Addr} {sl12 : Array (Option Value)} {oc12 kV12 dc12 pm12 cd12 ct12 : Value} {f13 : Addr} {od13 an13 : Option Addr} {sl13 : Array (Option Value)} {oc13 kV13 dc13 pm13 cd13 ct13 : Value} {f14 : Addr} {od14 an14 : Option Addr} {sl14 : Array (Option Value)} {oc14 kV14 dc14 pm14 cd14 ct14 : Value} {f15 : Addr} {od15 an15 : Option Addr} {sl15 : Array (Option Value)} {oc15 kV15 dc15 pm15 cd15 ct15 : Value} {f16 : Addr} {od16 an16 : Option Addr} {sl16 : Array (Option Value)} {oc16 kV16 dc16 pm16 cd16 ct16 : Value} {f17 : Addr} {od17 an17 : Option Addr} {sl17 : Array (Option Value)} {oc17 kV17 dc17 pm17 cd17 ct17 : Value} {f18 : Addr} {od18 an18 : Option Addr} {sl18 : Array (Option Value)} {oc18 kV18 dc18 pm18 cd18 ct18 : Value} {f19 : Addr} {od19 an19 : Option Addr} {sl19 : Array (Option Value)} {oc19 kV19 dc19 pm19 cd19 ct19 : Value} {f20 : Addr} {od20 an20 : Option Addr} {sl20 : Array (Option Value)} {oc20 kV20 dc20 pm20 cd20 ct20 : Value} {f21 : Addr} {od21 an21 : Option Addr} {sl21 : Array (Option Value)} {oc21 kV21 dc21 pm21 cd21 ct21 : Value} {f22 : Addr} {od22 an22 : Option Addr} {sl22 : Array (Option Value)} {oc22 kV22 dc22 pm22 cd22 ct22 : Value} {f23 : Addr} {od23 an23 : Option Addr} {sl23 : Array (Option Value)} {oc23 kV23 dc23 pm23 cd23 ct23 : Value} {f24 : Addr} {od24 an24 : Option Addr} {sl24 : Array (Option Value)} {oc24 kV24 dc24 pm24 cd24 ct24 : Value} {f25 : Addr} {od25 an25 : Option Addr} {sl25 : Array (Option Value)} {oc25 kV25 dc25 pm25 cd25 ct25 : Value} {f26 : Addr} {od26 an26 : Option Addr} {sl26 : Array (Option Value)} {oc26 kV26 dc26 pm26 cd26 ct26 : Value} {f27 : Addr} {od27 an27 : Option Addr} {sl27 : Array (Option Value)} {oc27 kV27 dc27 pm27 cd27 ct27 : Value} {f28 : Addr} {od28 an28 : Option Addr} {sl28 : Array (Option Value)} {oc28 kV28 dc28 pm28 cd28 ct28 : Value} {f29 : Addr} {od29 an29 : Option Addr} {sl29 : Array (Option Value)} {oc29 kV29 dc29 pm29 cd29 ct29 : Value} {f30 : Addr} {od30 an30 : Option Addr} {sl30 : Array (Option Value)} {oc30 kV30 dc30 pm30 cd30 ct30 : Value} {f31 : Addr} {od31 an31 : Option Addr} {sl31 : Array (Option Value)} {oc31 kV31 dc31 pm31 cd31 ct31 : Value} {f32 : Addr} {od32 an32 : Option Addr} {sl32 : Array (Option Value)} {oc32 kV32 dc32 pm32 cd32 ct32 : Value} {f33 : Addr} {od33 an33 : Option Addr} {sl33 : Array (Option Value)} {oc33 kV33 dc33 pm33 cd33 ct33 : Value} {f34 : Addr} {od34 an34 : Option Addr} {sl34 : Array (Option Value)} {oc34 kV34 dc34 pm34 cd34 ct34 : Value} {f35 : Addr} {od35 an35 : Option Addr} {sl35 : Array (Option Value)} {oc35 kV35 dc35 pm35 cd35 ct35 : Value} {f36 : Addr} {od36 an36 : Option Addr} {sl36 : Array (Option Value)} {oc36 kV36 dc36 pm36 cd36 ct36 : Value} {tk1 : Tok} {tk2 : Tok} {z_StrollError : Addr} {z_NoHouse : Addr} {z_NoRoom : Addr} {z_NoCount : Addr} {z_NoShares : Addr} {z_NotBack : Addr} {z_Parted : Addr} {z_NoNote : Addr}
    (a1 : PySem.W.nsIn K mainGlobals "_law_cell_at" = some (some (.ref f1))) (l1 : K.lookup f1 = some ⟨oc1, od1, .func (PySem.W.fnOf "_law_cell_at" "_law_cell_at" (defArgs s_law_cell_at) (defBody s_law_cell_at) (defScope s_law_cell_at) .none kV1 dc1 pm1 an1 cd1 ct1), sl1⟩) (c1 : PySem.W.codeIn K cd1 "_law_cell_at" = true) (k1 : PySem.W.keepIn K (.ref f1) = true)
    (a2 : PySem.W.nsIn K mainGlobals "_law_next" = some (some (.ref f2))) (l2 : K.lookup f2 = some ⟨oc2, od2, .func (PySem.W.fnOf "_law_next" "_law_next" (defArgs s_law_next) (defBody s_law_next) (defScope s_law_next) .none kV2 dc2 pm2 an2 cd2 ct2), sl2⟩) (c2 : PySem.W.codeIn K cd2 "_law_next" = true) (k2 : PySem.W.keepIn K (.ref f2) = true)
    (a3 : PySem.W.nsIn K mainGlobals "_law_weight" = some (some (.ref f3))) (l3 : K.lookup f3 = some ⟨oc3, od3, .func (PySem.W.fnOf "_law_weight" "_law_weight" (defArgs s_law_weight) (defBody s_law_weight) (defScope s_law_weight) .none kV3 dc3 pm3 an3 cd3 ct3), sl3⟩) (c3 : PySem.W.codeIn K cd3 "_law_weight" = true) (k3 : PySem.W.keepIn K (.ref f3) = true)
    (a4 : PySem.W.nsIn K mainGlobals "is_row" = some (some (.ref f4))) (l4 : K.lookup f4 = some ⟨oc4, od4, .func (PySem.W.fnOf "is_row" "is_row" (defArgs s_is_row) (defBody s_is_row) (defScope s_is_row) .none kV4 dc4 pm4 an4 cd4 ct4), sl4⟩) (c4 : PySem.W.codeIn K cd4 "is_row" = true) (k4 : PySem.W.keepIn K (.ref f4) = true)
    (a5 : PySem.W.nsIn K mainGlobals "is_house" = some (some (.ref f5))) (l5 : K.lookup f5 = some ⟨oc5, od5, .func (PySem.W.fnOf "is_house" "is_house" (defArgs s_is_house) (defBody s_is_house) (defScope s_is_house) .none kV5 dc5 pm5 an5 cd5 ct5), sl5⟩) (c5 : PySem.W.codeIn K cd5 "is_house" = true) (k5 : PySem.W.keepIn K (.ref f5) = true)
    (a6 : PySem.W.nsIn K mainGlobals "_law_some_house" = some (some (.ref f6))) (l6 : K.lookup f6 = some ⟨oc6, od6, .func (PySem.W.fnOf "_law_some_house" "_law_some_house" (defArgs s_law_some_house) (defBody s_law_some_house) (defScope s_law_some_house) .none kV6 dc6 pm6 an6 cd6 ct6), sl6⟩) (c6 : PySem.W.codeIn K cd6 "_law_some_house" = true) (k6 : PySem.W.keepIn K (.ref f6) = true)
    (a7 : PySem.W.nsIn K mainGlobals "_law_even_house" = some (some (.ref f7))) (l7 : K.lookup f7 = some ⟨oc7, od7, .func (PySem.W.fnOf "_law_even_house" "_law_even_house" (defArgs s_law_even_house) (defBody s_law_even_house) (defScope s_law_even_house) .none kV7 dc7 pm7 an7 cd7 ct7), sl7⟩) (c7 : PySem.W.codeIn K cd7 "_law_even_house" = true) (k7 : PySem.W.keepIn K (.ref f7) = true)
    (a8 : PySem.W.nsIn K mainGlobals "_law_house" = some (some (.ref f8))) (l8 : K.lookup f8 = some ⟨oc8, od8, .func (PySem.W.fnOf "_law_house" "_law_house" (defArgs s_law_house) (defBody s_law_house) (defScope s_law_house) .none kV8 dc8 pm8 an8 cd8 ct8), sl8⟩) (c8 : PySem.W.codeIn K cd8 "_law_house" = true) (k8 : PySem.W.keepIn K (.ref f8) = true)
    (a9 : PySem.W.nsIn K mainGlobals "common" = some (some (.ref f9))) (l9 : K.lookup f9 = some ⟨oc9, od9, .func (PySem.W.fnOf "common" "common" (defArgs s_common) (defBody s_common) (defScope s_common) .none kV9 dc9 pm9 an9 cd9 ct9), sl9⟩) (c9 : PySem.W.codeIn K cd9 "common" = true) (k9 : PySem.W.keepIn K (.ref f9) = true)
    (a10 : PySem.W.nsIn K mainGlobals "joint_multiple" = some (some (.ref f10))) (l10 : K.lookup f10 = some ⟨oc10, od10, .func (PySem.W.fnOf "joint_multiple" "joint_multiple" (defArgs s_joint_multiple) (defBody s_joint_multiple) (defScope s_joint_multiple) .none kV10 dc10 pm10 an10 cd10 ct10), sl10⟩) (c10 : PySem.W.codeIn K cd10 "joint_multiple" = true) (k10 : PySem.W.keepIn K (.ref f10) = true)
    (a11 : PySem.W.nsIn K mainGlobals "lowest" = some (some (.ref f11))) (l11 : K.lookup f11 = some ⟨oc11, od11, .func (PySem.W.fnOf "lowest" "lowest" (defArgs s_lowest) (defBody s_lowest) (defScope s_lowest) .none kV11 dc11 pm11 an11 cd11 ct11), sl11⟩) (c11 : PySem.W.codeIn K cd11 "lowest" = true) (k11 : PySem.W.keepIn K (.ref f11) = true)
    (a12 : PySem.W.nsIn K mainGlobals "parts_over" = some (some (.ref f12))) (l12 : K.lookup f12 = some ⟨oc12, od12, .func (PySem.W.fnOf "parts_over" "parts_over" (defArgs s_parts_over) (defBody s_parts_over) (defScope s_parts_over) .none kV12 dc12 pm12 an12 cd12 ct12), sl12⟩) (c12 : PySem.W.codeIn K cd12 "parts_over" = true) (k12 : PySem.W.keepIn K (.ref f12) = true)
    (a13 : PySem.W.nsIn K mainGlobals "joint_bottom" = some (some (.ref f13))) (l13 : K.lookup f13 = some ⟨oc13, od13, .func (PySem.W.fnOf "joint_bottom" "joint_bottom" (defArgs s_joint_bottom) (defBody s_joint_bottom) (defScope s_joint_bottom) .none kV13 dc13 pm13 an13 cd13 ct13), sl13⟩) (c13 : PySem.W.codeIn K cd13 "joint_bottom" = true) (k13 : PySem.W.keepIn K (.ref f13) = true)
    (a14 : PySem.W.nsIn K mainGlobals "tops_over" = some (some (.ref f14))) (l14 : K.lookup f14 = some ⟨oc14, od14, .func (PySem.W.fnOf "tops_over" "tops_over" (defArgs s_tops_over) (defBody s_tops_over) (defScope s_tops_over) .none kV14 dc14 pm14 an14 cd14 ct14), sl14⟩) (c14 : PySem.W.codeIn K cd14 "tops_over" = true) (k14 : PySem.W.keepIn K (.ref f14) = true)
    (a15 : PySem.W.nsIn K mainGlobals "come_to_one" = some (some (.ref f15))) (l15 : K.lookup f15 = some ⟨oc15, od15, .func (PySem.W.fnOf "come_to_one" "come_to_one" (defArgs s_come_to_one) (defBody s_come_to_one) (defScope s_come_to_one) .none kV15 dc15 pm15 an15 cd15 ct15), sl15⟩) (c15 : PySem.W.codeIn K cd15 "come_to_one" = true) (k15 : PySem.W.keepIn K (.ref f15) = true)
    (a16 : PySem.W.nsIn K mainGlobals "is_part" = some (some (.ref f16))) (l16 : K.lookup f16 = some ⟨oc16, od16, .func (PySem.W.fnOf "is_part" "is_part" (defArgs s_is_part) (defBody s_is_part) (defScope s_is_part) .none kV16 dc16 pm16 an16 cd16 ct16), sl16⟩) (c16 : PySem.W.codeIn K cd16 "is_part" = true) (k16 : PySem.W.keepIn K (.ref f16) = true)
    (a17 : PySem.W.nsIn K mainGlobals "need_house" = some (some (.ref f17))) (l17 : K.lookup f17 = some ⟨oc17, od17, .func (PySem.W.fnOf "need_house" "need_house" (defArgs s_need_house) (defBody s_need_house) (defScope s_need_house) .none kV17 dc17 pm17 an17 cd17 ct17), sl17⟩) (c17 : PySem.W.codeIn K cd17 "need_house" = true) (k17 : PySem.W.keepIn K (.ref f17) = true)
    (a18 : PySem.W.nsIn K mainGlobals "need_room" = some (some (.ref f18))) (l18 : K.lookup f18 = some ⟨oc18, od18, .func (PySem.W.fnOf "need_room" "need_room" (defArgs s_need_room) (defBody s_need_room) (defScope s_need_room) .none kV18 dc18 pm18 an18 cd18 ct18), sl18⟩) (c18 : PySem.W.codeIn K cd18 "need_room" = true) (k18 : PySem.W.keepIn K (.ref f18) = true)
    (a19 : PySem.W.nsIn K mainGlobals "are_shares" = some (some (.ref f19))) (l19 : K.lookup f19 = some ⟨oc19, od19, .func (PySem.W.fnOf "are_shares" "are_shares" (defArgs s_are_shares) (defBody s_are_shares) (defScope s_are_shares) .none kV19 dc19 pm19 an19 cd19 ct19), sl19⟩) (c19 : PySem.W.codeIn K cd19 "are_shares" = true) (k19 : PySem.W.keepIn K (.ref f19) = true)
    (a20 : PySem.W.nsIn K mainGlobals "need_shares" = some (some (.ref f20))) (l20 : K.lookup f20 = some ⟨oc20, od20, .func (PySem.W.fnOf "need_shares" "need_shares" (defArgs s_need_shares) (defBody s_need_shares) (defScope s_need_shares) .none kV20 dc20 pm20 an20 cd20 ct20), sl20⟩) (c20 : PySem.W.codeIn K cd20 "need_shares" = true) (k20 : PySem.W.keepIn K (.ref f20) = true)
    (a21 : PySem.W.nsIn K mainGlobals "step_bottom" = some (some (.ref f21))) (l21 : K.lookup f21 = some ⟨oc21, od21, .func (PySem.W.fnOf "step_bottom" "step_bottom" (defArgs s_step_bottom) (defBody s_step_bottom) (defScope s_step_bottom) .none kV21 dc21 pm21 an21 cd21 ct21), sl21⟩) (c21 : PySem.W.codeIn K cd21 "step_bottom" = true) (k21 : PySem.W.keepIn K (.ref f21) = true)
    (a22 : PySem.W.nsIn K mainGlobals "arriving" = some (some (.ref f22))) (l22 : K.lookup f22 = some ⟨oc22, od22, .func (PySem.W.fnOf "arriving" "arriving" (defArgs s_arriving) (defBody s_arriving) (defScope s_arriving) .none kV22 dc22 pm22 an22 cd22 ct22), sl22⟩) (c22 : PySem.W.codeIn K cd22 "arriving" = true) (k22 : PySem.W.keepIn K (.ref f22) = true)
    (a23 : PySem.W.nsIn K mainGlobals "tops_after_step" = some (some (.ref f23))) (l23 : K.lookup f23 = some ⟨oc23, od23, .func (PySem.W.fnOf "tops_after_step" "tops_after_step" (defArgs s_tops_after_step) (defBody s_tops_after_step) (defScope s_tops_after_step) .none kV23 dc23 pm23 an23 cd23 ct23), sl23⟩) (c23 : PySem.W.codeIn K cd23 "tops_after_step" = true) (k23 : PySem.W.keepIn K (.ref f23) = true)
    (a24 : PySem.W.nsIn K mainGlobals "walked" = some (some (.ref f24))) (l24 : K.lookup f24 = some ⟨oc24, od24, .func (PySem.W.fnOf "walked" "walked" (defArgs s_walked) (defBody s_walked) (defScope s_walked) .none kV24 dc24 pm24 an24 cd24 ct24), sl24⟩) (c24 : PySem.W.codeIn K cd24 "walked" = true) (k24 : PySem.W.keepIn K (.ref f24) = true)
    (a25 : PySem.W.nsIn K mainGlobals "step" = some (some (.ref f25))) (l25 : K.lookup f25 = some ⟨oc25, od25, .func (PySem.W.fnOf "step" "step" (defArgs s_step) (defBody s_step) (defScope s_step) .none kV25 dc25 pm25 an25 cd25 ct25), sl25⟩) (c25 : PySem.W.codeIn K cd25 "step" = true) (k25 : PySem.W.keepIn K (.ref f25) = true)
    (a26 : PySem.W.nsIn K mainGlobals "_law_common" = some (some (.ref f26))) (l26 : K.lookup f26 = some ⟨oc26, od26, .func (PySem.W.fnOf "_law_common" "_law_common" (defArgs s_law_common) (defBody s_law_common) (defScope s_law_common) .none kV26 dc26 pm26 an26 cd26 ct26), sl26⟩) (c26 : PySem.W.codeIn K cd26 "_law_common" = true) (k26 : PySem.W.keepIn K (.ref f26) = true)
    (a27 : PySem.W.nsIn K mainGlobals "_law_is_part" = some (some (.ref f27))) (l27 : K.lookup f27 = some ⟨oc27, od27, .func (PySem.W.fnOf "_law_is_part" "_law_is_part" (defArgs s_law_is_part) (defBody s_law_is_part) (defScope s_law_is_part) .none kV27 dc27 pm27 an27 cd27 ct27), sl27⟩) (c27 : PySem.W.codeIn K cd27 "_law_is_part" = true) (k27 : PySem.W.keepIn K (.ref f27) = true)
    (a28 : PySem.W.nsIn K mainGlobals "_law_parts_like" = some (some (.ref f28))) (l28 : K.lookup f28 = some ⟨oc28, od28, .func (PySem.W.fnOf "_law_parts_like" "_law_parts_like" (defArgs s_law_parts_like) (defBody s_law_parts_like) (defScope s_law_parts_like) .none kV28 dc28 pm28 an28 cd28 ct28), sl28⟩) (c28 : PySem.W.codeIn K cd28 "_law_parts_like" = true) (k28 : PySem.W.keepIn K (.ref f28) = true)
    (a29 : PySem.W.nsIn K mainGlobals "_law_sums" = some (some (.ref f29))) (l29 : K.lookup f29 = some ⟨oc29, od29, .func (PySem.W.fnOf "_law_sums" "_law_sums" (defArgs s_law_sums) (defBody s_law_sums) (defScope s_law_sums) .none kV29 dc29 pm29 an29 cd29 ct29), sl29⟩) (c29 : PySem.W.codeIn K cd29 "_law_sums" = true) (k29 : PySem.W.keepIn K (.ref f29) = true)
    (a30 : PySem.W.nsIn K mainGlobals "_law_moved" = some (some (.ref f30))) (l30 : K.lookup f30 = some ⟨oc30, od30, .func (PySem.W.fnOf "_law_moved" "_law_moved" (defArgs s_law_moved) (defBody s_law_moved) (defScope s_law_moved) .none kV30 dc30 pm30 an30 cd30 ct30), sl30⟩) (c30 : PySem.W.codeIn K cd30 "_law_moved" = true) (k30 : PySem.W.keepIn K (.ref f30) = true)
    (a31 : PySem.W.nsIn K mainGlobals "_law_which" = some (some (.ref f31))) (l31 : K.lookup f31 = some ⟨oc31, od31, .func (PySem.W.fnOf "_law_which" "_law_which" (defArgs s_law_which) (defBody s_law_which) (defScope s_law_which) .none kV31 dc31 pm31 an31 cd31 ct31), sl31⟩) (c31 : PySem.W.codeIn K cd31 "_law_which" = true) (k31 : PySem.W.keepIn K (.ref f31) = true)
    (a32 : PySem.W.nsIn K mainGlobals "_law_asked" = some (some (.ref f32))) (l32 : K.lookup f32 = some ⟨oc32, od32, .func (PySem.W.fnOf "_law_asked" "_law_asked" (defArgs s_law_asked) (defBody s_law_asked) (defScope s_law_asked) .none kV32 dc32 pm32 an32 cd32 ct32), sl32⟩) (c32 : PySem.W.codeIn K cd32 "_law_asked" = true) (k32 : PySem.W.keepIn K (.ref f32) = true)
    (a33 : PySem.W.nsIn K mainGlobals "_law_levelled" = some (some (.ref f33))) (l33 : K.lookup f33 = some ⟨oc33, od33, .func (PySem.W.fnOf "_law_levelled" "_law_levelled" (defArgs s_law_levelled) (defBody s_law_levelled) (defScope s_law_levelled) .none kV33 dc33 pm33 an33 cd33 ct33), sl33⟩) (c33 : PySem.W.codeIn K cd33 "_law_levelled" = true) (k33 : PySem.W.keepIn K (.ref f33) = true)
    (a34 : PySem.W.nsIn K mainGlobals "_law_drawn" = some (some (.ref f34))) (l34 : K.lookup f34 = some ⟨oc34, od34, .func (PySem.W.fnOf "_law_drawn" "_law_drawn" (defArgs s_law_drawn) (defBody s_law_drawn) (defScope s_law_drawn) .none kV34 dc34 pm34 an34 cd34 ct34), sl34⟩) (c34 : PySem.W.codeIn K cd34 "_law_drawn" = true) (k34 : PySem.W.keepIn K (.ref f34) = true)
    (a35 : PySem.W.nsIn K mainGlobals "_law_spoilt" = some (some (.ref f35))) (l35 : K.lookup f35 = some ⟨oc35, od35, .func (PySem.W.fnOf "_law_spoilt" "_law_spoilt" (defArgs s_law_spoilt) (defBody s_law_spoilt) (defScope s_law_spoilt) .none kV35 dc35 pm35 an35 cd35 ct35), sl35⟩) (c35 : PySem.W.codeIn K cd35 "_law_spoilt" = true) (k35 : PySem.W.keepIn K (.ref f35) = true)
    (a36 : PySem.W.nsIn K mainGlobals "law" = some (some (.ref f36))) (l36 : K.lookup f36 = some ⟨oc36, od36, .func (PySem.W.fnOf "law" "law" (defArgs s_law) (defBody s_law) (defScope s_law) .none kV36 dc36 pm36 an36 cd36 ct36), sl36⟩) (c36 : PySem.W.codeIn K cd36 "law" = true) (k36 : PySem.W.keepIn K (.ref f36) = true)
    (z1 : PySem.W.nsIn K mainGlobals "len" = some none)
    (z2 : PySem.W.nsIn K mainGlobals "all" = some none)
    (z3 : PySem.W.nsIn K mainGlobals "sum" = some none)
    (z4 : PySem.W.nsIn K mainGlobals "range" = some none)
    (z5 : PySem.W.nsIn K mainGlobals "list" = some none)
    (z6 : PySem.W.nsIn K mainGlobals "bool" = some none)
    (z7 : PySem.W.nsIn K mainGlobals "int" = some none)
    (z8 : PySem.W.nsIn K mainGlobals "tuple" = some none)
    (z9 : PySem.W.nsIn K mainGlobals "zip" = some none)
    (z10 : PySem.W.nsIn K mainGlobals "isinstance" = some none)
    (z11 : PySem.W.nsIn K mainGlobals "ValueError" = some none)
    (y1 : PySem.W.nsIn K mainGlobals "MOST_ROOMS" = some (some (.int 8 tk1)))
    (y2 : PySem.W.nsIn K mainGlobals "MOST_WEIGHT" = some (some (.int 9 tk2)))
    (x1 : PySem.W.nsIn K mainGlobals "StrollError" = some (some (.ref z_StrollError)))
    (x2 : PySem.W.nsIn K mainGlobals "NoHouse" = some (some (.ref z_NoHouse)))
    (x3 : PySem.W.nsIn K mainGlobals "NoRoom" = some (some (.ref z_NoRoom)))
    (x4 : PySem.W.nsIn K mainGlobals "NoCount" = some (some (.ref z_NoCount)))
    (x5 : PySem.W.nsIn K mainGlobals "NoShares" = some (some (.ref z_NoShares)))
    (x6 : PySem.W.nsIn K mainGlobals "NotBack" = some (some (.ref z_NotBack)))
    (x7 : PySem.W.nsIn K mainGlobals "Parted" = some (some (.ref z_Parted)))
    (x8 : PySem.W.nsIn K mainGlobals "NoNote" = some (some (.ref z_NoNote)))
    (x9 : PySem.W.excIn K z_NoShares [.type "ValueError", .type "Exception", .type "BaseException", .type "object"] "ValueError.__new__" = true)
    (x10 : PySem.W.findIn K (.ref z_NoShares) "__getattribute__" = some (some (.builtin "BaseException.__getattribute__")))
    (x11 : PySem.W.findIn K (.ref z_NoShares) "__getattr__" = some none)
    (x12 : PySem.W.findIn K (.ref z_NoShares) "__class__" = some (some (.builtin "object.__class__")))
    (x13 : PySem.W.mroIn K z_NoShares (.type "object") = some true)
    (x14 : PySem.W.mroIn K z_NoShares (.type "BaseException") = some true)
    (x15 : PySem.W.specialIn K (.builtin "object.__class__") "__get__" = some (some (.builtin "getset_descriptor.__get__")))
    (x16 : PySem.W.takesIn K (.builtin "object.__class__") = some true)
    (x17 : PySem.W.exmOne K (.ref z_NoShares) (.ref z_StrollError) = some true)
    (x18 : PySem.W.kitOne K (.ref z_NoShares) (.ref z_NoCount) = some false)
    (x19 : PySem.W.kitOne K (.ref z_NoShares) (.ref z_NoHouse) = some false)
    (x20 : PySem.W.kitOne K (.ref z_NoShares) (.ref z_NoNote) = some false)
    (x21 : PySem.W.kitOne K (.ref z_NoShares) (.ref z_NoRoom) = some false)
    (x22 : PySem.W.kitOne K (.ref z_NoShares) (.ref z_NoShares) = some true)
    (x23 : PySem.W.kitOne K (.ref z_NoShares) (.ref z_NotBack) = some false)
    (x24 : PySem.W.kitOne K (.ref z_NoShares) (.ref z_Parted) = some false)
    (x25 : PySem.W.kitOne K (.ref z_NoShares) (.type "ValueError") = some true)
    : ∃ fd : FuncData, (∀ (s : Shared) (v : Value), BindsTo s fd ⟨[v], []⟩ [("script", v)]) ∧ ∀ base : Heap, K.In base → base.Ns mainGlobals mg → FnOk l.prog w K mg base CX0 12 fa fd ["script"] (spLaw K) := by
  have e := hfa.symm.trans (PySem.W.mg_of X G a36)
  cases e
  have T : Txt mg := ⟨PySem.W.mg_none_of X G z1, PySem.W.mg_none_of X G z2, PySem.W.mg_none_of X G z3, PySem.W.mg_none_of X G z4, PySem.W.mg_none_of X G z5, PySem.W.mg_none_of X G z6, PySem.W.mg_none_of X G z7, PySem.W.mg_none_of X G z8, PySem.W.mg_none_of X G z9, PySem.W.mg_none_of X G z10, PySem.W.mg_none_of X G z11, ⟨_, PySem.W.mg_of X G y1⟩, ⟨_, PySem.W.mg_of X G y2⟩⟩
  have Z : Clz K mg ⟨z_StrollError, z_NoHouse, z_NoRoom, z_NoCount, z_NoShares, z_NotBack, z_Parted, z_NoNote⟩ := ⟨PySem.W.mg_of X G x1, PySem.W.mg_of X G x2, PySem.W.mg_of X G x3, PySem.W.mg_of X G x4, PySem.W.mg_of X G x5, PySem.W.mg_of X G x6, PySem.W.mg_of X G x7, PySem.W.mg_of X G x8, x9, x10, x11, x12, x13, x14, x15, x16, x17, x18, x19, x20, x21, x22, x23, x24, x25⟩
  have F1 := fun_mk (st := s_law_cell_at) l1 c1 k1
  have D1 : DefAt K mg "_law_cell_at" s_law_cell_at ["script", "k"] f1 _ := ⟨F1, PySem.W.mg_of X G a1, F1.binds (ps := ["script", "k"]) fun _ _ _ _ _ _ us hl => match us, hl with | [_, _], _ => rfl⟩
  have F2 := fun_mk (st := s_law_next) l2 c2 k2
  have D2 : DefAt K mg "_law_next" s_law_next ["script", "spot"] f2 _ := ⟨F2, PySem.W.mg_of X G a2, F2.binds (ps := ["script", "spot"]) fun _ _ _ _ _ _ us hl => match us, hl with | [_, _], _ => rfl⟩
  have F3 := fun_mk (st := s_law_weight) l3 c3 k3
  have D3 : DefAt K mg "_law_weight" s_law_weight ["cell", "spare"] f3 _ := ⟨F3, PySem.W.mg_of X G a3, F3.binds (ps := ["cell", "spare"]) fun _ _ _ _ _ _ us hl => match us, hl with | [_, _], _ => rfl⟩
  have F4 := fun_mk (st := s_is_row) l4 c4 k4
  have D4 : DefAt K mg "is_row" s_is_row ["row", "rooms"] f4 _ := ⟨F4, PySem.W.mg_of X G a4, F4.binds (ps := ["row", "rooms"]) fun _ _ _ _ _ _ us hl => match us, hl with | [_, _], _ => rfl⟩
  have F5 := fun_mk (st := s_is_house) l5 c5 k5
  have D5 : DefAt K mg "is_house" s_is_house ["table"] f5 _ := ⟨F5, PySem.W.mg_of X G a5, F5.binds (ps := ["table"]) fun _ _ _ _ _ _ us hl => match us, hl with | [_], _ => rfl⟩
  have F6 := fun_mk (st := s_law_some_house) l6 c6 k6
  have D6 : DefAt K mg "_law_some_house" s_law_some_house ["script", "spot", "many"] f6 _ := ⟨F6, PySem.W.mg_of X G a6, F6.binds (ps := ["script", "spot", "many"]) fun _ _ _ _ _ _ us hl => match us, hl with | [_, _, _], _ => rfl⟩
  have F7 := fun_mk (st := s_law_even_house) l7 c7 k7
  have D7 : DefAt K mg "_law_even_house" s_law_even_house ["script", "spot", "many"] f7 _ := ⟨F7, PySem.W.mg_of X G a7, F7.binds (ps := ["script", "spot", "many"]) fun _ _ _ _ _ _ us hl => match us, hl with | [_, _, _], _ => rfl⟩
  have F8 := fun_mk (st := s_law_house) l8 c8 k8
  have D8 : DefAt K mg "_law_house" s_law_house ["script", "spot", "most"] f8 _ := ⟨F8, PySem.W.mg_of X G a8, F8.binds (ps := ["script", "spot", "most"]) fun _ _ _ _ _ _ us hl => match us, hl with | [_, _, _], _ => rfl⟩
  have F9 := fun_mk (st := s_common) l9 c9 k9
  have D9 : DefAt K mg "common" s_common ["one", "other"] f9 _ := ⟨F9, PySem.W.mg_of X G a9, F9.binds (ps := ["one", "other"]) fun _ _ _ _ _ _ us hl => match us, hl with | [_, _], _ => rfl⟩
  have F10 := fun_mk (st := s_joint_multiple) l10 c10 k10
  have D10 : DefAt K mg "joint_multiple" s_joint_multiple ["numbers"] f10 _ := ⟨F10, PySem.W.mg_of X G a10, F10.binds (ps := ["numbers"]) fun _ _ _ _ _ _ us hl => match us, hl with | [_], _ => rfl⟩
  have F11 := fun_mk (st := s_lowest) l11 c11 k11
  have D11 : DefAt K mg "lowest" s_lowest ["top", "bottom"] f11 _ := ⟨F11, PySem.W.mg_of X G a11, F11.binds (ps := ["top", "bottom"]) fun _ _ _ _ _ _ us hl => match us, hl with | [_, _], _ => rfl⟩
  have F12 := fun_mk (st := s_parts_over) l12 c12 k12
  have D12 : DefAt K mg "parts_over" s_parts_over ["tops", "bottom"] f12 _ := ⟨F12, PySem.W.mg_of X G a12, F12.binds (ps := ["tops", "bottom"]) fun _ _ _ _ _ _ us hl => match us, hl with | [_, _], _ => rfl⟩
  have F13 := fun_mk (st := s_joint_bottom) l13 c13 k13
  have D13 : DefAt K mg "joint_bottom" s_joint_bottom ["parts"] f13 _ := ⟨F13, PySem.W.mg_of X G a13, F13.binds (ps := ["parts"]) fun _ _ _ _ _ _ us hl => match us, hl with | [_], _ => rfl⟩
  have F14 := fun_mk (st := s_tops_over) l14 c14 k14
  have D14 : DefAt K mg "tops_over" s_tops_over ["parts", "bottom"] f14 _ := ⟨F14, PySem.W.mg_of X G a14, F14.binds (ps := ["parts", "bottom"]) fun _ _ _ _ _ _ us hl => match us, hl with | [_, _], _ => rfl⟩
  have F15 := fun_mk (st := s_come_to_one) l15 c15 k15
  have D15 : DefAt K mg "come_to_one" s_come_to_one ["parts"] f15 _ := ⟨F15, PySem.W.mg_of X G a15, F15.binds (ps := ["parts"]) fun _ _ _ _ _ _ us hl => match us, hl with | [_], _ => rfl⟩
  have F16 := fun_mk (st := s_is_part) l16 c16 k16
  have D16 : DefAt K mg "is_part" s_is_part ["pair"] f16 _ := ⟨F16, PySem.W.mg_of X G a16, F16.binds (ps := ["pair"]) fun _ _ _ _ _ _ us hl => match us, hl with | [_], _ => rfl⟩
  have F17 := fun_mk (st := s_need_house) l17 c17 k17
  have D17 : DefAt K mg "need_house" s_need_house ["table"] f17 _ := ⟨F17, PySem.W.mg_of X G a17, F17.binds (ps := ["table"]) fun _ _ _ _ _ _ us hl => match us, hl with | [_], _ => rfl⟩
  have F18 := fun_mk (st := s_need_room) l18 c18 k18
  have D18 : DefAt K mg "need_room" s_need_room ["table", "room"] f18 _ := ⟨F18, PySem.W.mg_of X G a18, F18.binds (ps := ["table", "room"]) fun _ _ _ _ _ _ us hl => match us, hl with | [_, _], _ => rfl⟩
  have F19 := fun_mk (st := s_are_shares) l19 c19 k19
  have D19 : DefAt K mg "are_shares" s_are_shares ["table", "pairs"] f19 _ := ⟨F19, PySem.W.mg_of X G a19, F19.binds (ps := ["table", "pairs"]) fun _ _ _ _ _ _ us hl => match us, hl with | [_, _], _ => rfl⟩
  have F20 := fun_mk (st := s_need_shares) l20 c20 k20
  have D20 : DefAt K mg "need_shares" s_need_shares ["table", "pairs"] f20 _ := ⟨F20, PySem.W.mg_of X G a20, F20.binds (ps := ["table", "pairs"]) fun _ _ _ _ _ _ us hl => match us, hl with | [_, _], _ => rfl⟩
  have F21 := fun_mk (st := s_step_bottom) l21 c21 k21
  have D21 : DefAt K mg "step_bottom" s_step_bottom ["table"] f21 _ := ⟨F21, PySem.W.mg_of X G a21, F21.binds (ps := ["table"]) fun _ _ _ _ _ _ us hl => match us, hl with | [_], _ => rfl⟩
  have F22 := fun_mk (st := s_arriving) l22 c22 k22
  have D22 : DefAt K mg "arriving" s_arriving ["table", "loads", "room"] f22 _ := ⟨F22, PySem.W.mg_of X G a22, F22.binds (ps := ["table", "loads", "room"]) fun _ _ _ _ _ _ us hl => match us, hl with | [_, _, _], _ => rfl⟩
  have F23 := fun_mk (st := s_tops_after_step) l23 c23 k23
  have D23 : DefAt K mg "tops_after_step" s_tops_after_step ["table", "tops"] f23 _ := ⟨F23, PySem.W.mg_of X G a23, F23.binds (ps := ["table", "tops"]) fun _ _ _ _ _ _ us hl => match us, hl with | [_, _], _ => rfl⟩
  have F24 := fun_mk (st := s_walked) l24 c24 k24
  have D24 : DefAt K mg "walked" s_walked ["table", "shares"] f24 _ := ⟨F24, PySem.W.mg_of X G a24, F24.binds (ps := ["table", "shares"]) fun _ _ _ _ _ _ us hl => match us, hl with | [_, _], _ => rfl⟩
  have F25 := fun_mk (st := s_step) l25 c25 k25
  have D25 : DefAt K mg "step" s_step ["table", "one", "other"] f25 _ := ⟨F25, PySem.W.mg_of X G a25, F25.binds (ps := ["table", "one", "other"]) fun _ _ _ _ _ _ us hl => match us, hl with | [_, _, _], _ => rfl⟩
  have F26 := fun_mk (st := s_law_common) l26 c26 k26
  have D26 : DefAt K mg "_law_common" s_law_common ["one", "other"] f26 _ := ⟨F26, PySem.W.mg_of X G a26, F26.binds (ps := ["one", "other"]) fun _ _ _ _ _ _ us hl => match us, hl with | [_, _], _ => rfl⟩
  have F27 := fun_mk (st := s_law_is_part) l27 c27 k27
  have D27 : DefAt K mg "_law_is_part" s_law_is_part ["found", "top", "bottom"] f27 _ := ⟨F27, PySem.W.mg_of X G a27, F27.binds (ps := ["found", "top", "bottom"]) fun _ _ _ _ _ _ us hl => match us, hl with | [_, _, _], _ => rfl⟩
  have F28 := fun_mk (st := s_law_parts_like) l28 c28 k28
  have D28 : DefAt K mg "_law_parts_like" s_law_parts_like ["found", "tops", "bottom"] f28 _ := ⟨F28, PySem.W.mg_of X G a28, F28.binds (ps := ["found", "tops", "bottom"]) fun _ _ _ _ _ _ us hl => match us, hl with | [_, _, _], _ => rfl⟩
  have F29 := fun_mk (st := s_law_sums) l29 c29 k29
  have D29 : DefAt K mg "_law_sums" s_law_sums ["table"] f29 _ := ⟨F29, PySem.W.mg_of X G a29, F29.binds (ps := ["table"]) fun _ _ _ _ _ _ us hl => match us, hl with | [_], _ => rfl⟩
  have F30 := fun_mk (st := s_law_moved) l30 c30 k30
  have D30 : DefAt K mg "_law_moved" s_law_moved ["table", "tops", "bottom"] f30 _ := ⟨F30, PySem.W.mg_of X G a30, F30.binds (ps := ["table", "tops", "bottom"]) fun _ _ _ _ _ _ us hl => match us, hl with | [_, _, _], _ => rfl⟩
  have F31 := fun_mk (st := s_law_which) l31 c31 k31
  have D31 : DefAt K mg "_law_which" s_law_which ["e"] f31 _ := ⟨F31, PySem.W.mg_of X G a31, F31.binds (ps := ["e"]) fun _ _ _ _ _ _ us hl => match us, hl with | [_], _ => rfl⟩
  have F32 := fun_mk (st := s_law_asked) l32 c32 k32
  have D32 : DefAt K mg "_law_asked" s_law_asked ["table", "shares"] f32 _ := ⟨F32, PySem.W.mg_of X G a32, F32.binds (ps := ["table", "shares"]) fun _ _ _ _ _ _ us hl => match us, hl with | [_, _], _ => rfl⟩
  have F33 := fun_mk (st := s_law_levelled) l33 c33 k33
  have D33 : DefAt K mg "_law_levelled" s_law_levelled ["shares"] f33 _ := ⟨F33, PySem.W.mg_of X G a33, F33.binds (ps := ["shares"]) fun _ _ _ _ _ _ us hl => match us, hl with | [_], _ => rfl⟩
  have F34 := fun_mk (st := s_law_drawn) l34 c34 k34
  have D34 : DefAt K mg "_law_drawn" s_law_drawn ["script", "spot", "many"] f34 _ := ⟨F34, PySem.W.mg_of X G a34, F34.binds (ps := ["script", "spot", "many"]) fun _ _ _ _ _ _ us hl => match us, hl with | [_, _, _], _ => rfl⟩
  have F35 := fun_mk (st := s_law_spoilt) l35 c35 k35
  have D35 : DefAt K mg "_law_spoilt" s_law_spoilt ["shares", "way", "cell"] f35 _ := ⟨F35, PySem.W.mg_of X G a35, F35.binds (ps := ["shares", "way", "cell"]) fun _ _ _ _ _ _ us hl => match us, hl with | [_, _, _], _ => rfl⟩
  have F36 := fun_mk (st := s_law) l36 c36 k36
  have D36 : DefAt K mg "law" s_law ["script"] fa _ := ⟨F36, PySem.W.mg_of X G a36, F36.binds (ps := ["script"]) fun _ _ _ _ _ _ us hl => match us, hl with | [_], _ => rfl⟩
  refine ⟨PySem.W.fnOf "law" "law" (defArgs s_law) (defBody s_law) (defScope s_law) .none kV36 dc36 pm36 an36 cd36 ct36, fun s v => .of_eq rfl, fun base _ _ => ?_⟩
  have G_law_cell_at := c_cell_at (P := l.prog) (w := w) (base := base) D1 T 
  have G_law_next := c_next (P := l.prog) (w := w) (base := base) D2 T G_law_cell_at
  have G_law_weight := c_weight (P := l.prog) (w := w) (base := base) D3 T 
  have G_is_row := c_is_row (P := l.prog) (w := w) (base := base) D4 T 
  have G_is_house := c_is_house (P := l.prog) (w := w) (base := base) D5 T G_is_row
  have G_law_some_house := c_some_house (P := l.prog) (w := w) (base := base) D6 T G_law_next G_law_weight
  have G_law_even_house := c_even_house (P := l.prog) (w := w) (base := base) D7 T G_law_next
  have G_law_house := c_house (P := l.prog) (w := w) (base := base) D8 T G_law_next G_law_some_house G_law_even_house
  have G_common := c_common (P := l.prog) (w := w) (base := base) D9 T 
  have G_joint_multiple := c_joint_multiple (P := l.prog) (w := w) (base := base) D10 T G_common
  have G_lowest := c_lowest (P := l.prog) (w := w) (base := base) D11 T G_common
  have G_parts_over := c_parts_over (P := l.prog) (w := w) (base := base) D12 T G_lowest
  have G_joint_bottom := c_joint_bottom (P := l.prog) (w := w) (base := base) D13 T G_joint_multiple
  have G_tops_over := c_tops_over (P := l.prog) (w := w) (base := base) D14 T 
  have G_come_to_one := c_come_to_one (P := l.prog) (w := w) (base := base) D15 T G_joint_bottom G_tops_over
  have G_is_part := c_is_part (P := l.prog) (w := w) (base := base) D16 T G_common
  have G_need_house := c_need_house (P := l.prog) (w := w) (base := base) D17 T G_is_house
  have G_need_room := c_need_room (P := l.prog) (w := w) (base := base) D18 T 
  have G_are_shares := c_are_shares (P := l.prog) (w := w) (base := base) D19 T G_come_to_one G_is_part
  have G_need_shares := c_need_shares (P := l.prog) (w := w) (base := base) D20 T G_are_shares
  have G_step_bottom := c_step_bottom (P := l.prog) (w := w) (base := base) D21 T G_joint_multiple
  have G_arriving := c_arriving (P := l.prog) (w := w) (base := base) D22 T 
  have G_tops_after_step := c_tops_after_step (P := l.prog) (w := w) (base := base) D23 T G_step_bottom G_arriving
  have G_walked := c_walked (P := l.prog) (w := w) (base := base) D24 T G_need_house G_need_shares G_joint_bottom G_tops_after_step G_parts_over G_tops_over G_step_bottom
  have G_step := c_step (P := l.prog) (w := w) (base := base) D25 T G_need_house G_need_room G_lowest
  have G_law_common := c_law_common (P := l.prog) (w := w) (base := base) D26 T 
  have G_law_is_part := c_law_is_part (P := l.prog) (w := w) (base := base) D27 T G_law_common
  have G_law_parts_like := c_law_parts_like (P := l.prog) (w := w) (base := base) D28 T G_law_is_part
  have G_law_sums := c_law_sums (P := l.prog) (w := w) (base := base) D29 T G_law_common
  have G_law_moved := c_law_moved (P := l.prog) (w := w) (base := base) D30 T G_law_sums
  have B_are_shares := b_are_shares (P := l.prog) (w := w) (base := base) D19 T G_come_to_one G_is_part
  have X_need_shares := x_need_shares (P := l.prog) (w := w) (base := base) D20 T Z B_are_shares
  have X_walked := x_walked (P := l.prog) (w := w) (base := base) D24 T Z G_need_house X_need_shares G_joint_bottom G_tops_after_step G_parts_over G_tops_over G_step_bottom
  have N_law_which := n_law_which (P := l.prog) (w := w) (base := base) D31 T Z
  have G_law_asked := c_law_asked (P := l.prog) (w := w) (base := base) D32 T Z X_walked N_law_which
  have G_law_levelled := c_law_levelled (P := l.prog) (w := w) (base := base) D33 T G_law_common
  have G_law_drawn := c_law_drawn (P := l.prog) (w := w) (base := base) D34 T G_law_next G_law_cell_at G_law_common
  have G_law_spoilt := c_law_spoilt (P := l.prog) (w := w) (base := base) D35 T 
  exact ok_law (P := l.prog) (w := w) (base := base) D36 T G_law_house G_law_cell_at G_law_next G_step G_law_is_part G_law_drawn G_law_asked G_law_spoilt G_law_levelled G_walked G_law_moved G_law_parts_like
theorem walk {l : PySem.W.OpenLaw} {q : Program} {loose : List Str} {XP : (Str → Option Value) → Heap → Prop} {YP : World → Heap → Prop} {d : DefRec} {K : Params → PySem.W.Frag} (hn : l.most = some 63) (hdf : d.params.defaults = [])
    (hY : ∀ (w : World) (h : Heap), YP w h → (K w.params).In h)
    (F : ∀ (w : World) (mg : Str → Option Value) (fa : Addr) (h : Heap), (K w.params).In h → h.Ns mainGlobals mg → mg d.name = some (.ref fa) →
      ∃ fd : FuncData, (∀ (s : Shared) (u : Value), BindsTo s fd ⟨[u], []⟩ [("script", u)]) ∧ ∀ base : Heap, (K w.params).In base → base.Ns mainGlobals mg → FnOk l.prog w (K w.params) mg base CX0 12 fa fd ["script"] (spLaw (K w.params))) :
    PySem.W.WalkO q loose XP YP l.row.toRowW d [] (fun f vs => PySem.call f vs) :=
  L2.walk_of (n := 63) (k := 12) (x := "script") (CX := fun _ => CX0) (sp := fun w => spLaw (K w.params)) hn (by decide) hdf ⟨rfl, by decide, by decide⟩ hY F (fun _ _ a ns hl hO hS => ⟨a, ns, rfl, Scr.of hO hS, fun _ => rfl⟩) fun _ _ _ _ _ z => z
end K03
open PySem PySem.W PyProof.Rows
set_option maxRecDepth 100000 in
set_option maxHeartbeats 0 in
theorem PySem.Challenge.cw_strollhouse_k03_steps_and_shares_moved_holds : PySem.Challenge.rw_strollhouse_k03_steps_and_shares_moved.Holds := by
  w_on; o_law; k_head; (case hw => w_witness2)
  k_fill
  refine K03.walk (l := PySem.Challenge.rw_strollhouse_k03_steps_and_shares_moved) rfl rfl (fun w h Y => PySem.W.kIn_of Y) ?F
  case F =>
    intro w mg fa h KX G hmg
    refine' K03.all_mk KX G hmg ?a1 ?l1 ?c1 ?k1 ?a2 ?l2 ?c2 ?k2 ?a3 ?l3 ?c3 ?k3 ?a4 ?l4 ?c4 ?k4 ?a5 ?l5 ?c5 ?k5 ?a6 ?l6 ?c6 ?k6 ?a7 ?l7 ?c7 ?k7 ?a8 ?l8 ?c8 ?k8 ?a9 ?l9 ?c9 ?k9 ?a10 ?l10 ?c10 ?k10 ?a11 ?l11 ?c11 ?k11 ?a12 ?l12 ?c12 ?k12 ?a13 ?l13 ?c13 ?k13 ?a14 ?l14 ?c14 ?k14 ?a15 ?l15 ?c15 ?k15 ?a16 ?l16 ?c16 ?k16 ?a17 ?l17 ?c17 ?k17 ?a18 ?l18 ?c18 ?k18 ?a19 ?l19 ?c19 ?k19 ?a20 ?l20 ?c20 ?k20 ?a21 ?l21 ?c21 ?k21 ?a22 ?l22 ?c22 ?k22 ?a23 ?l23 ?c23 ?k23 ?a24 ?l24 ?c24 ?k24 ?a25 ?l25 ?c25 ?k25 ?a26 ?l26 ?c26 ?k26 ?a27 ?l27 ?c27 ?k27 ?a28 ?l28 ?c28 ?k28 ?a29 ?l29 ?c29 ?k29 ?a30 ?l30 ?c30 ?k30 ?a31 ?l31 ?c31 ?k31 ?a32 ?l32 ?c32 ?k32 ?a33 ?l33 ?c33 ?k33 ?a34 ?l34 ?c34 ?k34 ?a35 ?l35 ?c35 ?k35 ?a36 ?l36 ?c36 ?k36 ?z1 ?z2 ?z3 ?z4 ?z5 ?z6 ?z7 ?z8 ?z9 ?z10 ?z11 ?y1 ?y2 ?x1 ?x2 ?x3 ?x4 ?x5 ?x6 ?x7 ?x8 ?x9 ?x10 ?x11 ?x12 ?x13 ?x14 ?x15 ?x16 ?x17 ?x18 ?x19 ?x20 ?x21 ?x22 ?x23 ?x24 ?x25
    (case a1 => k_is)
    (case l1 => k_is)
    (case c1 => k_is)
    (case k1 => k_is)
    (case a2 => k_is)
    (case l2 => k_is)
    (case c2 => k_is)
    (case k2 => k_is)
    (case a3 => k_is)
    (case l3 => k_is)
    (case c3 => k_is)
    (case k3 => k_is)
    (case a4 => k_is)
    (case l4 => k_is)
    (case c4 => k_is)
    (case k4 => k_is)
    (case a5 => k_is)
    (case l5 => k_is)
    (case c5 => k_is)
    (case k5 => k_is)
    (case a6 => k_is)
    (case l6 => k_is)
    (case c6 => k_is)
    (case k6 => k_is)
    (case a7 => k_is)
    (case l7 => k_is)
    (case c7 => k_is)
    (case k7 => k_is)
    (case a8 => k_is)
    (case l8 => k_is)
    (case c8 => k_is)
    (case k8 => k_is)
    (case a9 => k_is)
    (case l9 => k_is)
    (case c9 => k_is)
    (case k9 => k_is)
    (case a10 => k_is)
    (case l10 => k_is)
    (case c10 => k_is)
    (case k10 => k_is)
    (case a11 => k_is)
    (case l11 => k_is)
    (case c11 => k_is)
    (case k11 => k_is)
    (case a12 => k_is)
    (case l12 => k_is)
    (case c12 => k_is)
    (case k12 => k_is)
    (case a13 => k_is)
    (case l13 => k_is)
    (case c13 => k_is)
    (case k13 => k_is)
    (case a14 => k_is)
    (case l14 => k_is)
    (case c14 => k_is)
    (case k14 => k_is)
    (case a15 => k_is)
    (case l15 => k_is)
    (case c15 => k_is)
    (case k15 => k_is)
    (case a16 => k_is)
    (case l16 => k_is)
    (case c16 => k_is)
    (case k16 => k_is)
    (case a17 => k_is)
    (case l17 => k_is)
    (case c17 => k_is)
    (case k17 => k_is)
    (case a18 => k_is)
    (case l18 => k_is)
    (case c18 => k_is)
    (case k18 => k_is)
    (case a19 => k_is)
    (case l19 => k_is)
    (case c19 => k_is)
    (case k19 => k_is)
    (case a20 => k_is)
    (case l20 => k_is)
    (case c20 => k_is)
    (case k20 => k_is)
    (case a21 => k_is)
    (case l21 => k_is)
    (case c21 => k_is)
    (case k21 => k_is)
    (case a22 => k_is)
    (case l22 => k_is)
    (case c22 => k_is)
    (case k22 => k_is)
    (case a23 => k_is)
    (case l23 => k_is)
    (case c23 => k_is)
    (case k23 => k_is)
    (case a24 => k_is)
    (case l24 => k_is)
    (case c24 => k_is)
    (case k24 => k_is)
    (case a25 => k_is)
    (case l25 => k_is)
    (case c25 => k_is)
    (case k25 => k_is)
    (case a26 => k_is)
    (case l26 => k_is)
    (case c26 => k_is)
    (case k26 => k_is)
    (case a27 => k_is)
    (case l27 => k_is)
    (case c27 => k_is)
    (case k27 => k_is)
    (case a28 => k_is)
    (case l28 => k_is)
    (case c28 => k_is)
    (case k28 => k_is)
    (case a29 => k_is)
    (case l29 => k_is)
    (case c29 => k_is)
    (case k29 => k_is)
    (case a30 => k_is)
    (case l30 => k_is)
    (case c30 => k_is)
    (case k30 => k_is)
    (case a31 => k_is)
    (case l31 => k_is)
    (case c31 => k_is)
    (case k31 => k_is)
    (case a32 => k_is)
    (case l32 => k_is)
    (case c32 => k_is)
    (case k32 => k_is)
    (case a33 => k_is)
    (case l33 => k_is)
    (case c33 => k_is)
    (case k33 => k_is)
    (case a34 => k_is)
    (case l34 => k_is)
    (case c34 => k_is)
    (case k34 => k_is)
    (case a35 => k_is)
    (case l35 => k_is)
    (case c35 => k_is)
    (case k35 => k_is)
    (case a36 => k_is)
    (case l36 => k_is)
    (case c36 => k_is)
    (case k36 => k_is)
    (case z1 => k_is)
    (case z2 => k_is)
    (case z3 => k_is)
    (case z4 => k_is)
    (case z5 => k_is)
    (case z6 => k_is)
    (case z7 => k_is)
    (case z8 => k_is)
    (case z9 => k_is)
    (case z10 => k_is)
    (case z11 => k_is)
    (case y1 => k_is)
    (case y2 => k_is)
    (case x1 => k_is)
    (case x2 => k_is)
    (case x3 => k_is)
    (case x4 => k_is)
    (case x5 => k_is)
    (case x6 => k_is)
    (case x7 => k_is)
    (case x8 => k_is)
    (case x9 => k_exc)
    (case x10 => k_is)
    (case x11 => k_is)
    (case x12 => k_is)
    (case x13 => k_is)
    (case x14 => k_is)
    (case x15 => k_is)
    (case x16 => k_is)
    (case x17 => kts_exm)
    (case x18 => kit_is)
    (case x19 => kit_is)
    (case x20 => kit_is)
    (case x21 => kit_is)
    (case x22 => kit_is)
    (case x23 => kit_is)
    (case x24 => kit_is)
    (case x25 => kit_is)
#print axioms PySem.Challenge.cw_strollhouse_k03_steps_and_shares_moved_holds
