import PyProof.Rows.All
import Wide.All
import OpenK.AllK
import Wide.FinOn
import Lean
import PyProof.EqAt
import PyProof.EqKinds
import PyProof.TupleCall
import PySem.Challenge.RW_strollhouse_k18_texts_refused
set_option Elab.async false
set_option linter.all false
set_option maxRecDepth 100000
namespace L2
open PySem PySem.Spec PyProof.Rows
abbrev Key := Sum Int Str
def keyIs : Key → Value → Bool
  | .inl k, v => Value.isInt k v
  | .inr x, v => Value.isStrOf x v
def keyH (w : World) : Key → Int
  | .inl k => hashInt k
  | .inr x => hashStr w x
theorem keyIs_shape : ∀ {k : Key} {v : Value}, keyIs k v = true → (∃ i t, k = Sum.inl i ∧ v = Value.int i t) ∨ (∃ x t, k = Sum.inr x ∧ v = Value.str x t)
  | .inl i, v, h => by
    obtain ⟨t, e⟩ := Value.isInt_shape (k := i) (v := v) h
    exact .inl ⟨i, t, rfl, e⟩
  | .inr x, v, h => by
    obtain ⟨t, e⟩ := Value.isStrOf_shape (x := x) (v := v) h
    exact .inr ⟨x, t, rfl, e⟩
theorem key_ll (a b : Int) : decide ((Sum.inl a : Key) = Sum.inl b) = (a == b) := by
  by_cases e : a = b
  · subst e; simp
  · have h : ¬ (Sum.inl a : Key) = Sum.inl b := fun q => e (Sum.inl.inj q)
    rw [decide_eq_false h]
    exact (beq_eq_false_iff_ne.mpr e).symm
theorem key_rr (a b : Str) : decide ((Sum.inr a : Key) = Sum.inr b) = decide (a = b) := by
  by_cases e : a = b
  · subst e; simp
  · have h : ¬ (Sum.inr a : Key) = Sum.inr b := fun q => e (Sum.inr.inj q)
    rw [decide_eq_false h, decide_eq_false e]
theorem key_lr (a : Int) (b : Str) : decide ((Sum.inl a : Key) = Sum.inr b) = false := decide_eq_false (fun q => nomatch q)
theorem key_rl (a : Str) (b : Int) : decide ((Sum.inr a : Key) = Sum.inl b) = false := decide_eq_false (fun q => nomatch q)
def mixKind (prog : Program) (w : World) : PySem.KeyKind prog w Key where
  is := keyIs
  hash := keyH w
  inj := fun v a b ha hb => by
    rcases keyIs_shape ha with ⟨i, t, rfl, rfl⟩ | ⟨x, t, rfl, rfl⟩
    · rcases keyIs_shape hb with ⟨j, u, rfl, e⟩ | ⟨y, u, rfl, e⟩
      · injection e with e1 _; rw [e1]
      · exact nomatch e
    · rcases keyIs_shape hb with ⟨j, u, rfl, e⟩ | ⟨y, u, rfl, e⟩
      · exact nomatch e
      · injection e with e1 _; rw [e1]
  byValue := fun k v h => by
    rcases keyIs_shape h with ⟨i, t, rfl, rfl⟩ | ⟨x, t, rfl, rfl⟩ <;> rfl
  pyHash := fun hv h => by
    rcases keyIs_shape hv with ⟨i, t, rfl, rfl⟩ | ⟨x, t, rfl, rfl⟩
    · exact wpAny_pyHash_int h
    · exact wpAny_pyHash_str h
  eqBool := fun hu hv h => by
    rcases keyIs_shape hu with ⟨i, t, rfl, rfl⟩ | ⟨x, t, rfl, rfl⟩
    · rcases keyIs_shape hv with ⟨j, u, rfl, rfl⟩ | ⟨y, u, rfl, rfl⟩
      · rw [key_ll] at h; exact wpAny_eqBool_int h
      · rw [key_lr] at h; exact SeqAt.EqAt.int_str i t y u _ _ _ _ h
    · rcases keyIs_shape hv with ⟨j, u, rfl, rfl⟩ | ⟨y, u, rfl, rfl⟩
      · rw [key_rl] at h; exact SeqAt.EqAt.str_int x t j u _ _ _ _ h
      · rw [key_rr] at h; exact wpAny_eqBool_str h
  «strs» := fun k x t v h => by
    rcases keyIs_shape h with ⟨i, u, rfl, e⟩ | ⟨y, u, rfl, e⟩
    · exact nomatch e
    · injection e with e1 _
      subst e1
      cases v <;> rfl
end L2
namespace L2
open PySem PySem.Spec PyProof.Rows
inductive V where
  | non | bl (b : Bool) | int (i : Int) | str (x : Str) | byt (b : Array UInt8) | flt (b : UInt64) | ref (a : Addr) | ty (n : String)
  deriving DecidableEq
def RelV : V → Value → Prop
  | .non, u => u = Value.none
  | .bl b, u => u = Value.bool b
  | .int i, u => ∃ t, u = Value.int i t
  | .str x, u => ∃ t, u = Value.str x t
  | .byt b, u => ∃ t, u = Value.bytes b t
  | .flt b, u => ∃ t, u = Value.float b t
  | .ref a, u => u = Value.ref a
  | .ty n, u => u = Value.type n
abbrev Vals : List V → List Value → Prop := Paired RelV
theorem Vals.length {xs : List V} {us : List Value} (r : Vals xs us) : xs.length = us.length := Paired.length r
theorem Vals.get : ∀ {xs : List V} {us : List Value} {i : Nat} {x : V}, Vals xs us → xs[i]? = some x → ∃ u, us[i]? = some u ∧ RelV x u
  | _, _, _, _, .nil, e => by simp at e
  | _, _, 0, _, .cons r _, e => by simp at e; subst e; exact ⟨_, rfl, r⟩
  | _, _, i + 1, x, .cons _ t, e => by
    obtain ⟨u, h1, h2⟩ := Vals.get (i := i) (x := x) t (by simpa using e)
    exact ⟨u, by simpa using h1, h2⟩
theorem Vals.set {x : V} {u : Value} (r : RelV x u) : ∀ {xs : List V} {us : List Value} (i : Nat), Vals xs us → Vals (xs.set i x) (us.set i u)
  | _, _, _, .nil => .nil
  | _, _, 0, .cons _ t => .cons r t
  | _, _, i + 1, .cons q t => .cons q (Vals.set r i t)
theorem Vals.append : ∀ {xs ys : List V} {us ws : List Value}, Vals xs us → Vals ys ws → Vals (xs ++ ys) (us ++ ws)
  | _, _, _, _, .nil, s => s
  | _, _, _, _, .cons r t, s => .cons r (Vals.append t s)
theorem Vals.take : ∀ {xs : List V} {us : List Value} (n : Nat), Vals xs us → Vals (xs.take n) (us.take n)
  | _, _, 0, _ => .nil
  | _, _, _ + 1, .nil => .nil
  | _, _, n + 1, .cons r t => .cons r (Vals.take n t)
theorem Vals.drop : ∀ {xs : List V} {us : List Value} (n : Nat), Vals xs us → Vals (xs.drop n) (us.drop n)
  | _, _, 0, r => r
  | _, _, _ + 1, .nil => .nil
  | _, _, n + 1, .cons _ t => Vals.drop n t
def RelO : Option V → Option Value → Prop
  | some v, some u => RelV v u
  | none, none => True
  | _, _ => False
def KV {κ : Type} : List (κ × V) → List (κ × Value) → Prop := Paired fun (p : κ × V) (q : κ × Value) => p.1 = q.1 ∧ RelV p.2 q.2
def kV : Key → V
  | .inl i => .int i
  | .inr x => .str x
inductive HO where
  | lst (xs : List V)
  | tup (xs : List V)
  | dK (kvs : List (Key × V)) | dT (kvs : List (List Key × V))
  | set (S : Int → Bool) (n : Nat)
  | ins (C dx : Addr) (fs : List (Str × V))
  | own (x : Addr)
  | xd (fs : List (Str × V))
  | met (f x : Addr)
  | rng (lo hi : Int)
  | frz (o : Obj) (u : HO)
  | tbl (ps : Array Value)
  | ext (φ : Heap → Prop)
abbrev Hp := Addr → Option HO
def upd (H : Hp) (a : Addr) (o : HO) : Hp := fun b => if b = a then some o else H b
theorem upd_same {H : Hp} {a : Addr} {o : HO} : upd H a o a = some o := by unfold upd; rw [if_pos rfl]
theorem upd_ne {H : Hp} {a b : Addr} {o : HO} (h : b ≠ a) : upd H a o b = H b := by unfold upd; rw [if_neg h]
theorem upd_upd {H : Hp} {a : Addr} {o u : HO} : upd (upd H a o) a u = upd H a u := by
  funext b; unfold upd; split <;> rfl
theorem ne_of_none {H : Hp} {a b : Addr} {o : HO} (h : H a = some o) (h' : H b = none) : a ≠ b := by
  intro e; subst e; rw [h] at h'; cases h'
section
variable (P : Program) (w : World)
def ObjOk (H : Hp) (h : Heap) (a : Addr) : HO → Prop
  | .lst xs => xs.length ≤ sizeLine ∧ ∃ (its : List Value) (n : Nat), Vals xs its ∧ h.get? a = some { cls := .type "list", data := .seq its.toArray n }
  | .tup xs => xs.length ≤ sizeLine ∧ ∃ its : List Value, Vals xs its ∧ IsTup h a its.toArray
  | .dK kvs => kvs.length ≤ sizeLine ∧ (a == sysModules) = false ∧ ∃ vs, KV kvs vs ∧ h.DictOf (mixKind P w) a vs
  | .dT kvs => kvs.length ≤ sizeLine ∧ (a == sysModules) = false ∧ ∃ xs : List (List Key × Addr × Value),
      Paired (fun (p : List Key × V) (q : List Key × Addr × Value) => p.1 = q.1 ∧ H q.2.1 = some (.tup (p.1.map kV)) ∧ RelV p.2 q.2.2) kvs xs ∧
      ∃ o es ep, h.get? a = some o ∧ o.ExactDict ∧ o.data = .dict es ep ∧ es.toList = xs.map (entryOfKey (tupleKind (mixKind P w))) ∧ (xs.map (·.1)).Nodup
  | .set S n => h.SetOf (intKind P w) a S n
  | .ins C dx fs => H dx = some (.own a) ∧ fs.length ≤ 1000 ∧ dx ≠ a ∧ h.get? a = some (PySem.W.instObj C dx) ∧
      ∃ mA, h.Ns1 dx mA ∧ (∀ f, RelO (fs.lookup f) (mA f)) ∧ PySem.Within mA (fs.map (·.1))
  | .own _ => ∃ o, h.get? a = some o
  | .xd fs => ∃ mA, h.Ns1 a mA ∧ ∀ f, RelO (fs.lookup f) (mA f)
  | .rng lo hi => ∃ t u v, h.get? a = some { cls := .type "range", data := .fields #[.int lo t, .int hi u, .int 1 v] }
  | .frz o u => h.get? a = some o ∧ ObjOk H h a u
  | .tbl ps => h.get? a = some { cls := .none, data := .fields ps }
  | .met f x => h.get? a = some (PySem.W.methodObj (.ref f) (.ref x))
  | .ext φ => φ h ∧ (∃ o, h.get? a = some o) ∧ ∀ h1 h2 : Heap, φ h1 → (∀ o, h1.get? a = some o → h2.get? a = some o) → φ h2
def HOk (H : Hp) (h : Heap) : Prop := ∀ a o, H a = some o → ObjOk P w H h a o
end
section
variable {P : Program} {w : World} {H H' : Hp} {h h' : Heap} {a : Addr} {o : HO}
theorem ObjOk.lt (x : ObjOk P w H h a o) : a < h.objs.size := by
  cases o with
  | lst xs => obtain ⟨_, _, _, _, e⟩ := x; exact Heap.lt_size e
  | tup xs => obtain ⟨_, _, _, p⟩ := x; exact p.lt
  | dK kvs => obtain ⟨_, _, _, _, o, _, _, e, _⟩ := x; exact Heap.lt_size e
  | dT kvs => obtain ⟨_, _, _, _, o, _, _, e, _⟩ := x; exact Heap.lt_size e
  | set S n => obtain ⟨o, _, _, _, e, _⟩ := x; exact Heap.lt_size e
  | ins C dx fs => obtain ⟨_, _, _, e, _⟩ := x; exact Heap.lt_size e
  | own y => obtain ⟨_, e⟩ := x; exact Heap.lt_size e
  | xd fs => obtain ⟨_, ⟨_, _, _, e, _⟩, _⟩ := x; exact Heap.lt_size e
  | rng lo hi => obtain ⟨_, _, _, e⟩ := x; exact Heap.lt_size e
  | frz ob u => obtain ⟨e, _⟩ := x; exact Heap.lt_size e
  | tbl ps => exact Heap.lt_size (show h.get? a = some _ from x)
  | met f y => exact Heap.lt_size (show h.get? a = some _ from x)
  | ext φ => obtain ⟨_, ⟨_, e⟩, _⟩ := x; exact Heap.lt_size e
theorem Paired.mapP {α β : Type} {F G : α → β → Prop} : ∀ {l₁ : List α} {l₂ : List β}, Paired F l₁ l₂ → (∀ a b, F a b → G a b) → Paired G l₁ l₂
  | _, _, .nil, _ => .nil
  | _, _, .cons r t, f => .cons (f _ _ r) (Paired.mapP t f)
theorem ObjOk.stay (x : ObjOk P w H h a o) (k : ∀ b u, (b = a ∨ H b = some (.own a)) → h.get? b = some u → h'.get? b = some u)
    (ho : ∀ b, H b = some (.own a) → H' b = some (.own a)) (ht : ∀ b xs, H b = some (.tup xs) → H' b = some (.tup xs)) : ObjOk P w H' h' a o := by
  induction o with
  | lst xs => obtain ⟨z, its, n, r, e⟩ := x; exact ⟨z, its, n, r, k _ _ (.inl rfl) e⟩
  | tup xs => obtain ⟨z, its, r, ob, e, c⟩ := x; exact ⟨z, its, r, ob, k _ _ (.inl rfl) e, c⟩
  | dK kvs => obtain ⟨z, y, vs, r, ob, es, ep, e, c⟩ := x; exact ⟨z, y, vs, r, ob, es, ep, k _ _ (.inl rfl) e, c⟩
  | dT kvs =>
    obtain ⟨z, y, xs, r, ob, es, ep, e, c⟩ := x
    exact ⟨z, y, xs, Paired.mapP r fun p q z => ⟨z.1, ht _ _ z.2.1, z.2.2⟩, ob, es, ep, k _ _ (.inl rfl) e, c⟩
  | set S n => obtain ⟨ob, es, ep, t, e, c⟩ := x; exact ⟨ob, es, ep, t, k _ _ (.inl rfl) e, c⟩
  | ins C dx fs =>
    obtain ⟨d, z, ne, e, mA, ⟨od, es, ep, e2, c⟩, r⟩ := x
    exact ⟨ho _ d, z, ne, k _ _ (.inl rfl) e, mA, ⟨od, es, ep, k _ _ (.inr d) e2, c⟩, r⟩
  | own y => obtain ⟨ob, e⟩ := x; exact ⟨ob, k _ _ (.inl rfl) e⟩
  | xd fs => obtain ⟨mA, ⟨od, es, ep, e, c⟩, r⟩ := x; exact ⟨mA, ⟨od, es, ep, k _ _ (.inl rfl) e, c⟩, r⟩
  | rng lo hi => obtain ⟨t, u, v, e⟩ := x; exact ⟨t, u, v, k _ _ (.inl rfl) e⟩
  | frz ob u ih => obtain ⟨e, q⟩ := x; exact ⟨k _ _ (.inl rfl) e, ih q⟩
  | tbl ps =>
    have e : h.get? a = some { cls := .none, data := .fields ps } := x
    show h'.get? a = some { cls := .none, data := .fields ps }
    exact k a _ (.inl rfl) e
  | met f y =>
    have e : h.get? a = some (PySem.W.methodObj (.ref f) (.ref y)) := x
    show h'.get? a = some (PySem.W.methodObj (.ref f) (.ref y))
    exact k a _ (.inl rfl) e
  | ext φ => obtain ⟨p, ⟨o, e⟩, st⟩ := x; exact ⟨st _ _ p fun o q => k _ _ (.inl rfl) q, ⟨o, k _ _ (.inl rfl) e⟩, st⟩
theorem HOk.lt (x : HOk P w H h) (e : H a = some o) : a < h.objs.size := (x a o e).lt
theorem HOk.fresh (x : HOk P w H h) (e : h.objs.size ≤ a) : H a = none := by
  cases q : H a with
  | none => rfl
  | some u => exact absurd (Nat.lt_of_lt_of_le (x.lt q) e) (Nat.lt_irrefl _)
theorem HOk.kept (x : HOk P w H h) (k : ∀ b u, h.get? b = some u → h'.get? b = some u) : HOk P w H h' := fun a o e =>
  (x a o e).stay (fun b u _ q => k b u q) (fun _ q => q) fun _ _ q => q
theorem HOk.laid (x : HOk P w H h) (k : ∀ b u, h.get? b = some u → h'.get? b = some u) (hp : h.objs.size ≤ a) (new : ObjOk P w (upd H a o) h' a o) : HOk P w (upd H a o) h' := fun b u e => by
  have hn := x.fresh hp
  by_cases hb : b = a
  · subst hb; rw [upd_same] at e; cases e; exact new
  · rw [upd_ne hb] at e
    exact (x b u e).stay (fun c v _ q => k c v q) (fun c q => by rw [upd_ne (ne_of_none q hn)]; exact q) fun c xs q => by rw [upd_ne (ne_of_none q hn)]; exact q
end
def Rd (H : Hp) (a : Addr) (u : HO) : Prop := H a = some u ∨ ∃ o, H a = some (.frz o u)
theorem Rd.ok {P : Program} {w : World} {H : Hp} {h : Heap} {a : Addr} {u : HO} (r : Rd H a u) (x : HOk P w H h) : ObjOk P w H h a u := by
  rcases r with r | ⟨o, r⟩
  · exact x a u r
  · obtain ⟨_, q⟩ := x a _ r
    exact q
def Mut : Option HO → Prop
  | some (.lst _) => True
  | some (.dK _) => True
  | some (.dT _) => True
  | some (.set _ _) => True
  | some (.ins _ _ _) => True
  | some (.ext _) => True
  | _ => False
section
variable {P : Program} {w : World} {H : Hp} {h h' : Heap} {x e : Addr} {o' : HO}
theorem HOk.write (ok : HOk P w H h) (mu : Mut (H x)) (he : e = x ∨ H e = some (.own x)) (k : ∀ b u, b ≠ e → h.get? b = some u → h'.get? b = some u) (heo : ∃ u, h'.get? e = some u)
    (new : ObjOk P w (upd H x o') h' x o') : HOk P w (upd H x o') h' := fun b u q => by
  have nown : ∀ c y, H c = some (.own y) → c ≠ x := fun c y r z => by subst z; rw [r] at mu; exact mu
  have ntup : ∀ c xs, H c = some (.tup xs) → c ≠ x := fun c xs r z => by subst z; rw [r] at mu; exact mu
  by_cases hb : b = x
  · subst hb; rw [upd_same] at q; cases q; exact new
  · rw [upd_ne hb] at q
    by_cases hbe : b = e
    · have q' : H b = some (.own x) := by
        rcases he with z | z
        · exact absurd (hbe.trans z) hb
        · rw [hbe]; exact z
      rw [q] at q'; cases q'
      obtain ⟨v, hv⟩ := heo
      exact ⟨v, by rw [hbe]; exact hv⟩
    · refine (ok b u q).stay (fun c v hc r => k c v ?_ r) (fun c r => by rw [upd_ne (nown c b r)]; exact r) fun c xs r => by rw [upd_ne (ntup c xs r)]; exact r
      rcases hc with rfl | hc
      · exact hbe
      · rintro rfl
        rcases he with z | z
        · exact nown c b hc z
        · rw [hc] at z; cases z; exact hb rfl
end
structure Un (fs ex : List Addr) (H H' : Hp) (h h' : Heap) : Prop where
  keep : ∀ b o, h.get? b = some o → H b = none → b ∉ fs → b ∉ ex → h'.get? b = some o
  slot : ∀ b o, h.get? b = some o → H b = none → b ∈ fs → b ∉ ex → ∃ sl, h'.get? b = some { o with slots := sl }
  free : ∀ b o, h.get? b = some o → H b = none → b ∉ ex → H' b = none
  there : ∀ b o, h.get? b = some o → b ∉ ex → ∃ o', h'.get? b = some o'
  tups : ∀ b xs, H b = some (.tup xs) → H' b = some (.tup xs)
  frzs : ∀ b o u, H b = some (.frz o u) → H' b = some (.frz o u)
  tbls : ∀ b ps, H b = some (.tbl ps) → ∃ more, H' b = some (.tbl (ps ++ more))
section
variable {fs fs' ex ex' : List Addr} {H H1 H2 : Hp} {h h1 h2 h' : Heap} {a x e : Addr} {o : HO}
theorem Un.any (u : Un fs ex H H1 h h1) {b : Addr} {ob : Obj} (q : h.get? b = some ob) (n : H b = none) (hx : b ∉ ex) : ∃ sl, h1.get? b = some { ob with slots := sl } := by
  by_cases hb : b ∈ fs
  · exact u.slot b ob q n hb hx
  · exact ⟨ob.slots, u.keep b ob q n hb hx⟩
theorem Un.kept (k : ∀ b u, h.get? b = some u → h'.get? b = some u) : Un fs ex H H h h' :=
  ⟨fun b ob q _ _ _ => k b ob q, fun b ob q _ _ _ => ⟨ob.slots, k b ob q⟩, fun _ _ _ n _ => n, fun b ob q _ => ⟨ob, k b ob q⟩, fun _ _ q => q, fun _ _ _ q => q, fun _ ps q => ⟨#[], by rw [q]; simp⟩⟩
theorem Un.refl : Un fs ex H H h h := Un.kept fun _ _ q => q
theorem Un.laid (k : ∀ b u, h.get? b = some u → h'.get? b = some u) (hp : h.objs.size ≤ a) (hn : H a = none) : Un fs ex H (upd H a o) h h' where
  keep := fun b u q _ _ _ => k b u q
  slot := fun b u q _ _ _ => ⟨u.slots, k b u q⟩
  free := fun b u q n _ => by rw [upd_ne (Nat.ne_of_lt (Nat.lt_of_lt_of_le (Heap.lt_size q) hp))]; exact n
  there := fun b u q _ => ⟨u, k b u q⟩
  tups := fun b xs q => by rw [upd_ne (ne_of_none q hn)]; exact q
  frzs := fun b u xs q => by rw [upd_ne (ne_of_none q hn)]; exact q
  tbls := fun b ps q => ⟨#[], by rw [upd_ne (ne_of_none q hn), q]; simp⟩
theorem Un.write (mu : Mut (H x)) (he : e = x ∨ H e = some (.own x)) (k : ∀ b u, b ≠ e → h.get? b = some u → h'.get? b = some u) (heo : ∃ u, h'.get? e = some u) : Un fs ex H (upd H x o) h h' := by
  have hx : ∀ b, H b = none → b ≠ x := fun b n z => by subst z; rw [n] at mu; exact mu
  have hb : ∀ b, H b = none → b ≠ e := fun b n z => by
    subst z
    rcases he with r | r
    · exact hx b n r
    · rw [n] at r; cases r
  have hm : ∀ b u, H b = some u → ¬ Mut (some u) → b ≠ x := fun b u q nm z => by subst z; rw [q] at mu; exact nm mu
  refine ⟨fun b u q n _ _ => k b u (hb b n) q, fun b u q n _ _ => ⟨u.slots, k b u (hb b n) q⟩, fun b u q n _ => by rw [upd_ne (hx b n)]; exact n, fun b u q _ => ?_,
    fun b xs q => by rw [upd_ne (hm b _ q fun z => z)]; exact q, fun b u xs q => by rw [upd_ne (hm b _ q fun z => z)]; exact q, fun b ps q => ⟨#[], by rw [upd_ne (hm b _ q fun z => z), q]; simp⟩⟩
  by_cases hbe : b = e
  · subst hbe; exact heo
  · exact ⟨u, k b u hbe q⟩
end
def trk (h : Heap) (H : Hp) : List Addr := (List.range h.objs.size).filter fun a => (H a).isSome
def hidT (h : Heap) (H : Hp) : Heap := PySem.W.hideAll h (trk h H)
theorem hidT_size (h : Heap) (H : Hp) : (hidT h H).objs.size = h.objs.size := PySem.W.hideAll_size _ _
theorem hidT_get {h : Heap} {H : Hp} {b : Addr} {o : Obj} (e : h.get? b = some o) (n : H b = none) : (hidT h H).get? b = some o :=
  PySem.W.hideAll_get _ e fun hm => by
    have q : (H b).isSome = true := (List.mem_filter.mp hm).2
    rw [n] at q; simp at q
theorem of_hidT {h : Heap} {H : Hp} {b : Addr} {o : Obj} (e : (hidT h H).get? b = some o) : h.get? b = some o ∧ H b = none := by
  have e' : h.get? b = some o := PySem.W.of_hideAll (trk h H) e
  refine ⟨e', ?_⟩
  cases q : H b with
  | none => rfl
  | some x =>
    have hm : b ∈ trk h H := List.mem_filter.mpr ⟨List.mem_range.mpr (Heap.lt_size e'), by simp [q]⟩
    have z : (hidT h H).get? b = none := PySem.W.hideAll_none (trk h H) hm
    rw [z] at e; cases e
def allNews (g h : Heap) (L : Addr) : List (Addr × Obj) := (List.range h.objs.size).filterMap fun a => if a = L ∨ (g.get? a).isSome = true then none else (h.get? a).map fun o => (a, o)
def rest (g h : Heap) (L d : Addr) : List (Addr × Obj) := (allNews g h L).filter fun p => decide (p.1 ≠ d)
end L2
namespace L2
open PySem PySem.Spec PyProof.Rows
structure Mod (K : PySem.W.Frag) (mg : Str → Option Value) (base : Heap) : Prop where
  kin : K.In base
  glob : base.Ns mainGlobals mg
  blt : ∃ mb, base.Ns builtinsNs mb ∧ ∀ x : Str, x ≠ "__name__" → mb x = bootBuiltins x
  nolimit : base.NoLimit
/-- the context: a def's body (or a comprehension's block) running. base: fixed through the whole law; s₀, H₀: the entry; outer: the frames whose slots others may change (a def's callers); stack: all frames that run;
   ex: iterators that were made ahead of the entry and are walked here (a comprehension's); fn: the names whose cells were made at the entry (a def: all; a comprehension's block: its own); calm: not within an except suite; pn: pins that every state bears; xe: what is wanted of an exception that leaves the code -/
structure Cx where
  prog : Program
  w : World
  K : PySem.W.Frag
  mg : Str → Option Value
  base : Heap
  A : Around
  N : List Str
  s₀ : Shared
  H₀ : Hp
  env : Env
  outer : List Env
  stack : List Env
  ex : List Addr
  fn : Str → Bool
  calm : Bool
  pn : List (Addr × Obj)
  xe : Value → Shared → Prop
def frs (l : List Env) : List Addr := l.filterMap (·.frame)
abbrev Cx.fs (X : Cx) : List Addr := frs X.outer
def Vis (sc : Scope) (x : Str) : Prop := sc.names.lookup x = some .local ∨ sc.names.lookup x = some .cell ∨ sc.names.lookup x = some .free
def Loc (sc : Scope) (x : Str) : Prop := sc.names.lookup x = some .local ∨ sc.names.lookup x = some .cell
def Look (env : Env) (h : Heap) (m : Str → Option Value) (x : Str) (u : Value) : Prop :=
  (env.kindOf x = some .local ∧ m x = some u) ∨ ((env.kindOf x = some .cell ∨ env.kindOf x = some .free) ∧ ∃ c, env.cells.lookup x = some c ∧ h.IsCell c (some u))
structure Cx.Ok (X : Cx) : Prop where
  mod : Mod X.K X.mg X.base
  kind : X.env.scope.kind = .function
  glob : X.env.globals = mainGlobals
  blt : X.env.builtins = builtinsNs
  above : X.s₀.heap.objs.size ≤ X.env.locals
  inj : ∀ x y c, X.env.cells.lookup x = some c → X.env.cells.lookup y = some c → x = y
  has : ∀ x, (X.env.kindOf x = some .cell ∨ X.env.kindOf x = some .free) → ∃ c, X.env.cells.lookup x = some c
  cab : ∀ x c, X.fn x = true → X.env.cells.lookup x = some c → X.s₀.heap.objs.size ≤ c
  hd : X.calm = true → X.A.handled = none
  frames : X.A.frames = some X.stack
  stk : X.stack = X.outer ∨ (X.stack = X.env :: X.outer ∧ X.env.frame = some X.env.locals)
  exf : ∀ b ∈ X.ex, b ≠ X.env.locals ∧ ∀ x c, X.env.cells.lookup x = some c → c ≠ b
  bs : ∀ b o, X.base.get? b = some o → X.s₀.heap.get? b = some o ∧ X.H₀ b = none
  bsz : X.base.objs.size ≤ X.s₀.heap.objs.size
  noex : ∀ b o, X.base.get? b = some o → b ∉ X.ex
  exfs : ∀ b ∈ X.ex, b ∉ X.fs
  funs : X.s₀.heap.FunFrames X.base X.outer
  frf : ∀ b ∈ X.fs, X.H₀ b = none
structure Inv (X : Cx) (pins : List (Addr × Obj)) (σ : List (Option V)) (H : Hp) (s : Shared) : Prop where
  ok : X.Ok
  os : s.os = X.s₀.os
  bare : AllBare s.gens
  base : Un X.fs X.ex X.H₀ H X.s₀.heap s.heap
  loc : ∃ m, s.heap.Ns X.env.locals m ∧ ∀ (i : Nat) (x : Str) (v : V), X.N[i]? = some x → σ[i]? = some (some v) → Vis X.env.scope x → ∃ u, RelV v u ∧ Look X.env s.heap m x u
  cell : ∀ x c, X.env.cells.lookup x = some c → ∃ v, s.heap.IsCell c v
  free : H X.env.locals = none
  freeC : ∀ x c, X.env.cells.lookup x = some c → H c = none
  pin : ∀ p ∈ X.pn ++ pins, s.heap.get? p.1 = some p.2 ∧ H p.1 = none ∧ p.1 ≠ X.env.locals ∧ p.1 ∉ X.fs ∧ ∀ v, p.2.data ≠ .cell v
  hok : HOk X.prog X.w H s.heap
  len : σ.length = X.N.length
section
variable {X : Cx} {pins : List (Addr × Obj)} {σ : List (Option V)} {H H' : Hp} {s : Shared} {h' : Heap}
theorem Cx.Ok.nofr (ok : X.Ok) {b : Addr} {o : Obj} (e : X.base.get? b = some o) : b ∉ X.fs := fun hb => by
  have := (ok.funs.mem hb).1
  rw [e] at this; cases this
theorem Inv.bs (I : Inv X pins σ H s) : ∀ b o, X.base.get? b = some o → s.heap.get? b = some o ∧ H b = none := fun b o e =>
  ⟨I.base.keep b o (I.ok.bs b o e).1 (I.ok.bs b o e).2 (I.ok.nofr e) (I.ok.noex b o e), I.base.free b o (I.ok.bs b o e).1 (I.ok.bs b o e).2 (I.ok.noex b o e)⟩
theorem Inv.bk (I : Inv X pins σ H s) : ∀ b o, X.base.get? b = some o → s.heap.get? b = some o := fun b o e => (I.bs b o e).1
theorem Inv.mod (I : Inv X pins σ H s) : Mod X.K X.mg X.base := I.ok.mod
theorem Inv.kIn (I : Inv X pins σ H s) : X.K.In s.heap := I.ok.mod.kin.keeps I.bk
theorem Inv.lt (I : Inv X pins σ H s) : X.env.locals < s.heap.objs.size := let ⟨_, hn, _⟩ := I.loc; hn.lt
theorem Inv.sz (I : Inv X pins σ H s) : X.s₀.heap.objs.size ≤ s.heap.objs.size := Nat.le_trans I.ok.above (Nat.le_of_lt I.lt)
theorem Inv.nofs (I : Inv X pins σ H s) {a : Addr} (h : s.heap.objs.size ≤ a) : a ∉ X.fs := fun hb => by
  obtain ⟨_, o, ho, _⟩ := I.ok.funs.mem hb
  exact absurd (Nat.lt_of_lt_of_le (Heap.lt_size ho) (Nat.le_trans I.sz h)) (Nat.lt_irrefl _)
theorem Inv.cne (I : Inv X pins σ H s) : ∀ x c, X.env.cells.lookup x = some c → c ≠ X.env.locals := fun x c e z => by
  obtain ⟨v, o, ho, hd⟩ := I.cell x c e
  obtain ⟨m, ⟨o', es, ep, ho', hd', _⟩, _⟩ := I.loc
  rw [z, ho'] at ho; cases ho; rw [hd'] at hd; cases hd
theorem Inv.funs (I : Inv X pins σ H s) : s.heap.FunFrames X.base X.outer := by
  have all : ∀ (l : List Env), (∀ b ∈ frs l, b ∈ X.fs) → X.s₀.heap.FunFrames X.base l → s.heap.FunFrames X.base l := by
    intro l
    induction l with
    | nil => intro _ _; trivial
    | cons env r ih =>
      intro hs hl
      obtain ⟨hk, ⟨L, o, hf, hn, ho, hd⟩, hr⟩ := hl
      have hL : L ∈ X.fs := hs L (by unfold frs; rw [List.filterMap_cons, hf]; exact List.mem_cons_self)
      obtain ⟨sl, e⟩ := I.base.slot L o ho (I.ok.frf L hL) hL fun z => I.ok.exfs L z hL
      exact ⟨hk, ⟨L, _, hf, hn, e, hd⟩, ih (fun b hb => hs b (by unfold frs; rw [List.filterMap_cons, hf]; exact List.mem_cons_of_mem _ hb)) hr⟩
  exact all X.outer (fun _ hb => hb) I.ok.funs
theorem Inv.stack (I : Inv X pins σ H s) : s.heap.FunFrames X.base X.stack := by
  rcases I.ok.stk with e | ⟨e, hf⟩
  · rw [e]; exact I.funs
  · rw [e]
    obtain ⟨m, hn, _⟩ := I.loc
    refine .cons (by rw [I.ok.kind]; decide) hf hn ?_ I.funs
    exact Heap.get?_none_of_le (Nat.le_trans I.ok.bsz I.ok.above)
theorem Inv.stkSub (I : Inv X pins σ H s) : ∀ b ∈ frs X.stack, b ∈ X.env.locals :: X.fs := fun b hb => by
  rcases I.ok.stk with e | ⟨e, hf⟩
  · rw [e] at hb; exact List.mem_cons_of_mem _ hb
  · rw [e] at hb
    unfold frs at hb
    rw [List.filterMap_cons, hf] at hb
    exact hb
theorem Inv.stkFree (I : Inv X pins σ H s) : ∀ b ∈ frs X.stack, H b = none := fun b hb => by
  rcases List.mem_cons.mp (I.stkSub b hb) with e | hb
  · rw [e]; exact I.free
  · obtain ⟨_, o, ho, _⟩ := I.ok.funs.mem hb
    exact I.base.free b o ho (I.ok.frf b hb) fun z => I.ok.exfs b z hb
theorem Inv.step {g' : Array GenState} {t' : Nat} {d' : Drawn} {ch : List Addr} (I : Inv X pins σ H s)
    (hch : ∀ b ∈ ch, (b ∈ X.ex ∨ X.s₀.heap.objs.size ≤ b) ∧ b ≠ X.env.locals ∧ (∀ x c, X.env.cells.lookup x = some c → c ≠ b) ∧ ∀ p ∈ X.pn ++ pins, p.1 ≠ b)
    (keep : ∀ b o, b ≠ X.env.locals → b ∉ X.fs → b ∉ ch → s.heap.get? b = some o → H b = none → h'.get? b = some o)
    (slot : ∀ b o, b ≠ X.env.locals → b ∈ X.fs → b ∉ ch → s.heap.get? b = some o → H b = none → ∃ sl, h'.get? b = some { o with slots := sl }) (free : ∀ b o, b ∉ ch → s.heap.get? b = some o → H b = none → H' b = none)
    (there : ∀ b o, b ∉ ch → s.heap.get? b = some o → ∃ o', h'.get? b = some o')
    (tups : ∀ b xs, H b = some (.tup xs) → H' b = some (.tup xs)) (frzs : ∀ b o u, H b = some (.frz o u) → H' b = some (.frz o u)) (tbls : ∀ b ps, H b = some (.tbl ps) → ∃ more, H' b = some (.tbl (ps ++ more)))
    (ns : ∀ m, s.heap.Ns X.env.locals m → h'.Ns X.env.locals m) (hok : HOk X.prog X.w H' h') (hg : AllBare g') :
    Inv X pins σ H' { s with heap := h', gens := g', drawn := d', toks := t' } := by
  have neL : ∀ b o, X.s₀.heap.get? b = some o → b ≠ X.env.locals := fun b o e => Nat.ne_of_lt (Nat.lt_of_lt_of_le (Heap.lt_size e) I.ok.above)
  have neC : ∀ b o, X.s₀.heap.get? b = some o → b ∉ X.ex → b ∉ ch := fun b o e hx hb => by
    rcases (hch b hb).1 with z | z
    · exact hx z
    · exact absurd (Nat.lt_of_lt_of_le (Heap.lt_size e) z) (Nat.lt_irrefl _)
  have cellK : ∀ x c, X.env.cells.lookup x = some c → ∀ v, s.heap.IsCell c v → h'.IsCell c v := fun x c e v ⟨o, ho, hd⟩ => by
    have nch : c ∉ ch := fun z => (hch c z).2.2.1 x c e rfl
    by_cases hc : c ∈ X.fs
    · obtain ⟨sl, q⟩ := slot c o (I.cne x c e) hc nch ho (I.freeC x c e)
      exact ⟨_, q, hd⟩
    · exact ⟨o, keep c o (I.cne x c e) hc nch ho (I.freeC x c e), hd⟩
  refine ⟨I.ok, I.os, hg, ⟨fun b o e n hb hx => ?_, fun b o e n hb hx => ?_, fun b o e n hx => ?_, fun b o e hx => ?_, fun b xs e => tups b xs (I.base.tups b xs e), fun b o xs e => frzs b o xs (I.base.frzs b o xs e), fun b ps e => ?_⟩, ?_, fun x c e => ?_, ?_, fun x c e => ?_, fun p hp => ?_, hok, I.len⟩
  · exact keep b o (neL b o e) hb (neC b o e hx) (I.base.keep b o e n hb hx) (I.base.free b o e n hx)
  · obtain ⟨sl, e1⟩ := I.base.slot b o e n hb hx
    obtain ⟨sl', e2⟩ := slot b _ (neL b o e) hb (neC b o e hx) e1 (I.base.free b o e n hx)
    exact ⟨sl', e2⟩
  · obtain ⟨o', e1⟩ := I.base.there b o e hx
    exact free b o' (neC b o e hx) e1 (I.base.free b o e n hx)
  · obtain ⟨o', e1⟩ := I.base.there b o e hx
    exact there b o' (neC b o e hx) e1
  · obtain ⟨m1, e1⟩ := I.base.tbls b ps e
    obtain ⟨m2, e2⟩ := tbls b _ e1
    exact ⟨m1 ++ m2, by rw [e2, Array.append_assoc]⟩
  · obtain ⟨m, hn, hl⟩ := I.loc
    refine ⟨m, ns m hn, fun i x v e1 e2 e3 => ?_⟩
    obtain ⟨u, r, l⟩ := hl i x v e1 e2 e3
    refine ⟨u, r, ?_⟩
    rcases l with l | ⟨k, c, e, z⟩
    · exact .inl l
    · exact .inr ⟨k, c, e, cellK x c e _ z⟩
  · obtain ⟨v, z⟩ := I.cell x c e
    exact ⟨v, cellK x c e v z⟩
  · obtain ⟨m, ⟨o, _, _, ho, _⟩, _⟩ := I.loc
    exact free _ o (fun z => (hch _ z).2.1 rfl) ho I.free
  · obtain ⟨v, o, ho, hd⟩ := I.cell x c e
    exact free c o (fun z => (hch c z).2.2.1 x c e rfl) ho (I.freeC x c e)
  · obtain ⟨e, n, ne, nf, d⟩ := I.pin p hp
    have nch : p.1 ∉ ch := fun z => (hch p.1 z).2.2.2 p hp rfl
    exact ⟨keep p.1 p.2 ne nf nch e n, free p.1 p.2 nch e n, ne, nf, d⟩
theorem Inv.un {t' : Nat} (I : Inv X pins σ H s) (u : Un X.fs [] H H' s.heap h') (hok : HOk X.prog X.w H' h') : Inv X pins σ H' { s with heap := h', toks := t' } := by
  obtain ⟨m, ⟨o, es, ep, ho, r⟩, _⟩ := id I.loc
  obtain ⟨sl, hL⟩ := u.any ho I.free (by simp)
  exact I.step (g' := s.gens) (d' := s.drawn) (ch := []) (fun _ z => nomatch z) (fun b o _ hb _ e n => u.keep b o e n hb (by simp)) (fun b o _ hb _ e n => u.slot b o e n hb (by simp)) (fun b o _ e n => u.free b o e n (by simp)) (fun b o _ e => u.there b o e (by simp)) u.tups u.frzs u.tbls (fun m' hm => by
    obtain ⟨o', es', ep', ho', r'⟩ := hm
    rw [ho] at ho'; cases ho'
    exact ⟨_, es', ep', hL, r'⟩) hok I.bare
theorem Inv.call {g' : Array GenState} {t' : Nat} {d' : Drawn} {ch : List Addr} (I : Inv X pins σ H s) (u : Un (frs X.stack) ch H H' s.heap h') (hok : HOk X.prog X.w H' h') (hg : AllBare g')
    (hch : ∀ b ∈ ch, (b ∈ X.ex ∨ X.s₀.heap.objs.size ≤ b) ∧ b ≠ X.env.locals ∧ (∀ x c, X.env.cells.lookup x = some c → c ≠ b) ∧ ∀ p ∈ X.pn ++ pins, p.1 ≠ b) :
    Inv X pins σ H' { s with heap := h', gens := g', drawn := d', toks := t' } := by
  obtain ⟨m, ⟨o, es, ep, ho, r⟩, _⟩ := id I.loc
  obtain ⟨sl, hL⟩ := u.any ho I.free fun z => (hch _ z).2.1 rfl
  exact I.step (ch := ch) hch (fun b o hL hb hc e n => u.keep b o e n (fun z => (List.mem_cons.mp (I.stkSub b z)).elim hL hb) hc) (fun b o _ _ hc e n => u.any e n hc) (fun b o hc e n => u.free b o e n hc) (fun b o hc e => u.there b o e hc) u.tups u.frzs u.tbls (fun m' hm => by
    obtain ⟨o', es', ep', ho', r'⟩ := hm
    rw [ho] at ho'; cases ho'
    exact ⟨_, es', ep', hL, r'⟩) hok hg
theorem Inv.turned {t' : Nat} {it : Addr} (I : Inv X pins σ H s) (k : ∀ b o, b ≠ it → s.heap.get? b = some o → h'.get? b = some o) (hn : H it = none) (hL : it ≠ X.env.locals)
    (h1 : it ∈ X.ex ∨ X.s₀.heap.objs.size ≤ it) (h2 : ∀ x c, X.env.cells.lookup x = some c → c ≠ it) (h3 : ∀ p ∈ X.pn ++ pins, p.1 ≠ it) : Inv X pins σ H { s with heap := h', toks := t' } := by
  have nit : ∀ b u, H b = some u → b ≠ it := fun b u e z => by rw [z, hn] at e; cases e
  refine I.step (g' := s.gens) (d' := s.drawn) (ch := [it]) (fun b hb => ?_) (fun b o _ _ hc e _ => k b o (fun z => hc (by simp [z])) e) (fun b o _ _ hc e _ => ⟨o.slots, k b o (fun z => hc (by simp [z])) e⟩) (fun _ _ _ _ n => n)
    (fun b o hc e => ⟨o, k b o (fun z => hc (by simp [z])) e⟩) (fun _ _ e => e) (fun _ _ _ e => e) (fun b ps e => ⟨#[], by rw [e]; simp⟩) (fun m hm => ?_) (fun b u e => ?_) I.bare
  · have e : b = it := by simpa using hb
    subst e
    exact ⟨h1, hL, h2, h3⟩
  · obtain ⟨o, es, ep, ho, r⟩ := hm
    exact ⟨o, es, ep, k _ o (Ne.symm hL) ho, r⟩
  · refine (I.hok b u e).stay (fun c v hc q => k c v ?_ q) (fun _ q => q) fun _ _ q => q
    rcases hc with z | z
    · rw [z]; exact nit b u e
    · exact nit c _ z
theorem Inv.tok (I : Inv X pins σ H s) (t : Nat) : Inv X pins σ H { s with toks := t } := I.un (h' := s.heap) (t' := t) Un.refl I.hok
theorem Inv.kept {t' : Nat} (I : Inv X pins σ H s) (k : ∀ b u, s.heap.get? b = some u → h'.get? b = some u) : Inv X pins σ H { s with heap := h', toks := t' } := I.un (Un.kept k) (I.hok.kept k)
theorem Inv.laid {a : Addr} {o : HO} {t' : Nat} (I : Inv X pins σ H s) (k : ∀ b u, s.heap.get? b = some u → h'.get? b = some u) (hp : s.heap.objs.size ≤ a) (new : ObjOk X.prog X.w (upd H a o) h' a o) :
    Inv X pins σ (upd H a o) { s with heap := h', toks := t' } := I.un (Un.laid k hp (I.hok.fresh hp)) (I.hok.laid k hp new)
theorem Inv.write {x e : Addr} {o : HO} {t' : Nat} (I : Inv X pins σ H s) (mu : Mut (H x)) (he : e = x ∨ H e = some (.own x)) (k : ∀ b u, b ≠ e → s.heap.get? b = some u → h'.get? b = some u) (heo : ∃ u, h'.get? e = some u)
    (new : ObjOk X.prog X.w (upd H x o) h' x o) : Inv X pins σ (upd H x o) { s with heap := h', toks := t' } := I.un (Un.write mu he k heo) (I.hok.write mu he k heo new)
theorem Inv.pins_of {pins' : List (Addr × Obj)} (I : Inv X pins σ H s) (h : ∀ p ∈ pins', s.heap.get? p.1 = some p.2 ∧ H p.1 = none ∧ p.1 ≠ X.env.locals ∧ p.1 ∉ X.fs ∧ ∀ v, p.2.data ≠ .cell v) : Inv X pins' σ H s :=
  ⟨I.ok, I.os, I.bare, I.base, I.loc, I.cell, I.free, I.freeC, fun p hp => (List.mem_append.mp hp).elim (fun z => I.pin p (List.mem_append_left _ z)) (h p), I.hok, I.len⟩
theorem nodup_ix {N : List Str} (hN : N.Nodup) {i j : Nat} {x : Str} (a : N[i]? = some x) (b : N[j]? = some x) : i = j := by
  obtain ⟨h1, e1⟩ := List.getElem?_eq_some_iff.mp a
  obtain ⟨h2, e2⟩ := List.getElem?_eq_some_iff.mp b
  exact (List.getElem_inj hN).mp (e1.trans e2.symm)
theorem store_ok2 {M : Model} {A : Around} {E : Value → Shared → Prop} {i : Nat} {x : Str} {v : V} {u : Value} {Q : Unit → Shared → Prop} (I : Inv X pins σ H s) (hN : X.N.Nodup) (hi : X.N[i]? = some x) (hx : Loc X.env.scope x) (r : RelV v u)
    (h : ∀ s', Inv X pins (σ.set i (some v)) H s' → (∃ a, Heap.SameBut a s.heap s'.heap ∧ (a = X.env.locals ∨ X.env.cells.lookup x = some a)) → Q () s') (hf : X.fn x = true ∨ X.env.scope.names.lookup x = some .local := by first | exact .inl rfl | exact .inr rfl | assumption) : wpAny M A (storeName X.env x u) Q E s := by
  obtain ⟨m, hn, hl⟩ := id I.loc
  have hcls : (X.env.scope.kind == .class || (X.env.scope.kind == .module && X.env.locals != X.env.globals)) = false := by rw [I.ok.kind]; rfl
  have hiσ : i < σ.length := by rw [I.len]; exact (List.getElem?_eq_some_iff.mp hi).1
  have cne := I.cne
  have tracked : ∀ {a : Addr} {h' : Heap}, (∃ o, s.heap.get? a = some o ∧ H a = none) → Heap.SameBut a s.heap h' → HOk X.prog X.w H h' := fun {a h'} ha hs b ob e => by
    obtain ⟨_, _, hfree⟩ := ha
    refine (I.hok b ob e).stay (fun c w' hc q => (hs.2 c ?_).trans q) (fun _ q => q) fun _ _ q => q
    rintro rfl
    rcases hc with rfl | hc
    · rw [hfree] at e; cases e
    · rw [hfree] at hc; cases hc
  rcases hx with hk | hk
  · refine wpAny_storeName_local hk hn (fun h' hn' hs => ?_) hcls
    obtain ⟨oL, _, _, hoL, _⟩ := id hn
    refine h _ ⟨I.ok, I.os, I.bare, ⟨fun b o e n hb hx => ?_, fun b o e n hb hx => ?_, I.base.free, fun b o e hx => ?_, I.base.tups, I.base.frzs, I.base.tbls⟩, ⟨_, hn', fun j y v' e1 e2 e3 => ?_⟩, fun y c e => ?_, I.free, I.freeC, fun p hp => ?_, tracked ⟨oL, hoL, I.free⟩ hs, by simpa using I.len⟩ ⟨_, hs, .inl rfl⟩
    · exact (hs.2 b (Nat.ne_of_lt (Nat.lt_of_lt_of_le (Heap.lt_size e) I.ok.above))).trans (I.base.keep b o e n hb hx)
    · obtain ⟨sl, e1⟩ := I.base.slot b o e n hb hx
      exact ⟨sl, (hs.2 b (Nat.ne_of_lt (Nat.lt_of_lt_of_le (Heap.lt_size e) I.ok.above))).trans e1⟩
    · obtain ⟨o', e1⟩ := I.base.there b o e hx
      exact ⟨o', (hs.2 b (Nat.ne_of_lt (Nat.lt_of_lt_of_le (Heap.lt_size e) I.ok.above))).trans e1⟩
    · by_cases hj : j = i
      · subst hj
        rw [hi] at e1; cases e1
        rw [List.getElem?_set_self hiσ] at e2
        cases e2
        exact ⟨u, r, .inl ⟨hk, by simp⟩⟩
      · rw [List.getElem?_set_ne (Ne.symm hj)] at e2
        obtain ⟨u', r', q⟩ := hl j y v' e1 e2 e3
        refine ⟨u', r', ?_⟩
        rcases q with ⟨k, e⟩ | ⟨k, c, e, z⟩
        · refine .inl ⟨k, ?_⟩
          have : y ≠ x := fun e => hj (nodup_ix hN e1 (e ▸ hi))
          simp [this, e]
        · exact .inr ⟨k, c, e, z.sameBut hs (cne y c e)⟩
    · obtain ⟨w', z⟩ := I.cell y c e
      exact ⟨w', z.sameBut hs (cne y c e)⟩
    · obtain ⟨e, n, ne, nf, d⟩ := I.pin p hp
      exact ⟨(hs.2 p.1 ne).trans e, n, ne, nf, d⟩
  · have hfn : X.fn x = true := by
      rcases hf with z | z
      · exact z
      · rw [z] at hk; cases hk
    obtain ⟨c, hc⟩ := I.ok.has x (.inl hk)
    obtain ⟨w', z⟩ := I.cell x c hc
    refine wpAny_storeName_cell I.ok.kind hk hc z (fun h' hc' hs => ?_)
    obtain ⟨oc, hoc, hocd⟩ := id z
    refine h { s with heap := h' } ⟨I.ok, I.os, I.bare, ⟨fun b o e n hb hx => ?_, fun b o e n hb hx => ?_, I.base.free, fun b o e hx => ?_, I.base.tups, I.base.frzs, I.base.tbls⟩, ⟨m, hn.sameBut hs (Ne.symm (cne x c hc)), fun j y v' e1 e2 e3 => ?_⟩, fun y c' e => ?_, I.free, I.freeC, fun p hp => ?_, tracked ⟨oc, hoc, I.freeC x c hc⟩ hs, by simpa using I.len⟩ ⟨c, hs, .inr hc⟩
    · exact (hs.2 b (Nat.ne_of_lt (Nat.lt_of_lt_of_le (Heap.lt_size e) (I.ok.cab x c hfn hc)))).trans (I.base.keep b o e n hb hx)
    · obtain ⟨sl, e1⟩ := I.base.slot b o e n hb hx
      exact ⟨sl, (hs.2 b (Nat.ne_of_lt (Nat.lt_of_lt_of_le (Heap.lt_size e) (I.ok.cab x c hfn hc)))).trans e1⟩
    · obtain ⟨o', e1⟩ := I.base.there b o e hx
      exact ⟨o', (hs.2 b (Nat.ne_of_lt (Nat.lt_of_lt_of_le (Heap.lt_size e) (I.ok.cab x c hfn hc)))).trans e1⟩
    · by_cases hj : j = i
      · subst hj
        rw [hi] at e1; cases e1
        rw [List.getElem?_set_self hiσ] at e2
        cases e2
        exact ⟨u, r, .inr ⟨.inl hk, c, hc, hc'⟩⟩
      · rw [List.getElem?_set_ne (Ne.symm hj)] at e2
        obtain ⟨u', r', q⟩ := hl j y v' e1 e2 e3
        refine ⟨u', r', ?_⟩
        rcases q with q | ⟨k, c', e, z'⟩
        · exact .inl q
        · refine .inr ⟨k, c', e, z'.sameBut hs ?_⟩
          rintro rfl
          exact hj (nodup_ix hN e1 (I.ok.inj _ _ _ e hc ▸ hi))
    · by_cases hcc : c' = c
      · subst hcc; exact ⟨_, hc'⟩
      · obtain ⟨w2, z2⟩ := I.cell y c' e
        exact ⟨w2, z2.sameBut hs hcc⟩
    · obtain ⟨e, n, ne, nf, d⟩ := I.pin p hp
      refine ⟨(hs.2 p.1 ?_).trans e, n, ne, nf, d⟩
      intro q
      rw [q, hoc] at e
      have q' : oc = p.2 := Option.some.inj e
      exact d w' (by rw [← q']; exact hocd)
theorem store_ok {M : Model} {A : Around} {E : Value → Shared → Prop} {i : Nat} {x : Str} {v : V} {u : Value} {Q : Unit → Shared → Prop} (I : Inv X pins σ H s) (hN : X.N.Nodup) (hi : X.N[i]? = some x) (hx : Loc X.env.scope x) (r : RelV v u)
    (h : ∀ s', Inv X pins (σ.set i (some v)) H s' → Q () s') (hf : X.fn x = true ∨ X.env.scope.names.lookup x = some .local := by first | exact .inl rfl | exact .inr rfl | assumption) : wpAny M A (storeName X.env x u) Q E s :=
  store_ok2 I hN hi hx r (fun s' I' _ => h s' I') hf
theorem Inv.call' {s' : Shared} {ch : List Addr} (I : Inv X pins σ H s) (ho : s'.os = s.os) (u : Un (frs X.stack) ch H H' s.heap s'.heap) (hok : HOk X.prog X.w H' s'.heap) (hg : AllBare s'.gens)
    (hch : ∀ b ∈ ch, (b ∈ X.ex ∨ X.s₀.heap.objs.size ≤ b) ∧ b ≠ X.env.locals ∧ (∀ x c, X.env.cells.lookup x = some c → c ≠ b) ∧ ∀ p ∈ X.pn ++ pins, p.1 ≠ b) : Inv X pins σ H' s' := by
  obtain ⟨h', g', d', t', o'⟩ := s'
  have e : o' = s.os := ho
  subst e
  exact I.call (g' := g') (t' := t') (d' := d') u hok hg hch
end
abbrev XK := Value → Option Addr → Hp → Prop
abbrev St := List (Option V)
abbrev VK := V → Hp → Prop
abbrev TE := St → Hp → VK → Prop
abbrev TT := St → Hp → (Bool → Hp → Prop) → Prop
abbrev TA := St → Hp → (List V → Hp → Prop) → Prop
structure Ends where
  nx : St → Hp → Prop
  rt : VK
  bk : St → Hp → Prop := fun _ _ => False
  ct : St → Hp → Prop := fun _ _ => False
abbrev TS := Ends → St → Hp → Prop
def EP (X : Cx) (pins : List (Addr × Obj)) (σ : St) (Q : VK) (u : Value) (s' : Shared) : Prop := ∃ v H', Inv X pins σ H' s' ∧ RelV v u ∧ Q v H'
def TP (X : Cx) (pins : List (Addr × Obj)) (σ : St) (Q : Bool → Hp → Prop) (b : Bool) (s' : Shared) : Prop := ∃ H', Inv X pins σ H' s' ∧ Q b H'
def AP (X : Cx) (pins : List (Addr × Obj)) (σ : St) (Q : List V → Hp → Prop) (us : List Value) (s' : Shared) : Prop := ∃ vs H', Inv X pins σ H' s' ∧ Vals vs us ∧ Q vs H'
def SP (X : Cx) (pins : List (Addr × Obj)) (D : Ends) (f : Flow) (s' : Shared) : Prop :=
  match f with
  | .next => ∃ σ' H', Inv X pins σ' H' s' ∧ D.nx σ' H'
  | .brk => ∃ σ' H', Inv X pins σ' H' s' ∧ D.bk σ' H'
  | .cont => ∃ σ' H', Inv X pins σ' H' s' ∧ D.ct σ' H'
  | .ret u => ∃ v σ' H', Inv X pins σ' H' s' ∧ RelV v u ∧ D.rt v H'
def PE (X : Cx) (e : Expr) (t : TE) : Prop :=
  ∀ (pins : List (Addr × Obj)) (s : Shared) (σ : St) (H : Hp) (Q : VK), Inv X pins σ H s → t σ H Q → wpAny (model X.prog X.w) X.A (eval e X.env) (EP X pins σ Q) X.xe s
def PT (X : Cx) (e : Expr) (t : TT) : Prop :=
  ∀ (pins : List (Addr × Obj)) (s : Shared) (σ : St) (H : Hp) (Q : Bool → Hp → Prop), Inv X pins σ H s → t σ H Q → wpAny (model X.prog X.w) X.A (isTrue e X.env (eval e X.env)) (TP X pins σ Q) X.xe s
def PW (X : Cx) (e : Expr) (t : TT) : Prop :=
  ∀ (whole : Sem Value) (pins : List (Addr × Obj)) (s : Shared) (σ : St) (H : Hp) (Q : Bool → Hp → Prop), Inv X pins σ H s → t σ H Q → wpAny (model X.prog X.w) X.A (isTrue e X.env whole) (TP X pins σ Q) X.xe s
theorem PW.pt {X : Cx} {e : Expr} {t : TT} (h : PW X e t) : PT X e t := h _
def PA (X : Cx) (es : List Expr) (t : TA) : Prop :=
  ∀ (pos : Pos) (pins : List (Addr × Obj)) (s : Shared) (σ : St) (H : Hp) (Q : List V → Hp → Prop), Inv X pins σ H s → t σ H Q → wpAny (model X.prog X.w) X.A (spliced (backTo pos (starEach es X.env))) (AP X pins σ Q) X.xe s
def PS (X : Cx) (st : Stmt) (t : TS) : Prop :=
  ∀ (pins : List (Addr × Obj)) (s : Shared) (σ : St) (H : Hp) (D : Ends), Inv X pins σ H s → t D σ H → wpAny (model X.prog X.w) X.A (exec st X.env) (SP X pins D) X.xe s
def PSs (X : Cx) (st : List Stmt) (t : TS) : Prop :=
  ∀ (pins : List (Addr × Obj)) (s : Shared) (σ : St) (H : Hp) (D : Ends), Inv X pins σ H s → t D σ H → wpAny (model X.prog X.w) X.A (execs st X.env) (SP X pins D) X.xe s
theorem thn {α : Type} {t : Sem α} {Q Q' : α → Shared → Prop} {M : Model} {A : Around} {E : Value → Shared → Prop} {s : Shared} (h : wpAny M A t Q E s) (hQ : ∀ a s, Q a s → Q' a s) : wpAny M A t Q' E s := wpAny_mono h hQ fun _ _ x => x
end L2
namespace L2
open PySem PySem.Spec PyProof.Rows
section
variable {X : Cx}
def tVar (i : Nat) : TE := fun σ H Q => ∃ v, σ[i]? = some (some v) ∧ Q v H
def tC (v : V) : TE := fun _ H Q => Q v H
theorem pe_var {i : Nat} {x : Str} {pos : Pos} (hN : X.N[i]? = some x) (hv : Vis X.env.scope x) (hd : (x == ("__debug__" : Str)) = false := by decide) (hcd : (x == ("__classdict__" : Str)) = false := by decide) : PE X (.Name x pos) (tVar i) := by
  intro pins s σ H Q I h
  obtain ⟨v, e, h⟩ := h
  obtain ⟨m, hn, hl⟩ := I.loc
  obtain ⟨u, r, l⟩ := hl i x v hN e hv
  have fin : EP X pins σ Q u s := ⟨v, H, I, r, h⟩
  rcases l with ⟨hk, hm⟩ | ⟨hk, c, hc, hcell⟩
  · exact wpAny_Name (wpAny_loadName_local I.ok.kind hk hn hm fin) hd
  · rcases hk with hk | hk
    · exact wpAny_Name (wpAny_loadName_cell I.ok.kind hk hc hcell fin) hd
    · exact wpAny_Name (wpAny_loadName_free I.ok.kind hk hc hcell fin hcd) hd
theorem pe_int {i j pos} : PE X (.Constant (.int i) j pos) (tC (.int i)) := fun _ _ _ H _ I h => wpAny_Constant_int ⟨.int i, H, I.tok _, ⟨_, rfl⟩, h⟩
theorem pe_bl {b j pos} : PE X (.Constant (.bool b) j pos) (tC (.bl b)) := fun _ _ _ H _ I h => Constant_bool ⟨.bl b, H, I, rfl, h⟩
theorem pe_non {j pos} : PE X (.Constant .none j pos) (tC .non) := fun _ _ _ H _ I h => Constant_none ⟨.non, H, I, rfl, h⟩
theorem pe_str {x j pos} : PE X (.Constant (.str x) j pos) (tC (.str x)) := fun _ _ _ H _ I h => Calls.Constant_str ⟨.str x, H, I.tok _, ⟨_, rfl⟩, h⟩
def Gl (X : Cx) (x : Str) : Prop := X.env.kindOf x = some .globalImplicit
theorem ld_glob {E : Value → Shared → Prop} {pins : List (Addr × Obj)} {s : Shared} {σ : St} {H : Hp} {x : Str} {u : Value} {pos : Pos} {Q : Value → Shared → Prop} (I : Inv X pins σ H s) (hg : Gl X x) (hm : X.mg x = some u) (h : Q u s)
    (hd : (x == ("__debug__" : Str)) = false := by decide) : wpAny (model X.prog X.w) X.A (eval (.Name x pos) X.env) Q E s :=
  Calls.Name_function_global I.ok.kind hg (Calls.loadGlobal_global (by rw [I.ok.glob]; exact I.mod.glob.keeps I.bk) hm h) hd
theorem ld_blt {E : Value → Shared → Prop} {pins : List (Addr × Obj)} {s : Shared} {σ : St} {H : Hp} {x : Str} {u : Value} {pos : Pos} {Q : Value → Shared → Prop} (I : Inv X pins σ H s) (hg : Gl X x) (hm : X.mg x = none) (hv : bootBuiltins x = some u) (h : Q u s)
    (hn : x ≠ "__name__" := by decide) (hd : (x == ("__debug__" : Str)) = false := by decide) : wpAny (model X.prog X.w) X.A (eval (.Name x pos) X.env) Q E s := by
  obtain ⟨mb, h1, h2⟩ := I.mod.blt
  exact Calls.Name_function_global I.ok.kind hg (Calls.loadGlobal_builtin (by rw [I.ok.glob]; exact I.mod.glob.keeps I.bk) hm (by rw [I.ok.blt]; exact h1.keeps I.bk) ((h2 x hn).trans hv) h) hd
theorem pe_glob {x : Str} {v : V} {u : Value} {pos : Pos} (hg : Gl X x) (hm : X.mg x = some u) (r : RelV v u) (hd : (x == ("__debug__" : Str)) = false := by decide) : PE X (.Name x pos) (tC v) :=
  fun _ _ _ H _ I h => ld_glob I hg hm ⟨v, H, I, r, h⟩ hd
theorem pe_bltn {x : Str} {v : V} {u : Value} {pos : Pos} (hg : Gl X x) (hm : X.mg x = none) (hv : bootBuiltins x = some u) (r : RelV v u) (hn : x ≠ "__name__" := by decide) (hd : (x == ("__debug__" : Str)) = false := by decide) : PE X (.Name x pos) (tC v) :=
  fun _ _ _ H _ I h => ld_blt I hg hm hv ⟨v, H, I, r, h⟩ hn hd
variable {a b : Expr} {ta tb : TE} {pos : Pos}
def tB (t : TE) : TT := fun σ H Q => t σ H fun x H1 => ∃ c, x = .bl c ∧ Q c H1
theorem pt_val {e : Expr} {t : TE} (h : PE X e t) (he : ∀ whole, isTrue e X.env whole = (do let v ← whole; standAt e.pos; holding [v] (truthy v)) := by intro _; rfl) : PT X e (tB t) := by
  intro pins s σ H Q I hw
  refine isTrue_plain (thn (h pins s σ H _ I hw) fun v s1 ⟨x, H1, I1, r1, q1⟩ => ?_) (he _)
  obtain ⟨d, rfl, q⟩ := q1
  cases r1
  exact wpAny_truthy_bool ⟨H1, I1, q⟩
variable {tA tB' : TT} {rest : List Expr}
def tAnd (t u : TT) : TT := fun σ H Q => t σ H fun c H1 => if c = true then u σ H1 Q else Q false H1
def tOr (t u : TT) : TT := fun σ H Q => t σ H fun c H1 => if c = true then Q true H1 else u σ H1 Q
def tNot (t : TT) : TT := fun σ H Q => t σ H fun c H1 => Q (!c) H1
theorem pw_and1 (ha : PT X a tA) : PW X (.BoolOp .And [a] pos) tA := by
  intro wh pins s σ H Q I h
  refine isTrue_and (thn (ha pins s σ H Q I h) fun c s1 e => ?_)
  cases c with
  | true => exact isTrue_and_nil e
  | false => exact e
theorem pw_or1 (ha : PT X a tA) : PW X (.BoolOp .Or [a] pos) tA := by
  intro wh pins s σ H Q I h
  refine isTrue_or (thn (ha pins s σ H Q I h) fun c s1 e => ?_)
  cases c with
  | false => exact isTrue_or_nil e
  | true => exact e
theorem pw_and (ha : PT X a tA) (hb : PW X (.BoolOp .And (b :: rest) pos) tB') : PW X (.BoolOp .And (a :: b :: rest) pos) (tAnd tA tB') := by
  intro wh pins s σ H Q I h
  refine isTrue_and (thn (ha pins s σ H _ I h) fun c s1 ⟨H1, I1, q1⟩ => ?_)
  cases c with
  | true => exact hb wh pins s1 σ H1 Q I1 q1
  | false => exact ⟨H1, I1, q1⟩
theorem pw_or (ha : PT X a tA) (hb : PW X (.BoolOp .Or (b :: rest) pos) tB') : PW X (.BoolOp .Or (a :: b :: rest) pos) (tOr tA tB') := by
  intro wh pins s σ H Q I h
  refine isTrue_or (thn (ha pins s σ H _ I h) fun c s1 ⟨H1, I1, q1⟩ => ?_)
  cases c with
  | true => exact ⟨H1, I1, q1⟩
  | false => exact hb wh pins s1 σ H1 Q I1 q1
theorem pt_not (ha : PT X a tA) : PT X (.UnaryOp .Not a pos) (tNot tA) := by
  intro pins s σ H Q I h
  exact isTrue_not (ha pins s σ H (fun c H1 => Q (!c) H1) I h)
def tAndV (ta tb : TE) : TE := fun σ H Q => ta σ H fun x H1 => ∃ c, x = .bl c ∧ if c = true then tb σ H1 Q else Q (.bl false) H1
def tNotV (ta : TE) : TE := fun σ H Q => ta σ H fun x H1 => ∃ c, x = .bl c ∧ Q (.bl (!c)) H1
theorem pe_one {op} {t : TE} (h : PE X a t) : PE X (.BoolOp op [a] pos) t := fun pins s σ H Q I hw => BoolOp_one (h pins s σ H Q I hw)
theorem pe_and (ha : PE X a ta) (hb : PE X (.BoolOp .And (b :: rest) pos) tb) : PE X (.BoolOp .And (a :: b :: rest) pos) (tAndV ta tb) := by
  intro pins s σ H Q I h
  refine BoolOp_and (thn (ha pins s σ H _ I h) fun v s1 ⟨x, H1, I1, r1, q1⟩ => ?_)
  obtain ⟨c, rfl, q1⟩ := q1
  cases r1
  refine wpAny_truthy_bool ?_
  cases c with
  | true => exact hb pins s1 σ H1 Q I1 q1
  | false => exact ⟨.bl false, H1, I1, rfl, q1⟩
theorem pe_not (ha : PE X a ta) : PE X (.UnaryOp .Not a pos) (tNotV ta) := by
  intro pins s σ H Q I h
  refine UnaryOp_ (thn (ha pins s σ H _ I h) fun v s1 ⟨x, H1, I1, r1, q1⟩ => ?_)
  obtain ⟨c, rfl, q1⟩ := q1
  cases r1
  exact not_of (wpAny_truthy_bool ⟨.bl (!c), H1, I1, rfl, q1⟩)
end
end L2
namespace L2
open PySem PySem.Spec PyProof.Rows
def SqL (K : PySem.W.Frag) (H : Hp) (a : Addr) (xs : List V) : Prop :=
  Rd H a (.lst xs) ∨
    ∃ (o : Obj) (its : Array Value) (n : Nat), K.lookup a = some o ∧ o.cls = .type "list" ∧ o.dict = none ∧ o.data = .seq its n ∧ its.size ≤ sizeLine ∧ Vals xs its.toList
def SqT (K : PySem.W.Frag) (H : Hp) (a : Addr) (xs : List V) : Prop :=
  Rd H a (.tup xs) ∨
    ∃ (o : Obj) (its : Array Value) (n : Nat), K.lookup a = some o ∧ o.cls = .type "tuple" ∧ o.data = .seq its n ∧ its.size ≤ sizeLine ∧ Vals xs its.toList
def absV : Value → Option V
  | .none => some .non
  | .bool b => some (.bl b)
  | .int i _ => some (.int i)
  | .str x _ => some (.str x)
  | .bytes b _ => some (.byt b)
  | .float b _ => some (.flt b)
  | .ref a => some (.ref a)
  | .type n => some (.ty n)
  | _ => none
theorem RelV.abs {x : V} {u : Value} (r : RelV x u) : absV u = some x := by
  cases x with
  | non => cases r; rfl
  | bl _ => cases r; rfl
  | int _ => obtain ⟨t, rfl⟩ := r; rfl
  | str _ => obtain ⟨t, rfl⟩ := r; rfl
  | byt _ => obtain ⟨t, rfl⟩ := r; rfl
  | flt _ => obtain ⟨t, rfl⟩ := r; rfl
  | ref _ => cases r; rfl
  | ty _ => cases r; rfl
theorem RelV.inj {x y : V} {u : Value} (r : RelV x u) (q : RelV y u) : x = y := Option.some.inj (r.abs.symm.trans q.abs)
theorem Vals.inj : ∀ {xs ys : List V} {us : List Value}, Vals xs us → Vals ys us → xs = ys
  | _, _, _, .nil, .nil => rfl
  | _, _, _, .cons r t, .cons r' t' => by rw [r.inj r', Vals.inj t t']
section
variable {X : Cx} {pins : List (Addr × Obj)} {σ : St} {H : Hp} {s : Shared} {a : Addr} {xs ys : List V}
theorem SqL.of {K : PySem.W.Frag} (h : H a = some (.lst xs)) : SqL K H a xs := .inl (.inl h)
theorem Inv.list (I : Inv X pins σ H s) (h : SqL X.K H a xs) : ∃ its : List Value, Vals xs its ∧ PlainL s.heap a its.toArray ∧ xs.length ≤ sizeLine := by
  rcases h with h | ⟨o, its, n, hk, hc, hd, hs, hz, r⟩
  · obtain ⟨z, its, n, r, e⟩ := h.ok I.hok
    exact ⟨its, r, ⟨_, n, e, rfl, rfl, rfl⟩, z⟩
  · refine ⟨its.toList, r, ⟨o, n, I.kIn a o hk, hc, hd, by simpa using hs⟩, ?_⟩
    have e := r.length
    simp only [Array.length_toList] at e
    omega
theorem Inv.tuple (I : Inv X pins σ H s) (h : SqT X.K H a xs) : ∃ its : List Value, Vals xs its ∧ IsTup s.heap a its.toArray ∧ xs.length ≤ sizeLine := by
  rcases h with h | ⟨o, its, n, hk, hc, hs, hz, r⟩
  · obtain ⟨z, its, r, p⟩ := h.ok I.hok
    exact ⟨its, r, p, z⟩
  · refine ⟨its.toList, r, ⟨o, I.kIn a o hk, hc, n, by simpa using hs⟩, ?_⟩
    have e := r.length
    simp only [Array.length_toList] at e
    omega
theorem Inv.list_inj (I : Inv X pins σ H s) (h : SqL X.K H a xs) (h' : SqL X.K H a ys) : xs = ys := by
  obtain ⟨its, r, ⟨o, n, e, _, _, d⟩, _⟩ := I.list h
  obtain ⟨its', r', ⟨o', n', e', _, _, d'⟩, _⟩ := I.list h'
  rw [e] at e'; cases e'
  rw [d] at d'
  injection d' with d1 _
  have : its = its' := by simpa using congrArg Array.toList d1
  subst this
  exact r.inj r'
end
abbrev Cx.wish (X : Cx) (E : Value → Shared → Prop) : Cx := { X with xe := E }
abbrev Cx.nox (X : Cx) : Cx := X.wish fun _ _ => False
theorem Cx.Ok.wish {X : Cx} (ok : X.Ok) (E : Value → Shared → Prop) : (X.wish E).Ok :=
  ⟨ok.mod, ok.kind, ok.glob, ok.blt, ok.above, ok.inj, ok.has, ok.cab, ok.hd, ok.frames, ok.stk, ok.exf, ok.bs, ok.bsz, ok.noex, ok.exfs, ok.funs, ok.frf⟩
theorem Cx.Ok.unwish {X : Cx} {E : Value → Shared → Prop} (ok : (X.wish E).Ok) : X.Ok :=
  ⟨ok.mod, ok.kind, ok.glob, ok.blt, ok.above, ok.inj, ok.has, ok.cab, ok.hd, ok.frames, ok.stk, ok.exf, ok.bs, ok.bsz, ok.noex, ok.exfs, ok.funs, ok.frf⟩
section
variable {X : Cx} {pins : List (Addr × Obj)} {σ : St} {H : Hp} {s : Shared} {E : Value → Shared → Prop}
theorem Inv.wish (I : Inv X pins σ H s) (E : Value → Shared → Prop) : Inv (X.wish E) pins σ H s := ⟨I.ok.wish E, I.os, I.bare, I.base, I.loc, I.cell, I.free, I.freeC, I.pin, I.hok, I.len⟩
theorem Inv.unwish (I : Inv (X.wish E) pins σ H s) : Inv X pins σ H s := ⟨I.ok.unwish, I.os, I.bare, I.base, I.loc, I.cell, I.free, I.freeC, I.pin, I.hok, I.len⟩
theorem SP.unwish {D : Ends} {f : Flow} {s' : Shared} (h : SP (X.wish E) pins D f s') : SP X pins D f s' := by
  cases f with
  | next => obtain ⟨σ', H', I, q⟩ := h; exact ⟨σ', H', I.unwish, q⟩
  | brk => obtain ⟨σ', H', I, q⟩ := h; exact ⟨σ', H', I.unwish, q⟩
  | cont => obtain ⟨σ', H', I, q⟩ := h; exact ⟨σ', H', I.unwish, q⟩
  | ret u => obtain ⟨v, σ', H', I, r, q⟩ := h; exact ⟨v, σ', H', I.unwish, r, q⟩
theorem PSs.nox {st : List Stmt} {t : TS} (h : PSs X.nox st t) : PSs X st t := fun pins s σ H D I hw =>
  wpAny_mono (h pins s σ H D (I.wish _) hw) (fun _ _ q => q.unwish) fun _ _ z => False.elim z
end
section
variable {X : Cx} {st : Stmt} {rest : List Stmt} {t u : TS} {e : Expr} {te : TE} {pos : Pos}
def tNext : TS := fun D σ H => D.nx σ H
def tSeq (t u : TS) : TS := fun D σ H => t { D with nx := u D } σ H
theorem pss_nil : PSs X [] tNext := fun _ _ σ H _ I h => wpAny_execs_nil ⟨σ, H, I, h⟩
theorem pss_cons (h1 : PS X st t) (h2 : PSs X rest u) : PSs X (st :: rest) (tSeq t u) := by
  intro pins s σ H D I h
  refine wpAny_execs_cons (thn (h1 pins s σ H { D with nx := u D } I h) fun f s1 q => ?_)
  cases f with
  | next =>
    obtain ⟨σ', H', I', q⟩ := q
    exact h2 pins s1 σ' H' D I' q
  | ret v => exact q
  | brk => exact q
  | cont => exact q
theorem pss_one (h1 : PS X st t) : PSs X [st] t := by
  intro pins s σ H D I h
  refine wpAny_execs_cons (thn (h1 pins s σ H D I h) fun f s1 q => ?_)
  cases f with
  | next => exact wpAny_execs_nil q
  | ret v => exact q
  | brk => exact q
  | cont => exact q
theorem Inv.quiet {pins : List (Addr × Obj)} {σ : St} {H : Hp} {s : Shared} (I : Inv X pins σ H s) : interactive X.env = false := by simp [interactive, I.ok.kind]
def tDrop (te : TE) : TS := fun D σ H => te σ H fun _ H1 => D.nx σ H1
theorem ps_expr (he : PE X e te) (hs : swapsWith e none pos.line X.env = pure false := by rfl) : PS X (.Expr e pos) (tDrop te) := by
  intro pins s σ H D I h
  exact wpAny_Expr_any (thn (he pins s σ H _ I h) fun v s1 ⟨x, H1, I1, r1, q1⟩ => ⟨σ, H1, I1, q1⟩) I.quiet hs
def tRet (te : TE) : TS := fun D σ H => te σ H D.rt
theorem ps_ret (he : PE X e te) : PS X (.Return (some e) pos) (tRet te) := by
  intro pins s σ H D I h
  exact wpAny_Return_some (thn (he pins s σ H _ I h) fun v s1 ⟨x, H1, I1, r1, q1⟩ => ⟨x, σ, H1, I1, r1, q1⟩)
def tIfS (c : TT) (t u : TS) : TS := fun D σ H => c σ H fun b H1 => if b = true then t D σ H1 else u D σ H1
theorem ps_if {c : Expr} {a b : List Stmt} {tc : TT} (hc : PT X c tc) (ha : PSs X a t) (hb : PSs X b u) : PS X (.If c a b pos) (tIfS tc t u) := by
  intro pins s σ H D I h
  refine wpAny_If (thn (hc pins s σ H _ I h) fun d s1 ⟨H1, I1, q1⟩ => ?_)
  cases d with
  | true => exact ha pins s1 σ H1 D I1 q1
  | false => exact hb pins s1 σ H1 D I1 q1
end
abbrev TG := V → St → Hp → (St → Hp → Prop) → Prop
def PG (X : Cx) (target : Expr) (t : TG) : Prop :=
  ∀ (pins : List (Addr × Obj)) (s : Shared) (σ : St) (H : Hp) (v : V) (u : Value) (Q : St → Hp → Prop), Inv X pins σ H s → RelV v u → t v σ H Q →
    wpAny (model X.prog X.w) X.A (assign target X.env u) (fun _ s' => ∃ σ' H', Inv X pins σ' H' s' ∧ Q σ' H') X.xe s
abbrev TSet := V → V → V → Hp → (Hp → Prop) → Prop
def PSet (X : Cx) (t : TSet) : Prop :=
  ∀ (pins : List (Addr × Obj)) (s : Shared) (σ : St) (H : Hp) (o i v : V) (ov iv u : Value) (Q : Hp → Prop), Inv X pins σ H s → RelV o ov → RelV i iv → RelV v u → t o i v H Q →
    wpAny (model X.prog X.w) X.A (setItem ov iv u) (fun _ s' => ∃ H', Inv X pins σ H' s' ∧ Q H') X.xe s
section
variable {X : Cx} {pos : Pos}
def gName (i : Nat) : TG := fun v σ H Q => Q (σ.set i (some v)) H
theorem pg_name {i : Nat} {x : Str} (hN : X.N.Nodup) (hi : X.N[i]? = some x) (hx : Loc X.env.scope x) (hf : X.fn x = true ∨ X.env.scope.names.lookup x = some .local := by first | exact .inl rfl | exact .inr rfl | assumption) : PG X (.Name x pos) (gName i) := by
  intro pins s σ H v u Q I r h
  exact wpAny_assign_Name (store_ok I hN hi hx r (fun s' I' => ⟨_, H, I', h⟩) hf)
def gSub (to ti : TE) (t : TSet) : TG := fun v σ H Q => to σ H fun o H1 => ti σ H1 fun i H2 => t o i v H2 fun H3 => Q σ H3
theorem pg_sub {o i : Expr} {to ti : TE} {t : TSet} (ho : PE X o to) (hi : PE X i ti) (hs : PSet X t)
    (ha : ∀ v, assign (.Subscript o i pos) X.env v = (do
      let ov ← holding [v] (eval o X.env)
      let iv ← holding [v, ov] (eval i X.env)
      standAt pos
      holding [v, ov, iv] (setItem ov iv v)
      release [v, ov, iv] []) := by intro _; rfl) : PG X (.Subscript o i pos) (gSub to ti t) := by
  intro pins s σ H v u Q I r h
  rw [ha]
  refine wpAny_bind (wpAny_holding (thn (ho pins s σ H _ I h) fun ov s1 ⟨x, H1, I1, r1, q1⟩ => ?_))
  refine wpAny_bind (wpAny_holding (thn (hi pins s1 σ H1 _ I1 q1) fun iv s2 ⟨y, H2, I2, r2, q2⟩ => ?_))
  refine wpAny_bind (wpAny_standAt (wpAny_bind (wpAny_holding (thn (hs pins s2 σ H2 x y v ov iv u _ I2 r1 r2 r q2) fun _ s3 ⟨H3, I3, q3⟩ => ?_))))
  exact wpAny_release ⟨σ, H3, I3, q3⟩
def tAsg (te : TE) (g : TG) : TS := fun D σ H => te σ H fun x H1 => g x σ H1 D.nx
theorem ps_asg {tg e : Expr} {te : TE} {g : TG} (he : PE X e te) (hg : PG X tg g) (hs : swapsWithSole [tg] e pos.line X.env = pure false := by rfl) (hw : swappedStores [tg] e X.env = pure none := by rfl)
    (h1 : (assignEach [tg] X.env).map (·.2) = [assign tg X.env] := by rfl) : PS X (.Assign [tg] e pos) (tAsg te g) := by
  intro pins s σ H D I h
  refine wpAny_Assign_stores (thn (he pins s σ H _ I h) fun v s1 ⟨x, H1, I1, r1, q1⟩ => ?_) hs hw
  rw [h1]
  exact thn (hg pins s1 σ H1 x v _ I1 r1 q1) fun _ s2 q => q
theorem ps_set {i : Nat} {x : Str} {e : Expr} {te : TE} {pos' : Pos} (hN : X.N.Nodup) (hi : X.N[i]? = some x) (hx : Loc X.env.scope x) (he : PE X e te) (hs : swapsWith e (some (.Name x pos')) pos.line X.env = pure false := by rfl) (hf : X.fn x = true ∨ X.env.scope.names.lookup x = some .local := by first | exact .inl rfl | exact .inr rfl | assumption) :
    PS X (.Assign [.Name x pos'] e pos) (tAsg te (gName i)) := by
  intro pins s σ H D I h
  refine wpAny_Assign_Name (thn (he pins s σ H _ I h) fun v s1 ⟨y, H1, I1, r1, q1⟩ => ?_) hs
  exact store_ok I1 hN hi hx r1 (fun s2 I2 => ⟨_, H1, I2, q1⟩) hf
end
section
variable {X : Cx} {pos : Pos}
end
structure It where
  go : Nat → Hp → Prop
  yld : Nat → Hp → V → Hp → Prop
  stop : Nat → Hp → Prop
def FpOk (X : Cx) (pins : List (Addr × Obj)) (H : Hp) (b : Addr) : Prop :=
  H b = none ∧ b ≠ X.env.locals ∧ b ∉ X.fs ∧ (b ∈ X.ex ∨ X.s₀.heap.objs.size ≤ b) ∧ (∀ x c, X.env.cells.lookup x = some c → c ≠ b) ∧ ∀ p ∈ X.pn ++ pins, p.1 ≠ b
theorem Inv.fpOk {X : Cx} {pins : List (Addr × Obj)} {σ : St} {H H' : Hp} {s : Shared} {b : Addr} (I : Inv X pins σ H s) (hb : s.heap.objs.size ≤ b) (hn : H' b = none) : FpOk X pins H' b := by
  refine ⟨hn, Nat.ne_of_gt (Nat.lt_of_lt_of_le I.lt hb), I.nofs hb, .inr (Nat.le_trans I.sz hb), fun x c e z => ?_, fun p hp z => ?_⟩
  · obtain ⟨v, q⟩ := I.cell x c e
    exact absurd (Nat.lt_of_lt_of_le q.lt (by rw [z]; exact hb)) (Nat.lt_irrefl _)
  · exact absurd (Nat.lt_of_lt_of_le (Heap.lt_size (I.pin p hp).1) (by rw [z]; exact hb)) (Nat.lt_irrefl _)
structure Turn (P : Program) (w : World) (K : PySem.W.Frag) (tg : Expr) (J : It) (fp : List Addr) (it : Addr) (tn : Nat → Heap → Prop) : Prop where
  mem : it ∈ fp
  obj : ∀ i h, tn i h → ∀ b ∈ fp, ∃ o, h.get? b = some o ∧ ∀ v, o.data ≠ .cell v
  keep : ∀ i h h', tn i h → (∀ b ∈ fp, ∀ o, h.get? b = some o → h'.get? b = some o) → tn i h'
  item : ∀ (X : Cx), X.prog = P → X.w = w → X.K = K → X.calm = true → ∀ (i : Nat) (pins : List (Addr × Obj)) (s : Shared) (σ : St) (H : Hp) (E : Value → Shared → Prop), Inv X pins σ H s → (∀ b ∈ fp, FpOk X pins H b) → tn i s.heap → J.go i H →
    wpAny (model P w) X.A (pyNext (.ref it)) (fun r s1 => ∃ u, r = some u ∧
      wpAny (model P w) X.A (letOwnedTupleGo tg (.ref it) u) (fun _ s2 => ∃ x H', Inv X pins σ H' s2 ∧ RelV x u ∧ J.yld i H x H' ∧ tn (i + 1) s2.heap ∧ ∀ b ∈ fp, H' b = none) E s1) E s
  done : ∀ (X : Cx), X.prog = P → X.w = w → X.K = K → X.calm = true → ∀ (i : Nat) (pins : List (Addr × Obj)) (s : Shared) (σ : St) (H : Hp) (E : Value → Shared → Prop), Inv X pins σ H s → (∀ b ∈ fp, FpOk X pins H b) → tn i s.heap → J.stop i H →
    wpAny (model P w) X.A (pyNext (.ref it)) (fun r s1 => r = none ∧ Inv X pins σ H s1) E s
  self : ∀ (A : Around) (i : Nat) (s : Shared) (Q : Value → Shared → Prop) (E : Value → Shared → Prop), tn i s.heap → Q (.ref it) s → wpAny (model P w) A (pyIter (.ref it)) Q E s
abbrev TI := St → Hp → (It → Hp → Prop) → Prop
def PIE (X : Cx) (pins : List (Addr × Obj)) (σ : St) (tg : Expr) (R : It → Hp → Prop) (itv : Value) (s2 : Shared) : Prop :=
  ∃ (it : Addr) (fp : List Addr) (tn : Nat → Heap → Prop) (J : It) (H' : Hp), itv = .ref it ∧ Inv X pins σ H' s2 ∧ Turn X.prog X.w X.K tg J fp it tn ∧ tn 0 s2.heap ∧ (∀ b ∈ fp, FpOk X pins H' b) ∧ R J H'
def PI (X : Cx) (tg iter : Expr) (wi : TI) : Prop :=
  ∀ (pins : List (Addr × Obj)) (s : Shared) (σ : St) (H : Hp) (R : It → Hp → Prop), Inv X pins σ H s → wi σ H R →
    wpAny (model X.prog X.w) X.A (eval iter X.env) (fun v s1 => wpAny (model X.prog X.w) X.A (pyIter v) (PIE X pins σ tg R) X.xe s1) X.xe s
theorem go_of {M : Model} {A : Around} {E : Value → Shared → Prop} {s : Shared} {tg : Expr} {it : Addr} {u : Value} {o : Obj} {n : String} {vs : Array Value} {Q : Unit → Shared → Prop} (ho : s.heap.get? it = some o) (hc : o.cls = .type n) (hd : o.data = .fields vs)
    (hn : ["enumerate", "zip", "dict_itemiterator", "dict_reverseitemiterator", "odict_iterator", "itertools.zip_longest", "itertools.pairwise"].contains n = false) (hQ : Q () s) : wpAny M A (letOwnedTupleGo tg (.ref it) u) Q E s := by
  unfold letOwnedTupleGo
  cases tg <;> first
    | exact wpAny_pure hQ
    | (cases u <;> first
        | exact wpAny_pure hQ
        | (refine wpAny_bind (wpAny_load ho ?_)
           rw [hc, hd]
           show wpAny M A (if (["enumerate", "zip", "dict_itemiterator", "dict_reverseitemiterator", "odict_iterator", "itertools.zip_longest", "itertools.pairwise"].contains n && vs[0]? == some (rawInt _)) = true then _ else _) Q E s
           rw [if_neg (by intro h; rw [hn, Bool.false_and] at h; cases h)]
           exact wpAny_pure hQ))
def Itl (K : PySem.W.Frag) (a : Addr) : It :=
  ⟨fun i H => ∃ xs x, SqL K H a xs ∧ xs[i]? = some x, fun i H x H' => H' = H ∧ ∀ xs, SqL K H a xs → xs[i]? = some x, fun i H => ∃ xs, SqL K H a xs ∧ xs.length ≤ i⟩
def Itr (lo : Int) (n : Nat) : It := ⟨fun i _ => i < n, fun i H x H' => H' = H ∧ x = .int (lo + i), fun i _ => n ≤ i⟩
theorem turn_list {P : Program} {w : World} {K : PySem.W.Frag} {tg : Expr} (a it : Addr) : Turn P w K tg (Itl K a) [it] it (fun i h => h.IsListIter it a i) where
  mem := by simp
  obj := fun i h st b hb => by
    have e : b = it := by simpa using hb
    subst e
    obtain ⟨o, e, c, d⟩ := st
    exact ⟨o, e, fun v z => by rw [d] at z; cases z⟩
  keep := fun i h h' st k => st.at fun o e => k it (by simp) o e
  item := by
    intro X hP hw hK hc i pins s σ H E I hf st hg
    subst hP hw hK
    obtain ⟨xs, x, hq, hx⟩ := hg
    obtain ⟨its, rv, p, hz⟩ := I.list hq
    obtain ⟨u, hu, ru⟩ := rv.get hx
    obtain ⟨f0, f1, f2, f3, f4, f5⟩ := hf it (by simp)
    refine wpAny_pyNext_list_item st p.isList (x := u) (by simpa using hu) fun h' st' sb => ?_
    have I1 : Inv X pins σ H { s with heap := h' } := I.turned (t' := s.toks) (fun b o hb e => (sb.2 b hb).trans e) f0 f1 f3 f4 f5
    obtain ⟨o, e, c, d⟩ := id st'
    exact ⟨u, rfl, go_of (s := { s with heap := h' }) e c d (by decide) ⟨x, H, I1, ru, ⟨rfl, fun ys hy => by rw [I.list_inj hy hq]; exact hx⟩, st', fun b hb => (hf b hb).1⟩⟩
  done := by
    intro X hP hw hK hc i pins s σ H E I hf st hg
    subst hP hw hK
    obtain ⟨xs, hq, hx⟩ := hg
    obtain ⟨its, rv, p, hz⟩ := I.list hq
    obtain ⟨f0, f1, f2, f3, f4, f5⟩ := hf it (by simp)
    have hl := rv.length
    exact wpAny_pyNext_list_end (I.ok.hd hc) st p.isList (by simp; omega) fun h' eb => ⟨rfl, I.turned (t' := s.toks) (fun b o hb e => eb b o hb e) f0 f1 f3 f4 f5⟩
  self := fun _ _ _ _ _ st h => wpAny_pyIter_listiter st h
theorem turn_range {P : Program} {w : World} {K : PySem.W.Frag} {tg : Expr} (it : Addr) (lo : Int) (n : Nat) : Turn P w K tg (Itr lo n) [it] it (fun i h => IsRangeIter h it (lo + (i : Nat) * 1) ((n : Int) - (i : Nat)) 1) where
  mem := by simp
  obj := fun i h st b hb => by
    have e : b = it := by simpa using hb
    subst e
    exact ⟨_, st, fun v z => by
      have z' : Data.fields _ = Data.cell v := z
      cases z'⟩
  keep := fun i h h' st k => k it (by simp) _ st
  item := by
    intro X hP hw hK hc i pins s σ H E I hf st hg
    subst hP hw hK
    obtain ⟨f0, f1, f2, f3, f4, f5⟩ := hf it (by simp)
    have W := Walks.range (prog := X.prog) (w := X.w) (I.ok.hd hc) it lo 1 n
    refine W.item i s _ _ hg st fun v h' tk hv st' kk => ?_
    obtain ⟨t, rfl⟩ := hv
    have I1 : Inv X pins σ H { s with heap := h', toks := tk } := I.turned (fun b o hb e => kk b o (by simpa using hb) e) f0 f1 f3 f4 f5
    refine ⟨_, rfl, go_of (s := { s with heap := h', toks := tk }) (n := "range_iterator") st' rfl rfl (by decide) ⟨.int (lo + i), H, I1, ⟨t, ?_⟩, ⟨rfl, rfl⟩, st', fun b hb => (hf b hb).1⟩⟩
    rw [Int.mul_one]
  done := by
    intro X hP hw hK hc i pins s σ H E I hf st hg
    subst hP hw hK
    obtain ⟨f0, f1, f2, f3, f4, f5⟩ := hf it (by simp)
    exact wpAny_pyNext_range_end (I.ok.hd hc) st (by have : n ≤ i := hg; omega) fun h' eb => ⟨rfl, I.turned (t' := s.toks) (fun b o hb e => eb b o hb e) f0 f1 f3 f4 f5⟩
  self := fun _ _ _ _ _ st h => wpAny_pyIter_rangeiter st h
end L2
namespace L2
open PySem PySem.Spec PyProof.Rows
section
variable {X : Cx} {tg : Expr}
def iList (K : PySem.W.Frag) (tl : TE) : TI := fun σ H R => tl σ H fun x H1 => ∃ a, x = .ref a ∧ (∃ xs, SqL K H1 a xs) ∧ R (Itl K a) H1
theorem pi_list {l : Expr} {tl : TE} (hl : PE X l tl) : PI X tg l (iList X.K tl) := by
  intro pins s σ H R I h
  refine thn (hl pins s σ H _ I h) fun v s1 ⟨x, H1, I1, r1, q1⟩ => ?_
  obtain ⟨a, e, ⟨xs, hq⟩, q⟩ := q1
  subst e
  cases r1
  obtain ⟨its, rv, p, hz⟩ := I1.list hq
  refine wpAny_pyIter_list p.isList ?_
  refine ⟨s1.heap.objs.size, [s1.heap.objs.size], _, _, H1, rfl, I1.kept (t' := s1.toks) fun b o e => Heap.get?_push_of_some _ e, turn_list a _, ⟨_, Heap.get?_push_size _ rfl, rfl, rfl⟩, fun b hb => ?_, q⟩
  have e : b = s1.heap.objs.size := by simpa using hb
  subst e
  exact I1.fpOk (Nat.le_refl _) (I1.hok.fresh (Nat.le_refl _))
theorem range_it {pins : List (Addr × Obj)} {σ : St} {H : Hp} {s : Shared} {R : It → Hp → Prop} {E : Value → Shared → Prop} {lo hi : Int} {t u v : Tok} {tk : Nat} (I : Inv X pins σ H s) (h1 : -(2 ^ 62) ≤ lo) (h2 : lo < 2 ^ 62) (h3 : -(2 ^ 62) ≤ hi) (h4 : hi < 2 ^ 62)
    (q : R (Itr lo (hi - lo).toNat) H) : wpAny (model X.prog X.w) X.A (pyIter (.ref s.heap.objs.size)) (PIE X pins σ tg R) E { s with heap := s.heap.push { cls := .type "range", data := .fields #[.int lo t, .int hi u, .int 1 v] }, toks := tk } := by
  refine wpAny_pyIter_range (IsRange.new ..) (small_one h1 h2 h3 h4) ?_
  have I1 : Inv X pins σ H { s with heap := s.heap.push { cls := .type "range", data := .fields #[.int lo t, .int hi u, .int 1 v] }, toks := tk } := I.kept fun b o e => Heap.get?_push_of_some _ e
  refine ⟨(s.heap.push { cls := .type "range", data := .fields #[.int lo t, .int hi u, .int 1 v] }).objs.size, [(s.heap.push { cls := .type "range", data := .fields #[.int lo t, .int hi u, .int 1 v] }).objs.size], _, _, H, rfl,
    I1.kept (t' := tk) fun b o e => Heap.get?_push_of_some _ e, turn_range _ lo (hi - lo).toNat, ?_, fun b hb => ?_, q⟩
  · have e1 : lo + ((0 : Nat) : Int) * 1 = lo := by simp
    have e2 : (((hi - lo).toNat : Nat) : Int) - ((0 : Nat) : Int) = Builtin.Range.rangeSize lo hi 1 := by rw [rangeSize_one]; split <;> omega
    show IsRangeIter _ _ (lo + ((0 : Nat) : Int) * 1) ((((hi - lo).toNat : Nat) : Int) - ((0 : Nat) : Int)) 1
    rw [e1, e2]
    exact Heap.get?_push_size _ rfl
  · have e : b = (s.heap.push { cls := .type "range", data := .fields #[.int lo t, .int hi u, .int 1 v] }).objs.size := by simpa using hb
    subst e
    exact I1.fpOk (Nat.le_refl _) (I1.hok.fresh (Nat.le_refl _))
def iRng1 (ta : TA) : TI := fun σ H R => ta σ H fun vs H1 => ∃ j : Int, vs = [.int j] ∧ -(2 ^ 62) ≤ j ∧ j < 2 ^ 62 ∧ R (Itr 0 j.toNat) H1
theorem pi_range1 {a : Expr} {ta : TA} {p pos : Pos} (hg : Gl X "range") (hm : X.mg "range" = none) (ha : PA X [a] ta) (hs : starEach [a] X.env = [(false, eval a X.env)] := by rfl) : PI X tg (.Call (.Name "range" p) [a] [] pos) (iRng1 ta) := by
  intro pins s σ H R I h
  refine Call_ (ld_blt I hg hm boot_range (PyProof.Rows.callWith_type1 (thn (ha pos pins s σ H _ I h) fun us s1 ⟨vs, H1, I1, r1, q1⟩ => ?_) hs rfl))
  obtain ⟨j, e, q1, q2, q⟩ := q1
  subst e
  cases r1 with
  | cons r rr =>
    cases rr
    obtain ⟨t, rfl⟩ := r
    exact call_range_1 (range_it I1 (by omega) (by omega) q1 q2 (by simpa using q))
def tFor (wi : TI) (g : TG) (tb : TS) : TS := fun D σ H => wi σ H fun J H1 => ∃ W : Nat → Nat → St → Hp → Prop, (∃ m, W 0 m σ H1) ∧ ∀ i m σ H, W i m σ H →
  (J.stop i H ∧ D.nx σ H) ∨ (J.go i H ∧ ∃ N : St → Hp → Prop, (∀ σ' H', N σ' H' → ∃ m', m' < m ∧ W (i + 1) m' σ' H') ∧ ∀ x H', J.yld i H x H' → g x σ H' fun σ2 H2 => tb { D with nx := N, ct := N, bk := D.nx } σ2 H2)
def pinsAt (fp : List Addr) (h : Heap) : List (Addr × Obj) := fp.filterMap fun b => (h.get? b).map fun o => (b, o)
theorem mem_pinsAt {fp : List Addr} {h : Heap} {b : Addr} {o : Obj} (hb : b ∈ fp) (e : h.get? b = some o) : (b, o) ∈ pinsAt fp h := List.mem_filterMap.mpr ⟨b, hb, by rw [e]; rfl⟩
theorem of_pinsAt {fp : List Addr} {h : Heap} {p : Addr × Obj} (hp : p ∈ pinsAt fp h) : p.1 ∈ fp ∧ h.get? p.1 = some p.2 := by
  obtain ⟨b, hb, e⟩ := List.mem_filterMap.mp hp
  cases q : h.get? b with
  | none => rw [q] at e; cases e
  | some o =>
    rw [q] at e
    have e' : (b, o) = p := Option.some.inj e
    subst e'
    exact ⟨hb, q⟩
theorem Inv.pinned {pins : List (Addr × Obj)} {σ : St} {H : Hp} {s : Shared} {fp : List Addr} (I : Inv X pins σ H s) (hf : ∀ b ∈ fp, FpOk X pins H b) (ho : ∀ b ∈ fp, ∃ o, s.heap.get? b = some o ∧ ∀ v, o.data ≠ .cell v) : Inv X (pins ++ pinsAt fp s.heap) σ H s :=
  I.pins_of fun p hp => (List.mem_append.mp hp).elim (fun z => I.pin p (List.mem_append_right _ z)) fun z => by
    obtain ⟨hb, e⟩ := of_pinsAt z
    obtain ⟨f0, f1, f2, _⟩ := hf p.1 hb
    obtain ⟨o, e', d⟩ := ho p.1 hb
    rw [e] at e'; cases e'
    exact ⟨e, f0, f1, f2, d⟩
theorem Inv.unpinned {pins pl : List (Addr × Obj)} {σ : St} {H : Hp} {s : Shared} (I : Inv X (pins ++ pl) σ H s) : Inv X pins σ H s := I.pins_of fun p hp => I.pin p (List.mem_append_right _ (List.mem_append_left _ hp))
theorem ps_for {iter : Expr} {body : List Stmt} {wi : TI} {g : TG} {tb : TS} {pos : Pos} (hp : PassesOwn (model X.prog X.w) X.A X.env X.xe) (hc : X.calm = true) (hi : PI X tg iter wi) (hg : PG X tg g) (hb : PSs X body tb)
    (hs : ∀ x, foldedSetIterable iter X.env x = pure x := by intro _; rfl) : PS X (.For tg iter body [] pos) (tFor wi g tb) := by
  intro pins s σ H D I h
  refine wpAny_For (thn (hi pins s σ H _ I h) fun v s1 h1 => thn h1 fun itv s2 h2 => ?_) hs
  obtain ⟨it, fp, tn, J, H2, e, I2, T, st2, f2, W, ⟨m0, w0⟩, turn⟩ := h2
  subst e
  have stat : ∀ {H' : Hp}, (∀ b ∈ fp, H' b = none) → ∀ b ∈ fp, FpOk X pins H' b := fun hn b hb => ⟨hn b hb, (f2 b hb).2⟩
  refine codeAny_forLoop_any (fun n s' => ∃ i σ' H', Inv X pins σ' H' s' ∧ tn i s'.heap ∧ (∀ b ∈ fp, H' b = none) ∧ W i n σ' H') ?_ m0 ⟨0, σ, H2, I2, st2, fun b hb => (f2 b hb).1, w0⟩
  rintro n s3 ⟨i, σ3, H3, I3, st3, fr3, w3⟩
  rcases turn i n σ3 H3 w3 with ⟨stop, qn⟩ | ⟨go, N, hN, step⟩
  · refine wpAny_passesOwn hp (thn (T.done X rfl rfl rfl hc i pins s3 σ3 H3 X.xe I3 (stat fr3) st3 stop) fun r s4 ⟨hr, I4⟩ => ?_)
    subst hr
    exact wpAny_execs_nil ⟨σ3, H3, I4, qn⟩
  · refine wpAny_passesOwn hp (thn (T.item X rfl rfl rfl hc i pins s3 σ3 H3 X.xe I3 (stat fr3) st3 go) fun r s4 ⟨u, hr, h4⟩ => ?_)
    subst hr
    refine wpAny_passesOwn hp (thn h4 fun _ s5 ⟨x, H5, I5, r5, y5, st5, fr5⟩ => ?_)
    have I5' := I5.pinned (stat fr5) (T.obj _ _ st5)
    refine wpAny_passesOwn hp (thn (hg _ s5 σ3 H5 x u _ I5' r5 (step x H5 y5)) fun _ s6 ⟨σ6, H6, I6, q6⟩ => ?_)
    refine wpAny_passesOwn hp (thn (hb _ s6 σ6 H6 _ I6 q6) fun f s7 q7 => ?_)
    have again : ∀ {σ7 : St} {H7 : Hp}, Inv X (pins ++ pinsAt fp s5.heap) σ7 H7 s7 → N σ7 H7 → ∃ m, m < n ∧ ∃ i σ' H', Inv X pins σ' H' s7 ∧ tn i s7.heap ∧ (∀ b ∈ fp, H' b = none) ∧ W i m σ' H' := fun {σ7 H7} I7 n7 => by
      obtain ⟨m', hm, w7⟩ := hN σ7 H7 n7
      refine ⟨m', hm, i + 1, σ7, H7, I7.unpinned, T.keep _ _ _ st5 fun b hb o e => (I7.pin (b, o) (List.mem_append_right _ (List.mem_append_right _ (mem_pinsAt hb e)))).1, fun b hb => ?_, w7⟩
      obtain ⟨o, e, d⟩ := T.obj _ _ st5 b hb
      exact (I7.pin (b, o) (List.mem_append_right _ (List.mem_append_right _ (mem_pinsAt hb e)))).2.1
    cases f with
    | next => obtain ⟨σ7, H7, I7, n7⟩ := q7; exact again I7 n7
    | cont => obtain ⟨σ7, H7, I7, n7⟩ := q7; exact again I7 n7
    | brk => obtain ⟨σ7, H7, I7, q7⟩ := q7; exact ⟨σ7, H7, I7.unpinned, q7⟩
    | ret v => obtain ⟨x7, σ7, H7, I7, r7, q7⟩ := q7; exact ⟨x7, σ7, H7, I7.unpinned, r7, q7⟩
end
theorem for_list {K : PySem.W.Frag} {a : Addr} {xs : List V} {g : TG} {tb : TS} {D : Ends} {σ : St} {H : Hp} (Pv : Nat → St → Hp → Prop) (h0 : Pv 0 σ H) (hl : ∀ i σ H, i ≤ xs.length → Pv i σ H → SqL K H a xs)
    (hs : ∀ i x σ H, xs[i]? = some x → Pv i σ H → g x σ H fun σ2 H2 => tb { D with nx := Pv (i + 1), ct := Pv (i + 1), bk := D.nx } σ2 H2) (hd : ∀ σ H, Pv xs.length σ H → D.nx σ H) :
    ∃ W : Nat → Nat → St → Hp → Prop, (∃ m, W 0 m σ H) ∧ ∀ i m σ H, W i m σ H →
      ((Itl K a).stop i H ∧ D.nx σ H) ∨ ((Itl K a).go i H ∧ ∃ N : St → Hp → Prop, (∀ σ' H', N σ' H' → ∃ m', m' < m ∧ W (i + 1) m' σ' H') ∧ ∀ x H', (Itl K a).yld i H x H' → g x σ H' fun σ2 H2 => tb { D with nx := N, ct := N, bk := D.nx } σ2 H2) := by
  refine ⟨fun i m σ H => m = xs.length - i ∧ i ≤ xs.length ∧ Pv i σ H, ⟨xs.length, by simp, Nat.zero_le _, h0⟩, ?_⟩
  rintro i m σ H ⟨rfl, hi, p⟩
  have q := hl i σ H hi p
  by_cases hlt : i < xs.length
  · refine .inr ⟨⟨xs, xs[i], q, by simp [hlt]⟩, Pv (i + 1), fun σ' H' p' => ⟨xs.length - (i + 1), by omega, rfl, hlt, p'⟩, fun x H' y => ?_⟩
    obtain ⟨e, y⟩ := y
    subst e
    exact hs i x σ _ (y xs q) p
  · have e : i = xs.length := by omega
    subst e
    exact .inl ⟨⟨xs, q, Nat.le_refl _⟩, hd σ H p⟩
theorem for_range {lo : Int} {n : Nat} {g : TG} {tb : TS} {D : Ends} {σ : St} {H : Hp} (Pv : Nat → St → Hp → Prop) (h0 : Pv 0 σ H)
    (hs : ∀ i σ H, i < n → Pv i σ H → g (.int (lo + i)) σ H fun σ2 H2 => tb { D with nx := Pv (i + 1), ct := Pv (i + 1), bk := D.nx } σ2 H2) (hd : ∀ σ H, Pv n σ H → D.nx σ H) :
    ∃ W : Nat → Nat → St → Hp → Prop, (∃ m, W 0 m σ H) ∧ ∀ i m σ H, W i m σ H →
      ((Itr lo n).stop i H ∧ D.nx σ H) ∨ ((Itr lo n).go i H ∧ ∃ N : St → Hp → Prop, (∀ σ' H', N σ' H' → ∃ m', m' < m ∧ W (i + 1) m' σ' H') ∧ ∀ x H', (Itr lo n).yld i H x H' → g x σ H' fun σ2 H2 => tb { D with nx := N, ct := N, bk := D.nx } σ2 H2) := by
  refine ⟨fun i m σ H => m = n - i ∧ i ≤ n ∧ Pv i σ H, ⟨n, by simp, Nat.zero_le _, h0⟩, ?_⟩
  rintro i m σ H ⟨rfl, hi, p⟩
  by_cases hlt : i < n
  · refine .inr ⟨hlt, Pv (i + 1), fun σ' H' p' => ⟨n - (i + 1), by omega, rfl, hlt, p'⟩, fun x H' y => ?_⟩
    obtain ⟨e, y⟩ := y
    subst e y
    exact hs i σ _ hlt p
  · have e : i = n := by omega
    subst e
    exact .inl ⟨Nat.le_refl _, hd σ H p⟩
end L2
namespace L2
open PySem PySem.Spec PyProof.Rows
abbrev R2 := V → V → Hp → VK → Prop
def OpR (X : Cx) (f : Value → Value → Sem Value) (r : R2) : Prop :=
  ∀ (pins : List (Addr × Obj)) (s : Shared) (σ : St) (H : Hp) (x y : V) (v u : Value) (Q : VK), Inv X pins σ H s → RelV x v → RelV y u → r x y H Q →
    wpAny (model X.prog X.w) X.A (f v u) (EP X pins σ Q) X.xe s
def CallR (X : Cx) (f : Value) (r : List V → Hp → VK → Prop) : Prop :=
  ∀ (pins : List (Addr × Obj)) (s : Shared) (σ : St) (H : Hp) (xs : List V) (us : List Value) (Q : VK), Inv X pins σ H s → Vals xs us → r xs H Q →
    wpAny (model X.prog X.w) X.A (call f us) (EP X pins σ Q) X.xe s
def tOp (r : R2) (ta tb : TE) : TE := fun σ H Q => ta σ H fun x H1 => tb σ H1 fun y H2 => r x y H2 Q
def rI (C : Int → Int → Prop) (g : Int → Int → V) : R2 := fun x y H Q => ∃ i j, x = .int i ∧ y = .int j ∧ C i j ∧ Q (g i j) H
def rI0 (g : Int → Int → V) : R2 := fun x y H Q => ∃ i j, x = .int i ∧ y = .int j ∧ Q (g i j) H
section
variable {X : Cx} {a b c : Expr} {ta tb tc : TE} {pos : Pos}
theorem binT (ha : PE X a ta) (hb : PE X b tb) {pins : List (Addr × Obj)} {s : Shared} {σ : St} {H : Hp} {R : V → V → Hp → Prop} (I : Inv X pins σ H s)
    (h : ta σ H fun x H1 => tb σ H1 fun y H2 => R x y H2) {Q : Value → Shared → Prop} {f : Value → Value → Sem Value}
    (hf : ∀ v u s2 x y H2, Inv X pins σ H2 s2 → RelV x v → RelV y u → R x y H2 → wpAny (model X.prog X.w) X.A (f v u) Q X.xe s2) :
    wpAny (model X.prog X.w) X.A (eval a X.env) (fun v s₁ => wpAny (model X.prog X.w) X.A (eval b X.env) (fun u s₂ => wpAny (model X.prog X.w) X.A (f v u) Q X.xe s₂) X.xe s₁) X.xe s := by
  refine thn (ha pins s σ H _ I h) fun v s1 ⟨x, H1, I1, r1, q1⟩ => ?_
  refine thn (hb pins s1 σ H1 _ I1 q1) fun u s2 ⟨y, H2, I2, r2, q2⟩ => ?_
  exact hf v u s2 x y H2 I2 r1 r2 q2
theorem pe_op {op : Operator} {r : R2} (ho : OpR X (binaryOp op) r) (ha : PE X a ta) (hb : PE X b tb) : PE X (.BinOp a op b pos) (tOp r ta tb) := by
  intro pins s σ H Q I h
  exact wpAny_BinOp (binT ha hb I h fun v u s2 x y H2 I2 rx ry q => ho pins s2 σ H2 x y v u Q I2 rx ry q)
theorem opI {f : Value → Value → Sem Value} {C : Int → Int → Prop} {g : Int → Int → Int}
    (rule : ∀ (i j : Int) (t u : Tok) (s : Shared) (Q : Value → Shared → Prop) (E : Value → Shared → Prop), C i j → Q (.int (g i j) s.toks) { s with toks := s.toks + 1 } → wpAny (model X.prog X.w) X.A (f (.int i t) (.int j u)) Q E s) :
    OpR X f (rI C fun i j => .int (g i j)) := by
  intro pins s σ H x y v u Q I rx ry h
  obtain ⟨i, j, rfl, rfl, hc, q⟩ := h
  obtain ⟨t, rfl⟩ := rx
  obtain ⟨t', rfl⟩ := ry
  exact rule i j t t' s _ _ hc ⟨.int (g i j), H, I.tok _, ⟨_, rfl⟩, q⟩
theorem opI0 {f : Value → Value → Sem Value} {g : Int → Int → Int}
    (rule : ∀ (i j : Int) (t u : Tok) (s : Shared) (Q : Value → Shared → Prop) (E : Value → Shared → Prop), Q (.int (g i j) s.toks) { s with toks := s.toks + 1 } → wpAny (model X.prog X.w) X.A (f (.int i t) (.int j u)) Q E s) :
    OpR X f (rI0 fun i j => .int (g i j)) := by
  intro pins s σ H x y v u Q I rx ry h
  obtain ⟨i, j, rfl, rfl, q⟩ := h
  obtain ⟨t, rfl⟩ := rx
  obtain ⟨t', rfl⟩ := ry
  exact rule i j t t' s _ _ ⟨.int (g i j), H, I.tok _, ⟨_, rfl⟩, q⟩
theorem opB0 {f : Value → Value → Sem Value} {g : Int → Int → Bool}
    (rule : ∀ (i j : Int) (t u : Tok) (s : Shared) (Q : Value → Shared → Prop) (E : Value → Shared → Prop), Q (.bool (g i j)) s → wpAny (model X.prog X.w) X.A (f (.int i t) (.int j u)) Q E s) :
    OpR X f (rI0 fun i j => .bl (g i j)) := by
  intro pins s σ H x y v u Q I rx ry h
  obtain ⟨i, j, rfl, rfl, q⟩ := h
  obtain ⟨t, rfl⟩ := rx
  obtain ⟨t', rfl⟩ := ry
  exact rule i j t t' s _ _ ⟨.bl (g i j), H, I, rfl, q⟩
def CDiv (i j : Int) : Prop := 0 < j ∧ j < 1073741824
def CPow (i j : Int) : Prop := 0 ≤ j ∧ j ≤ 1000000 ∧ i.natAbs < 2 ^ 64
def CMul (i j : Int) : Prop := (-(2 ^ 64) < i ∧ i < 2 ^ 64) ∨ (-(2 ^ 64) < j ∧ j < 2 ^ 64)
theorem CMul.ok {i j : Int} (h : CMul i j) : IntMulOk i j := by
  rcases h with ⟨h1, h2⟩ | ⟨h1, h2⟩
  · exact .of_left (intBits_le_64 h1 h2)
  · exact .of_right (intBits_le_64 h1 h2)
theorem op_add : OpR X (binaryOp .Add) (rI0 fun i j => .int (i + j)) := opI0 fun _ _ _ _ _ _ _ q => add_int q
theorem op_sub : OpR X (binaryOp .Sub) (rI0 fun i j => .int (i - j)) := opI0 fun _ _ _ _ _ _ _ q => sub_int q
theorem op_mul : OpR X (binaryOp .Mult) (rI CMul fun i j => .int (i * j)) := opI fun _ _ _ _ _ _ _ hc q => mul_int q hc.ok
theorem op_fdiv : OpR X (binaryOp .FloorDiv) (rI CDiv fun i j => .int (i / j)) := opI fun i j _ _ _ _ _ hc q => by
  have h1 : (0 : Int) < j := hc.1
  have h2 : j < 1073741824 := hc.2
  exact floordiv_int (by omega) (by rw [Int.fdiv_eq_ediv_of_nonneg i (by omega)]; exact q) (.inl (PyProof.noPylong_small (by omega)))
theorem op_mod : OpR X (binaryOp .Mod) (rI (fun _ j => 0 < j) fun i j => .int (i % j)) := opI fun i j _ _ _ _ _ hc q => by
  have h1 : (0 : Int) < j := hc
  exact mod_int' (by omega) (by rw [Int.fmod_eq_emod_of_nonneg i (by omega)]; exact q)
theorem op_pow : OpR X (binaryOp .Pow) (rI CPow fun i j => .int (i ^ j.toNat)) := opI fun _ _ _ _ _ _ _ hc q => pow_int_small hc.1 hc.2.1 hc.2.2 q
end
def scal : V → V → Bool
  | .non, .non => true | .non, .int _ => true | .int _, .non => true | .non, .bl _ => true | .bl _, .non => true | .non, .str _ => true | .str _, .non => true
  | .int _, .int _ => true | .bl _, .bl _ => true | .str _, .str _ => true | .byt _, .byt _ => true
  | .int _, .str _ => true | .str _, .int _ => true | .bl _, .str _ => true | .str _, .bl _ => true
  | _, _ => false
def rEq : R2 := fun x y H Q => scal x y = true ∧ Q (.bl (decide (x = y))) H
def rNe : R2 := fun x y H Q => scal x y = true ∧ Q (.bl (!decide (x = y))) H
theorem dec_int {i j : Int} : decide (V.int i = V.int j) = (i == j) := by
  rw [Bool.eq_iff_iff]
  simp
theorem dec_bl {i j : Bool} : decide (V.bl i = V.bl j) = (i == j) := by
  rw [Bool.eq_iff_iff]
  simp
theorem dec_str {i j : Str} : decide (V.str i = V.str j) = (i == j) := by
  rw [Bool.eq_iff_iff]
  simp
theorem dec_byt {i j : Array UInt8} : decide (V.byt i = V.byt j) = (i.toList == j.toList) := by
  rw [Bool.eq_iff_iff]
  cases i
  cases j
  simp
section
variable {X : Cx} {a b c : Expr} {ta tb tc : TE} {pos : Pos}
theorem fin_bl {pins : List (Addr × Obj)} {σ : St} {H : Hp} {s : Shared} {Q : VK} {k k' : Bool} (I : Inv X pins σ H s) (q : Q (.bl k) H) (e : k = k') : EP X pins σ Q (.bool k') s := by
  subst e
  exact ⟨.bl k, H, I, rfl, q⟩
theorem op_eq : OpR X (compareOp .Eq) rEq := by
  intro pins s σ H x y v u Q I rx ry h
  obtain ⟨hs, q⟩ := h
  cases x with
  | non =>
    cases rx
    cases y with
    | non => cases ry; exact PySem.EqNone.eq_none_none (fin_bl I q (by simp))
    | bl j => cases ry; exact PySem.EqNone.eq_none_bool (fin_bl I q (by simp))
    | int j => obtain ⟨t', rfl⟩ := ry; exact PySem.EqNone.eq_none_int (fin_bl I q (by simp))
    | str j => obtain ⟨t', rfl⟩ := ry; exact PySem.EqNone.eq_none_str (fin_bl I q (by simp))
    | _ => exact absurd (show false = true from hs) Bool.false_ne_true
  | bl i =>
    cases rx
    cases y with
    | non => cases ry; exact PySem.EqNone.eq_bool_none (fin_bl I q (by simp))
    | bl j => cases ry; exact eq_bool (fin_bl I q dec_bl)
    | str j => obtain ⟨t', rfl⟩ := ry; exact PySem.EqMixed.eq_bool_str (fin_bl I q (by simp))
    | _ => exact absurd (show false = true from hs) Bool.false_ne_true
  | int i =>
    obtain ⟨t, rfl⟩ := rx
    cases y with
    | non => cases ry; exact PySem.EqNone.eq_int_none (fin_bl I q (by simp))
    | int j => obtain ⟨t', rfl⟩ := ry; exact eq_int (fin_bl I q dec_int)
    | str j => obtain ⟨t', rfl⟩ := ry; exact PySem.EqMixed.eq_int_str (fin_bl I q (by simp))
    | _ => exact absurd (show false = true from hs) Bool.false_ne_true
  | str i =>
    obtain ⟨t, rfl⟩ := rx
    cases y with
    | non => cases ry; exact PySem.EqNone.eq_str_none (fin_bl I q (by simp))
    | bl j => cases ry; exact PySem.EqMixed.eq_str_bool (fin_bl I q (by simp))
    | int j => obtain ⟨t', rfl⟩ := ry; exact PySem.EqMixed.eq_str_int (fin_bl I q (by simp))
    | str j => obtain ⟨t', rfl⟩ := ry; exact eq_str (fin_bl I q dec_str)
    | _ => exact absurd (show false = true from hs) Bool.false_ne_true
  | byt i =>
    obtain ⟨t, rfl⟩ := rx
    cases y with
    | byt j => obtain ⟨t', rfl⟩ := ry; exact PySem.W.eq_bytes (fin_bl I q dec_byt)
    | _ => exact absurd (show false = true from hs) Bool.false_ne_true
  | _ => cases y <;> exact absurd (show false = true from hs) Bool.false_ne_true
theorem op_ne : OpR X (compareOp .NotEq) rNe := by
  intro pins s σ H x y v u Q I rx ry h
  obtain ⟨hs, q⟩ := h
  cases x with
  | non =>
    cases rx
    cases y with
    | non => cases ry; exact PySem.EqNone.ne_none_none (fin_bl I q (by simp))
    | bl j => cases ry; exact PySem.EqNone.ne_none_bool (fin_bl I q (by simp))
    | int j => obtain ⟨t', rfl⟩ := ry; exact PySem.EqNone.ne_none_int (fin_bl I q (by simp))
    | str j => obtain ⟨t', rfl⟩ := ry; exact PySem.EqNone.ne_none_str (fin_bl I q (by simp))
    | _ => exact absurd (show false = true from hs) Bool.false_ne_true
  | bl i =>
    cases rx
    cases y with
    | non => cases ry; exact PySem.EqNone.ne_bool_none (fin_bl I q (by simp))
    | bl j => cases ry; exact ne_bool (fin_bl I q (congrArg not dec_bl))
    | str j => obtain ⟨t', rfl⟩ := ry; exact PySem.EqMixed.ne_bool_str (fin_bl I q (by simp))
    | _ => exact absurd (show false = true from hs) Bool.false_ne_true
  | int i =>
    obtain ⟨t, rfl⟩ := rx
    cases y with
    | non => cases ry; exact PySem.EqNone.ne_int_none (fin_bl I q (by simp))
    | int j => obtain ⟨t', rfl⟩ := ry; exact ne_int (fin_bl I q (congrArg not dec_int))
    | str j => obtain ⟨t', rfl⟩ := ry; exact PySem.EqMixed.ne_int_str (fin_bl I q (by simp))
    | _ => exact absurd (show false = true from hs) Bool.false_ne_true
  | str i =>
    obtain ⟨t, rfl⟩ := rx
    cases y with
    | non => cases ry; exact PySem.EqNone.ne_str_none (fin_bl I q (by simp))
    | bl j => cases ry; exact PySem.EqMixed.ne_str_bool (fin_bl I q (by simp))
    | int j => obtain ⟨t', rfl⟩ := ry; exact PySem.EqMixed.ne_str_int (fin_bl I q (by simp))
    | str j => obtain ⟨t', rfl⟩ := ry; exact ne_str (fin_bl I q (congrArg not dec_str))
    | _ => exact absurd (show false = true from hs) Bool.false_ne_true
  | byt i =>
    obtain ⟨t, rfl⟩ := rx
    cases y with
    | byt j => obtain ⟨t', rfl⟩ := ry; exact PySem.W.ne_bytes (fin_bl I q (congrArg not dec_byt))
    | _ => exact absurd (show false = true from hs) Bool.false_ne_true
  | _ => cases y <;> exact absurd (show false = true from hs) Bool.false_ne_true
theorem op_lt : OpR X (compareOp .Lt) (rI0 fun i j => .bl (decide (i < j))) := opB0 fun _ _ _ _ _ _ _ q => lt_int q
theorem op_le : OpR X (compareOp .LtE) (rI0 fun i j => .bl (decide (i ≤ j))) := opB0 fun _ _ _ _ _ _ _ q => le_int q
theorem op_gt : OpR X (compareOp .Gt) (rI0 fun i j => .bl (decide (j < i))) := opB0 fun _ _ _ _ _ _ _ q => gt_int q
theorem op_isN : OpR X (compareOp .Is) (fun x y H Q => y = .non ∧ Q (.bl (decide (x = .non))) H) := by
  intro pins s σ H x y v u Q I rx ry h
  obtain ⟨rfl, q⟩ := h
  cases ry
  refine is_none_gen (fin_bl I q ?_)
  cases x <;> first
    | (cases rx; rfl)
    | (obtain ⟨t, rfl⟩ := rx; rfl)
theorem nomark (b : Expr) {op : CmpOp} (h : op ≠ .In := by decide) (h2 : op ≠ .NotIn := by decide) : behindInMarks op b = false := by
  have e1 : (op == CmpOp.In) = false := by cases op <;> first | rfl | exact absurd rfl h
  have e2 : (op == CmpOp.NotIn) = false := by cases op <;> first | rfl | exact absurd rfl h2
  cases b <;> simp [behindInMarks, e1, e2]
theorem pe_cmpR {op : CmpOp} {r : R2} (ho : OpR X (compareOp op) r) (ha : PE X a ta) (hb : PE X b tb) (hm : behindInMarks op b = false) : PE X (.Compare a [op] [b] pos) (tOp r ta tb) := by
  intro pins s σ H Q I h
  exact wpAny_Compare1 (binT ha hb I h fun v u s2 x y H2 I2 rx ry q => ho pins s2 σ H2 x y v u Q I2 rx ry q) hm
def tTest (t : TE) : TT := fun σ H Q => t σ H fun x H' => ∃ k, x = .bl k ∧ Q k H'
theorem pt_cmpR {op : CmpOp} {r : R2} (ho : OpR X (compareOp op) r) (ha : PE X a ta) (hb : PE X b tb) (hm : behindInMarks op b = false) : PT X (.Compare a [op] [b] pos) (tTest (tOp r ta tb)) := by
  intro pins s σ H Q I h
  refine wpAny_isTrue_Compare1 (thn (ha pins s σ H _ I h) fun v s1 ⟨x, H1, I1, r1, q1⟩ => thn (hb pins s1 σ H1 _ I1 q1) fun u s2 ⟨y, H2, I2, r2, q2⟩ =>
    thn (ho pins s2 σ H2 x y v u _ I2 r1 r2 q2) fun c s3 ⟨z, H3, I3, r3, k, e, q3⟩ => ?_) hm
  subst e
  cases r3
  exact wpAny_truthy_bool ⟨H3, I3, q3⟩
def tChain (r r' : R2) (ta tb tc : TE) : TE := fun σ H Q => ta σ H fun x H1 => tb σ H1 fun y H2 => r x y H2 fun z H3 => ∃ k, z = .bl k ∧
  (if k = true then tc σ H3 fun w' H4 => r' y w' H4 Q else Q (.bl false) H3)
theorem pe_chain {op op' : CmpOp} {r r' : R2} (ho : OpR X (compareOp op) r) (ho' : OpR X (compareOp op') r') (ha : PE X a ta) (hb : PE X b tb) (hc : PE X c tc)
    (hm : lastMarks [op, op'] [b, c] = false := by with_unfolding_all rfl) : PE X (.Compare a [op, op'] [b, c] pos) (tChain r r' ta tb tc) := by
  intro pins s σ H Q I h
  refine Compare_chain (thn (ha pins s σ H _ I h) fun v s1 ⟨x, H1, I1, r1, q1⟩ => chain_link (thn (hb pins s1 σ H1 _ I1 q1) fun u s2 ⟨y, H2, I2, r2, q2⟩ =>
    thn (ho pins s2 σ H2 x y v u _ I2 r1 r2 q2) fun d s3 ⟨z, H3, I3, r3, k, e, q3⟩ => ?_)) hm
  subst e
  cases r3
  refine wpAny_truthy_bool ?_
  cases k with
  | false => exact ite_ff ⟨.bl false, H3, I3, rfl, q3⟩
  | true => exact ite_tt (chain_last (thn (hc pins s3 σ H3 _ I3 q3) fun w' s4 ⟨z', H4, I4, r4, q4⟩ => ho' pins s4 σ H4 y z' u w' Q I4 r2 r4 q4))
theorem line63 : (sizeLine : Nat) < 2 ^ 63 := by rw [sizeLine_eq]; decide
theorem op_add_str : OpR X (binaryOp .Add) (fun x y H Q => ∃ i j, x = .str i ∧ y = .str j ∧ i.length + j.length ≤ sizeLine ∧ Q (.str (i ++ j)) H) := by
  intro pins s σ H x y v u Q I rx ry h
  obtain ⟨i, j, rfl, rfl, hz, q⟩ := h
  obtain ⟨t, rfl⟩ := rx
  obtain ⟨t', rfl⟩ := ry
  exact add_str (fun t' tk => ⟨.str (i ++ j), H, I.tok _, ⟨_, rfl⟩, q⟩) hz
theorem vals1 {x : V} {us : List Value} (r : Vals [x] us) : ∃ u, us = [u] ∧ RelV x u := by
  cases r with
  | cons r1 r2 => cases r2; exact ⟨_, rfl, r1⟩
theorem vals2 {x y : V} {us : List Value} (r : Vals [x, y] us) : ∃ u w', us = [u, w'] ∧ RelV x u ∧ RelV y w' := by
  cases r with
  | cons r1 r2 =>
    cases r2 with
    | cons r3 r4 => cases r4; exact ⟨_, _, rfl, r1, r3⟩
theorem call_str_int : CallR X (.type "str") (fun xs H Q => ∃ i, xs = [.int i] ∧ i.natAbs.log2 < 1920 ∧ Q (.str (toString i)) H) := by
  intro pins s σ H xs us Q I r h
  obtain ⟨i, rfl, hz, q⟩ := h
  obtain ⟨u, rfl, t, rfl⟩ := vals1 r
  exact PySem.P.str_of_int hz ⟨.str _, H, I.tok _, ⟨_, rfl⟩, q⟩
end
end L2
namespace L2
open PySem PySem.Spec PyProof.Rows
structure ObjM (h : Heap) (x dx C : Addr) (mA : Str → Option Value) : Prop where
  obj : h.get? x = some (PySem.W.instObj C dx)
  ns : h.Ns1 dx mA
  ne : dx ≠ x
theorem lookIn_ns {h : Heap} {dx : Addr} {mA : Str → Option Value} (n : h.Ns1 dx mA) : ∃ od, h.get? dx = some od ∧ ∀ name, PySem.W.lookIn name od = some (mA name) := by
  obtain ⟨o, es, ep, ho, hd, hk, _, hm⟩ := n
  refine ⟨o, ho, fun name => ?_⟩
  have e := hm name
  unfold nsFind findBy at e
  rw [← Array.find?_toList] at e
  unfold PySem.W.lookIn
  rw [hd]
  dsimp only
  split
  · rename_i y q
    rw [q] at e
    exact congrArg some e
  · rename_i q
    rw [q] at e
    have a : es.toList.any (·.refKey) = false := by
      rw [List.any_eq_false]
      intro y hy
      obtain ⟨z, t, hkey⟩ := hk y (Array.mem_toList_iff.mp hy)
      simp [DictEntry.refKey, hkey]
    have a' : ¬ es.toList.any (·.refKey) = true := by rw [a]; exact Bool.false_ne_true
    rw [if_neg a']
    exact congrArg some e
theorem ObjM.look {h : Heap} {x dx C : Addr} {mA : Str → Option Value} (I : ObjM h x dx C mA) : ∃ od, PySem.W.InstAt h x (PySem.W.instObj C dx) C (some od) ∧ ∀ name, PySem.W.lookIn name od = some (mA name) :=
  let ⟨od, ho, hl⟩ := lookIn_ns I.ns
  ⟨od, ⟨I.obj, rfl, rfl, ho⟩, hl⟩
section
variable {prog : Program} {w : World} {A : Around} {E : Value → Shared → Prop} {s : Shared} {K : PySem.W.Frag} {x dx C f : Addr} {mA : Str → Option Value} {name : Str} {v : Value}
end
section
variable {P : Program} {w : World} {H H' : Hp} {h h' : Heap} {a C dx : Addr} {fs fs' : List (Str × V)}
theorem ins_get (hok : HOk P w H h) (e : H a = some (.ins C dx fs)) : ∃ mA, ObjM h a dx C mA ∧ (∀ f, RelO (fs.lookup f) (mA f)) ∧ PySem.Within mA (fs.map (·.1)) ∧ fs.length ≤ 1000 ∧ H dx = some (.own a) := by
  obtain ⟨d, z, ne, ob, mA, n, r, q⟩ := (show ObjOk P w H h a (.ins C dx fs) from hok a _ e)
  exact ⟨mA, ⟨ob, n, ne⟩, r, q, z, d⟩
end
structure Cls (K : PySem.W.Frag) (C : Addr) : Prop where
  pg : PySem.W.plainGet K C Str.empty = true
  hd : PySem.W.hasDictIn K C = true
  po : PySem.W.plainOver K C = true
  sa : PySem.W.findIn K (.ref C) "__setattr__" = some (some (.builtin "object.__setattr__"))
theorem Cls.get {K : PySem.W.Frag} {C : Addr} (c : Cls K C) (f : Str) : PySem.W.plainGet K C f = true := c.pg
section
variable {X : Cx} {pins : List (Addr × Obj)} {σ : St} {H : Hp} {s : Shared} {a C dx : Addr} {fs : List (Str × V)} {f : Str} {v : V} {A : Around} {E : Value → Shared → Prop}
end
section
variable {X : Cx} {o e value : Expr} {f : Str} {pos pos' tpos : Pos} {ta tv : TE}
end
section
variable {X : Cx} {pins : List (Addr × Obj)} {σ : St} {H : Hp} {s : Shared} {A : Around} {E : Value → Shared → Prop} {Q : Value → Shared → Prop} {c : Value} {b : Bool}
inductive TyOf (K : PySem.W.Frag) (H : Hp) : V → Value → Prop where
  | non : TyOf K H .non (.type "NoneType")
  | bl (x : Bool) : TyOf K H (.bl x) (.type "bool")
  | int (i : Int) : TyOf K H (.int i) (.type "int")
  | str (x : Str) : TyOf K H (.str x) (.type "str")
  | flt (x : UInt64) : TyOf K H (.flt x) (.type "float")
  | lst {a : Addr} {xs : List V} (e : H a = some (.lst xs)) : TyOf K H (.ref a) (.type "list")
  | frz {a : Addr} {o : Obj} {xs : List V} (e : H a = some (.frz o (.lst xs))) : TyOf K H (.ref a) (.type "list")
  | tup {a : Addr} {xs : List V} (e : H a = some (.tup xs)) : TyOf K H (.ref a) (.type "tuple")
  | dK {a : Addr} {kvs : List (Key × V)} (e : H a = some (.dK kvs)) : TyOf K H (.ref a) (.type "dict")
  | dT {a : Addr} {kvs : List (List Key × V)} (e : H a = some (.dT kvs)) : TyOf K H (.ref a) (.type "dict")
  | ins {a C dx : Addr} {fs : List (Str × V)} (e : H a = some (.ins C dx fs)) (cl : Cls K C) (ha : PySem.W.findIn K (.ref C) "__class__" = some (some (.builtin "object.__class__")))
      (hn : PySem.W.specialIn K (.builtin "object.__class__") "__get__" = some (some (.builtin "getset_descriptor.__get__"))) (htk : PySem.W.takesIn K (.builtin "object.__class__") = some true)
      (hm : PySem.W.mroIn K C (.type "object") = some true) : TyOf K H (.ref a) (.ref C)
theorem isinst_ok {x : V} {u t : Value} (I : Inv X pins σ H s) (rx : RelV x u) (ty : TyOf X.K H x t) (e : PySem.W.kitOne X.K t c = some b) (h : ∀ tk, Q (.bool b) { s with toks := tk }) :
    wpAny (model X.prog X.w) A (call (.builtin "isinstance") [u, c]) Q E s := by
  cases ty with
  | non => cases (show u = Value.none from rx); exact PySem.W.kia_one PySem.W.kitx_none I.kIn True.intro e (fun z => nomatch z) h
  | bl y => cases (show u = Value.bool y from rx); exact PySem.W.kia_one PySem.W.kitx_bool I.kIn True.intro e (fun z => nomatch z) h
  | int i => obtain ⟨t, q⟩ := (show ∃ t, u = Value.int i t from rx); cases q; exact PySem.W.kia_one PySem.W.kitx_int I.kIn True.intro e (fun z => nomatch z) h
  | str y => obtain ⟨t, q⟩ := (show ∃ t, u = Value.str y t from rx); cases q; exact PySem.W.kia_one PySem.W.kitx_str I.kIn True.intro e (fun z => nomatch z) h
  | flt y => obtain ⟨t, q⟩ := (show ∃ t, u = Value.float y t from rx); cases q; exact PySem.W.kia_one PySem.W.kitx_float I.kIn True.intro e (fun z => nomatch z) h
  | @lst a xs ea =>
    cases (show u = Value.ref a from rx)
    obtain ⟨_, _, n, _, h1⟩ := (show ObjOk X.prog X.w H s.heap a (.lst xs) from I.hok a _ ea)
    exact PySem.W.kia_one PySem.W.kitx_list I.kIn ⟨_, h1, rfl⟩ e (fun z => nomatch z) h
  | @frz a ob xs ea =>
    cases (show u = Value.ref a from rx)
    obtain ⟨_, _, _, n, _, h1⟩ := (show ObjOk X.prog X.w H s.heap a (.frz ob (.lst xs)) from I.hok a _ ea)
    exact PySem.W.kia_one PySem.W.kitx_list I.kIn ⟨_, h1, rfl⟩ e (fun z => nomatch z) h
  | @tup a xs ea =>
    cases (show u = Value.ref a from rx)
    obtain ⟨_, _, _, p⟩ := (show ObjOk X.prog X.w H s.heap a (.tup xs) from I.hok a _ ea)
    obtain ⟨o, h1, h2, _⟩ := p
    exact PySem.W.kia_one PySem.W.kitx_tuple I.kIn ⟨o, h1, h2⟩ e (fun z => nomatch z) h
  | @dK a kvs ea =>
    cases (show u = Value.ref a from rx)
    obtain ⟨_, _, vs, _, p⟩ := (show ObjOk X.prog X.w H s.heap a (.dK kvs) from I.hok a _ ea)
    obtain ⟨o, es, ep, h1, h2, _⟩ := p
    exact PySem.W.kia_one PySem.W.kitx_dict I.kIn ⟨o, h1, h2.1⟩ e (fun z => nomatch z) h
  | @dT a kvs ea =>
    cases (show u = Value.ref a from rx)
    obtain ⟨_, _, xs, _, o, es, ep, h1, h2, _⟩ := (show ObjOk X.prog X.w H s.heap a (.dT kvs) from I.hok a _ ea)
    exact PySem.W.kia_one PySem.W.kitx_dict I.kIn ⟨o, h1, h2.1⟩ e (fun z => nomatch z) h
  | @ins a C dx fs ea cl ha hn htk hm =>
    cases (show u = Value.ref a from rx)
    obtain ⟨mA, O, _⟩ := ins_get I.hok ea
    obtain ⟨od, J, _⟩ := O.look
    exact PySem.W.kia_one (PySem.W.kitx_own (cl.get _) cl.hd ha hn htk hm) I.kIn J e (fun z => nomatch z) h
end
end L2
namespace L2
open PySem PySem.Spec PyProof.Rows
structure Room (k : Nat) (A : Around) : Prop where
  hd : A.handled = none
  dp : A.depth + 3 * k + 5 < recursionLimit
  un : A.units + 16 * k + 200 < cLine
theorem Room.mono {j k : Nat} {A : Around} (r : Room k A) (h : j ≤ k) : Room j A := ⟨r.hd, by have := r.dp; omega, by have := r.un; omega⟩
theorem Room.deeper {k : Nat} {A : Around} (r : Room (k + 1) A) (env : Env) : Room k (A.deeper env) :=
  ⟨r.hd, by have := r.dp; show A.depth + 1 + 3 * k + 5 < _; omega, by have := r.un; show A.units + 3 + 16 * k + 200 < _; omega⟩
theorem Room.depth {k : Nat} {A : Around} (r : Room k A) : A.depth < recursionLimit := by have := r.dp; omega
theorem Room.units {k : Nat} {A : Around} (r : Room k A) : A.units + 64 < cLine := by have := r.un; omega
def tNil : TA := fun _ H Q => Q [] H
def tCons (ta : TE) (tr : TA) : TA := fun σ H Q => ta σ H fun x H1 => tr σ H1 fun xs H2 => Q (x :: xs) H2
section
variable {X : Cx} {e : Expr} {es : List Expr} {te : TE} {t : TA} {pos : Pos}
theorem pa_nil : PA X [] tNil := fun _ _ _ _ H Q I h => Calls.spliced_nil ⟨[], H, I, .nil, h⟩
theorem pa_cons (ha : PE X e te) (hr : PA X es t) (hs : starEach (e :: es) X.env = (false, eval e X.env) :: starEach es X.env := by rfl) : PA X (e :: es) (tCons te t) := by
  intro pos pins s σ H Q I h
  rw [hs]
  show wpAny _ _ (spliced ((false, eval e X.env) :: backTo pos (starEach es X.env))) _ _ s
  refine Calls.spliced_cons (thn (ha pins s σ H _ I h) fun u s1 ⟨x, H1, I1, r1, q1⟩ => ?_)
  exact thn (hr pos pins s1 σ H1 _ I1 q1) fun us s2 ⟨xs, H2, I2, r2, q2⟩ => ⟨x :: xs, H2, I2, .cons r1 r2, q2⟩
def tLst (t : TA) : TE := fun σ H Q => t σ H fun xs H1 => xs.length ≤ sizeLine ∧ ∀ p, H1 p = none → Q (.ref p) (upd H1 p (.lst xs))
theorem pe_lst (h : PA X es t) : PE X (.List es pos) (tLst t) := by
  intro pins s σ H Q I hq
  refine wpAny_List_spliced (thn (h pos pins s σ H _ I hq) fun us s1 ⟨xs, H1, I1, r, z, q⟩ => ⟨by rw [← r.length]; exact z, ?_⟩)
  have hf : H1 s1.heap.objs.size = none := I1.hok.fresh (Nat.le_refl _)
  refine ⟨.ref s1.heap.objs.size, upd H1 s1.heap.objs.size (.lst xs), I1.laid (t' := s1.toks) (fun b u e => Heap.get?_push_of_some _ e) (Nat.le_refl _) ?_, rfl, q _ hf⟩
  exact ⟨z, us, 0, r, Heap.get?_push_size _ rfl⟩
end
abbrev Sp := List V → Hp → VK → XK → Prop
abbrev CXT := List Env → Hp → Shared → XK → Value → Shared → Prop
structure Env0 (P : Program) (w : World) (K : PySem.W.Frag) (mg : Str → Option Value) (base : Heap) (A : Around) (outer : List Env) (s : Shared) (H : Hp) : Prop where
  frames : A.frames = some outer
  mod : Mod K mg base
  bs : ∀ b o, base.get? b = some o → s.heap.get? b = some o ∧ H b = none
  bsz : base.objs.size ≤ s.heap.objs.size
  funs : s.heap.FunFrames base outer
  frf : ∀ b ∈ frs outer, H b = none
  hok : HOk P w H s.heap
  bare : AllBare s.gens
def CE (outer : List Env) (P : Program) (w : World) (H : Hp) (s : Shared) (Q : VK) (u : Value) (s' : Shared) : Prop :=
  ∃ v H', s'.os = s.os ∧ AllBare s'.gens ∧ Un (frs outer) [] H H' s.heap s'.heap ∧ HOk P w H' s'.heap ∧ RelV v u ∧ Q v H'
def CR (CX : CXT) (outer : List Env) (P : Program) (w : World) (H : Hp) (s : Shared) (Q : VK) (E : XK) (r : Result) (s' : Shared) : Prop :=
  match r with
  | .ok (.ret u) => CE outer P w H s Q u s'
  | .ok _ => False
  | .error e => CX outer H s E e s'
structure FnOk (P : Program) (w : World) (K : PySem.W.Frag) (mg : Str → Option Value) (base : Heap) (CX : CXT) (k : Nat) (f : Addr) (fd : FuncData) (ps : List Str) (sp : Sp) : Prop where
  len : ∀ vs H Q E, sp vs H Q E → vs.length = ps.length
  run : ∀ (A : Around) (outer : List Env) (s : Shared) (H : Hp) (args : Args) (us : List Value) (vs : List V) (Q : VK) (E : XK), Room k A → Env0 P w K mg base A outer s H → BindsTo s fd args (ps.zip us) → Vals vs us → sp vs H Q E →
    codeAny (model P w) A (.call (.ref f) args) (CR CX outer P w H s Q E) s
section
variable {X : Cx} {pins : List (Addr × Obj)} {σ : St} {H : Hp} {s s' : Shared}
theorem Inv.env0 (I : Inv X pins σ H s) : Env0 X.prog X.w X.K X.mg X.base X.A X.stack s H :=
  ⟨I.ok.frames, I.ok.mod, I.bs, Nat.le_trans I.ok.bsz I.sz, I.stack, I.stkFree, I.hok, I.bare⟩
theorem Inv.after {Q : VK} {u : Value} (I : Inv X pins σ H s) (h : CE X.stack X.prog X.w H s Q u s') : EP X pins σ Q u s' := by
  obtain ⟨v, H', os, bare, un, hok, r, q⟩ := h
  obtain ⟨hh, g, d, t, os'⟩ := s'
  obtain rfl : os' = s.os := os
  exact ⟨v, H', I.call (h' := hh) (g' := g) (d' := d) (t' := t) (ch := []) un hok bare (fun b z => absurd z (by simp)), r, q⟩
end
def tCall (sp : Sp) (dvs : List V) (E : XK) (t : TA) : TE := fun σ H Q => t σ H fun vs H1 => sp (vs ++ dvs) H1 Q E
def Binds (K : PySem.W.Frag) (fd : FuncData) (ps : List Str) (ds : List Value) : Prop :=
  ∀ (s : Shared) (us : List Value), K.In s.heap → (us ++ ds).length = ps.length → BindsTo s fd ⟨us, []⟩ (ps.zip (us ++ ds))
theorem Binds.all {K : PySem.W.Frag} {fd : FuncData} {ps : List Str} (h : ∀ us : List Value, us.length = ps.length → bindArgs fd ⟨us, []⟩ = pure (ps.zip us)) : Binds K fd ps [] := fun s us _ hl => by
  rw [List.append_nil] at hl ⊢
  exact .of_eq (h us hl)
def Passes (CX : CXT) (X : Cx) (E : XK) : Prop := ∀ (pins : List (Addr × Obj)) (σ : St) (H : Hp) (s : Shared) (e : Value) (s' : Shared), Inv X pins σ H s → CX X.stack H s E e s' → X.xe e s'
section
variable {X : Cx} {CX : CXT} {k : Nat} {f C : Addr} {fd : FuncData} {ps : List Str} {sp : Sp} {dvs : List V} {ds : List Value} {E : XK} {x m : Str} {p pos apos : Pos} {e o : Expr} {es : List Expr} {ta : TE} {t : TA}
theorem run_fn {pins : List (Addr × Obj)} {σ : St} {H : Hp} {s : Shared} {Q : VK} {us : List Value} {vs : List V} (F : FnOk X.prog X.w X.K X.mg X.base CX k f fd ps sp) (hr : Room k X.A) (hb : Binds X.K fd ps ds) (hd : Vals dvs ds) (hx : Passes CX X E)
    (I : Inv X pins σ H s) (r : Vals vs us) (h : sp (vs ++ dvs) H Q E) : wpAny (model X.prog X.w) X.A (call (.ref f) us) (EP X pins σ Q) X.xe s := by
  have r2 : Vals (vs ++ dvs) (us ++ ds) := r.append hd
  have hl : (us ++ ds).length = ps.length := by rw [← r2.length]; exact F.len _ _ _ _ h
  refine wpAny_call (codeAny_mono (F.run X.A X.stack s H ⟨us, []⟩ (us ++ ds) (vs ++ dvs) Q E hr I.env0 (hb s us I.kIn hl) r2 h) fun r s' hq => ?_)
  cases r with
  | error e => exact hx pins σ H s e s' I hq
  | ok fl =>
    cases fl with
    | ret u => exact I.after hq
    | next => exact False.elim hq
    | brk => exact False.elim hq
    | cont => exact False.elim hq
theorem pe_call (F : FnOk X.prog X.w X.K X.mg X.base CX k f fd ps sp) (hr : Room k X.A) (hg : Gl X x) (hm : X.mg x = some (.ref f)) (hk : PySem.W.keepIn X.K (.ref f) = true) (hb : Binds X.K fd ps ds) (hd : Vals dvs ds) (hx : Passes CX X E)
    (ha : PA X (e :: es) t) (hdb : (x == ("__debug__" : Str)) = false := by decide) (he : starEach (e :: es) X.env = (false, eval e X.env) :: starEach es X.env := by rfl) (hpl : (backTo pos (starEach es X.env)).any (·.1) = false := by rfl) :
    PE X (.Call (.Name x p) (e :: es) [] pos) (tCall sp dvs E t) := by
  intro pins s σ H Q I h
  refine wpAny_Call_Name_kw (ld_glob I hg hm ?_ hdb)
  refine PySem.W.callWith_K (h₀ := X.base) I.ok.mod.kin hk (thn (ha pos pins s σ H _ I h) fun us s1 ⟨vs, H1, I1, r, q⟩ => ⟨I1.kIn, ?_⟩) he hpl
  exact run_fn F hr hb hd hx I1 r q
end
section
variable {X : Cx} {CX : CXT} {k : Nat} {f C : Addr} {fd : FuncData} {ps ks : List Str} {sp : Sp} {E : XK} {x m : Str} {p pos apos kpos : Pos} {e o : Expr} {es : List Expr} {kws : List Keyword} {te ta : TE} {t tk : TA} {nm : Option Str}
variable {g : List Value → List Value → List Value} {gV : List V → List V → List V}
end
structure FnScope (N P : List Str) (sc : Scope) : Prop where
  kind : sc.kind = .function
  co : sc.isCoroutine = false
  gen : sc.isGenerator = false
  nd : N.Nodup
  pre : N.take P.length = P
  par : ∀ x ∈ P, sc.names.lookup x = some .local ∨ sc.names.lookup x = some .cell
  nofree : ∀ y ∈ sc.names, y.2 ≠ .free
theorem bindL_out {kindOf : Str → Option NameKind} {x : Str} : ∀ {binds : List (Str × Value)} {m : Str → Option Value}, (∀ v, (x, v) ∉ binds) → bindL kindOf binds m x = m x
  | [], _, _ => rfl
  | (n, v) :: r, m, h => by
    unfold bindL
    rw [bindL_out fun w hw => h w (List.mem_cons_of_mem _ hw)]
    split
    · have : x ≠ n := by rintro rfl; exact h v List.mem_cons_self
      simp [this]
    · rfl
theorem bindC_out {kindOf : Str → Option NameKind} {x : Str} : ∀ {binds : List (Str × Value)} {m : Str → Option Value}, (∀ v, (x, v) ∉ binds) → bindC kindOf binds m x = m x
  | [], _, _ => rfl
  | (n, v) :: r, m, h => by
    unfold bindC
    rw [bindC_out fun w hw => h w (List.mem_cons_of_mem _ hw)]
    split
    · rfl
    · have : x ≠ n := by rintro rfl; exact h v List.mem_cons_self
      simp [this]
theorem bindL_get {kindOf : Str → Option NameKind} {x : Str} {v : Value} : ∀ {P : List Str} {vs : List Value} {i : Nat} {m : Str → Option Value}, P.Nodup → P[i]? = some x → vs[i]? = some v → kindOf x = some .local →
    bindL kindOf (P.zip vs) m x = some v
  | [], _, _, _, _, h, _, _ => by simp at h
  | _ :: _, [], _, _, _, _, h, _ => by simp at h
  | p :: P, w :: vs, 0, m, nd, h1, h2, hk => by
    simp at h1 h2; subst h1; subst h2
    show bindL kindOf ((p, w) :: P.zip vs) m p = _
    unfold bindL
    rw [bindL_out fun v hv => (List.nodup_cons.mp nd).1 (List.of_mem_zip hv).1, if_pos hk]
    simp
  | p :: P, w :: vs, i + 1, m, nd, h1, h2, hk => by
    show bindL kindOf ((p, w) :: P.zip vs) m x = _
    unfold bindL
    exact bindL_get (i := i) (List.nodup_cons.mp nd).2 (by simpa using h1) (by simpa using h2) hk
theorem bindC_get {kindOf : Str → Option NameKind} {x : Str} {v : Value} : ∀ {P : List Str} {vs : List Value} {i : Nat} {m : Str → Option Value}, P.Nodup → P[i]? = some x → vs[i]? = some v → kindOf x ≠ some .local →
    bindC kindOf (P.zip vs) m x = some v
  | [], _, _, _, _, h, _, _ => by simp at h
  | _ :: _, [], _, _, _, _, h, _ => by simp at h
  | p :: P, w :: vs, 0, m, nd, h1, h2, hk => by
    simp at h1 h2; subst h1; subst h2
    show bindC kindOf ((p, w) :: P.zip vs) m p = _
    unfold bindC
    rw [bindC_out fun v hv => (List.nodup_cons.mp nd).1 (List.of_mem_zip hv).1, if_neg hk]
    simp
  | p :: P, w :: vs, i + 1, m, nd, h1, h2, hk => by
    show bindC kindOf ((p, w) :: P.zip vs) m x = _
    unfold bindC
    exact bindC_get (i := i) (List.nodup_cons.mp nd).2 (by simpa using h1) (by simpa using h2) hk
def start (N : List Str) (vs : List V) : St := vs.map some ++ List.replicate (N.length - vs.length) none
def cxOf (CX : CXT) (P : Program) (w : World) (K : PySem.W.Frag) (mg : Str → Option Value) (base : Heap) (N : List Str) (qual : Str) (scope : Scope) (f : Addr) (cd : Value) (A : Around) (outer : List Env) (s : Shared) (H : Hp) (E : XK) : Cx where
  prog := P
  w := w
  K := K
  mg := mg
  base := base
  A := A.deeper (envOfC qual scope s.heap.objs.size f cd)
  N := N
  s₀ := s
  H₀ := H
  env := envOfC qual scope s.heap.objs.size f cd
  outer := outer
  stack := envOfC qual scope s.heap.objs.size f cd :: outer
  ex := []
  calm := true
  fn := fun _ => true
  pn := []
  xe := fun e s' => wpAny (model P w) (A.deeper (envOfC qual scope s.heap.objs.size f cd)) (leaving (envOfC qual scope s.heap.objs.size f cd) e) (fun _ s'' => CX outer H s E e s'') (fun e' s'' => CX outer H s E e' s'') s'
theorem cell_has {sc : Scope} {n : Nat} {x : Str} (h : sc.names.lookup x = some .cell) : ∃ c, (cellsFrom n sc.names []).lookup x = some c := by
  have q := PySem.W.cellsFrom_some sc.names n [] (.inl h)
  exact Option.isSome_iff_exists.mp q
theorem inv_start {CX : CXT} {P : Program} {w : World} {K : PySem.W.Frag} {mg : Str → Option Value} {base : Heap} {N ps : List Str} {qual : Str} {scope : Scope} {f : Addr} {cd : Value} {A : Around} {outer : List Env} {s s1 : Shared} {H : Hp} {E : XK} {us : List Value} {vs : List V}
    (S : FnScope N ps scope) (hd : A.handled = none) (e0 : Env0 P w K mg base A outer s H) (hl : vs.length = ps.length) (r : Vals vs us)
    (x : InCallC s s.heap.objs.size (bindL (envOfC qual scope s.heap.objs.size f cd).kindOf (ps.zip us) fun _ => none) (cellsFrom (s.heap.objs.size + 1) scope.names []) (bindC (envOfC qual scope s.heap.objs.size f cd).kindOf (ps.zip us) fun _ => none) s1) :
    Inv (cxOf CX P w K mg base N qual scope f cd A outer s H E) [] (start N vs) H s1 := by
  have hpl : ps.length ≤ N.length := by have := congrArg List.length S.pre; rw [List.length_take] at this; omega
  obtain ⟨h1, tk, rfl, hk⟩ := x.done
  have noA : ∀ b : Addr, b ∉ (cxOf CX P w K mg base N qual scope f cd A outer s H E).ex := fun b z => absurd (show b ∈ ([] : List Addr) from z) (by simp)
  refine ⟨⟨e0.mod, S.kind, rfl, rfl, Nat.le_refl _, fun y z c h1 h2 => ?_, fun y hy => ?_, fun y c _ h => ?_, fun _ => hd, Around.frames_deeper e0.frames, .inr ⟨rfl, rfl⟩, fun b z => absurd z (noA b), e0.bs, e0.bsz, fun b _ _ => noA b, fun b z => absurd z (noA b), e0.funs, e0.frf⟩,
    rfl, e0.bare, Un.kept hk, ⟨_, x.toInCall.ns, fun i y v h1 h2 h3 => ?_⟩, fun y c h => ⟨_, x.cell y c h⟩, e0.hok.fresh (Nat.le_refl _), fun y c h => ?_, fun p hp => absurd (show p ∈ ([] : List (Addr × Obj)) from hp) (by simp), e0.hok.kept hk, ?_⟩
  · exact name_of_addr x.apart (PySem.mem_of_lookup h1) (PySem.mem_of_lookup h2)
  · have hy : scope.names.lookup y = some .cell ∨ scope.names.lookup y = some .free := hy
    rcases hy with hy | hy
    · exact cell_has hy
    · exact absurd rfl (S.nofree _ (PySem.mem_of_lookup hy))
  · exact Nat.le_of_lt (x.above y c (PySem.mem_of_lookup h))
  · have hi : i < vs.length := by
      unfold start at h2
      by_cases hi : i < vs.length
      · exact hi
      · rw [List.getElem?_append_right (by simpa using hi)] at h2
        rw [List.getElem?_replicate] at h2
        split at h2 <;> cases h2
    have ha : vs[i]? = some v := by
      unfold start at h2
      rw [List.getElem?_append_left (by simpa using hi), List.getElem?_map] at h2
      cases e : vs[i]? with
      | none => rw [e] at h2; cases h2
      | some a => rw [e] at h2; cases h2; rfl
    obtain ⟨u, hu, rv⟩ := r.get ha
    have hp : ps[i]? = some y := by
      rw [← S.pre, List.getElem?_take_of_lt (by omega)]; exact h1
    have ndP : ps.Nodup := by rw [← S.pre]; exact S.nd.sublist (List.take_sublist _ _)
    refine ⟨u, rv, ?_⟩
    rcases S.par y (List.mem_of_getElem? hp) with k | k
    · exact .inl ⟨k, bindL_get ndP hp hu k⟩
    · obtain ⟨c, e⟩ := cell_has (n := s.heap.objs.size + 1) k
      refine .inr ⟨.inl k, c, e, ?_⟩
      have q := x.cell y c e
      rw [bindC_get ndP hp hu (by show scope.names.lookup y ≠ _; rw [k]; decide)] at q
      exact q
  · exact e0.hok.fresh (Nat.le_of_lt (x.above y c (PySem.mem_of_lookup h)))
  · unfold start
    show _ = N.length
    rw [List.length_append, List.length_map, List.length_replicate]
    omega
theorem fn_of {CX : CXT} {P : Program} {w : World} {K : PySem.W.Frag} {mg : Str → Option Value} {base : Heap} {k : Nat} {f : Addr} {name qual : Str} {params : Arguments} {body : List Stmt} {scope : Scope} {dV kV doc pm cdv ct oc : Value} {an od : Option Addr}
    {osl : Array (Option Value)} {N ps : List Str} {sp : Sp} (lk : K.lookup f = some ⟨oc, od, .func (PySem.W.fnOf name qual params body scope dV kV doc pm an cdv ct), osl⟩) (hcd : PySem.W.codeIn K cdv qual = true) (S : FnScope N ps scope)
    (len : ∀ vs H Q E, sp vs H Q E → vs.length = ps.length)
    (hbody : ∀ (A : Around) (outer : List Env) (s : Shared) (H : Hp) (vs : List V) (Q : VK) (E : XK), Room k (A.deeper (envOfC qual scope s.heap.objs.size f cdv)) → sp vs H Q E →
      ∃ t, PSs (cxOf CX P w K mg base N qual scope f cdv A outer s H E) body t ∧ t { nx := fun _ H' => Q .non H', rt := Q } (start N vs) H) :
    FnOk P w K mg base CX (k + 1) f (PySem.W.fnOf name qual params body scope dV kV doc pm an cdv ct) ps sp := by
  refine ⟨len, fun A outer s H args us vs Q E hr e0 hb r hsp => ?_⟩
  have hl := len _ _ _ _ hsp
  have KX : K.In s.heap := e0.mod.kin.keeps fun b o e => (e0.bs b o e).1
  have lim : s.heap.NoLimit := e0.mod.nolimit.keeps fun b o e => (e0.bs b o e).1
  have hkind : ∀ y ∈ ps.zip us, scope.names.lookup y.1 = some .local ∨ (scope.names.lookup y.1 = some .cell ∧ ((cellsFrom (s.heap.objs.size + 1) scope.names []).lookup y.1).isSome = true) := fun ⟨n, v⟩ hy => by
    rcases S.par n (List.of_mem_zip hy).1 with q | q
    · exact .inl q
    · exact .inr ⟨q, PySem.W.cellsFrom_some _ _ _ (.inl q)⟩
  refine codeAny_call_function hr.depth (KX _ _ lk) rfl S.co S.gen rfl (PySem.W.codeRec_of KX hcd) (hb _ _ _ _ ?_)
  refine wpAny_newFunctionEnv_cells S.kind hkind fun env he s1 x => ?_
  subst he
  refine ⟨lim.keeps x.toInCall.keep, codeAny_func ?_⟩
  obtain ⟨t, ht, hq⟩ := hbody A outer s H vs Q E (hr.deeper _) hsp
  have I : Inv (cxOf CX P w K mg base N qual scope f cdv A outer s H E) [] (start N vs) H s1 := inv_start S hr.hd e0 hl r x
  refine wpAny_mono (ht [] s1 (start N vs) H _ I hq) (fun fl s' hs => ?_) fun e s' hs => hs
  have fin : ∀ {σ' : St} {H' : Hp} {v : V} {u : Value}, Inv (cxOf CX P w K mg base N qual scope f cdv A outer s H E) [] σ' H' s' → RelV v u → Q v H' → CE outer P w H s Q u s' :=
    fun {σ' H' v u} J rv q => ⟨v, H', J.os, J.bare, J.base, J.hok, rv, q⟩
  cases fl with
  | ret u =>
    obtain ⟨v, σ', H', J, rv, q⟩ := hs
    exact fin J rv q
  | next =>
    obtain ⟨σ', H', J, q⟩ := hs
    exact fin (v := V.non) (u := Value.none) J rfl q
  | brk =>
    obtain ⟨_, _, _, q⟩ := hs
    exact False.elim q
  | cont =>
    obtain ⟨_, _, _, q⟩ := hs
    exact False.elim q
end L2
namespace L2
open PySem PySem.Spec PyProof.Rows
section
variable {X : Cx} {x : Str} {p pos : Pos} {e : Expr} {es : List Expr} {t : TA} {id T : String} {r : List V → Hp → VK → Prop}
def tCB (r : List V → Hp → VK → Prop) (t : TA) : TE := fun σ H Q => t σ H fun vs H1 => r vs H1 Q
theorem pe_callB (hc : CallR X (.builtin id) r) (hg : Gl X x) (hm : X.mg x = none) (hv : bootBuiltins x = some (.builtin id)) (ha : PA X (e :: es) t) (hn : x ≠ "__name__" := by decide) (hdb : (x == ("__debug__" : Str)) = false := by decide)
    (he : starEach (e :: es) X.env = (false, eval e X.env) :: starEach es X.env := by rfl) (hpl : (backTo pos (starEach es X.env)).any (·.1) = false := by rfl) : PE X (.Call (.Name x p) (e :: es) [] pos) (tCB r t) := by
  intro pins s σ H Q I h
  refine wpAny_Call_Name_kw (ld_blt I hg hm hv ?_ hn hdb)
  exact PyProof.Rows.callWith_builtin1 (thn (ha pos pins s σ H _ I h) fun us s1 ⟨vs, H1, I1, r1, q1⟩ => hc pins s1 σ H1 vs us Q I1 r1 q1) he hpl
theorem pe_callTy (hc : CallR X (.type T) r) (hg : Gl X x) (hm : X.mg x = none) (hv : bootBuiltins x = some (.type T)) (ha : PA X (e :: es) t) (hn : x ≠ "__name__" := by decide) (hdb : (x == ("__debug__" : Str)) = false := by decide)
    (he : starEach (e :: es) X.env = (false, eval e X.env) :: starEach es X.env := by rfl) (hpl : (backTo pos (starEach es X.env)).any (·.1) = false := by rfl) : PE X (.Call (.Name x p) (e :: es) [] pos) (tCB r t) := by
  intro pins s σ H Q I h
  refine wpAny_Call_Name_kw (ld_blt I hg hm hv ?_ hn hdb)
  exact PyProof.Rows.callWith_type1 (thn (ha pos pins s σ H _ I h) fun us s1 ⟨vs, H1, I1, r1, q1⟩ => hc pins s1 σ H1 vs us Q I1 r1 q1) he hpl
end
end L2
namespace HT
open PySem PyProof.Rows
section
open PySem.SeqAt
open PySem.AutoSeq1 (wpAny_loadPart')
open PySem.MeetsSeq PySem.MeetsSeq2 PySem.MeetsSeq3
end
section
variable {prog : Program} {w : World} {A : Around} {E : Value → Shared → Prop} {s : Shared}
def sIx (n d : Nat) : Option Int → Nat
  | none => d
  | some v => if v < 0 then (v + (n : Int)).toNat else min v.toNat n
theorem sIx_none (n d : Nat) : sIx n d none = d := rfl
theorem sIx_nat (n d k : Nat) : sIx n d (some (k : Int)) = min k n := by
  show (if (k : Int) < 0 then ((k : Int) + (n : Int)).toNat else min (k : Int).toNat n) = min k n
  rw [if_neg (by omega), Int.toNat_natCast]
end
end HT
namespace L2
open PySem PySem.Spec PyProof.Rows
abbrev TO := St → Hp → (Option Int → Hp → Prop) → Prop
def PO (X : Cx) (e : Option Expr) (t : TO) : Prop :=
  ∀ (pins : List (Addr × Obj)) (s : Shared) (σ : St) (H : Hp) (Q : Option Int → Hp → Prop), Inv X pins σ H s → t σ H Q →
    wpAny (model X.prog X.w) X.A (evalPart e X.env) (fun u s' => ∃ o H', Inv X pins σ H' s' ∧ IsPart u o ∧ Q o H') X.xe s
def tNoPart : TO := fun _ H Q => Q none H
def tPart (t : TE) : TO := fun σ H Q => t σ H fun x H1 => ∃ i, x = .int i ∧ Q (some i) H1
section
variable {X : Cx} {e : Expr} {te : TE} {lo hi : Option Expr} {tl th : TO} {pos p2 : Pos}
theorem po_none : PO X none tNoPart := by
  intro pins s σ H Q I h
  rw [evalPart_none]
  exact wpAny_pure ⟨none, H, I, .none, h⟩
theorem po_some (h : PE X e te) : PO X (some e) (tPart te) := by
  intro pins s σ H Q I hw
  rw [evalPart_some]
  refine thn (h pins s σ H _ I hw) fun u s1 ⟨x, H1, I1, r1, q1⟩ => ?_
  obtain ⟨i, rfl, q⟩ := q1
  obtain ⟨t, rfl⟩ := r1
  exact ⟨some i, H1, I1, .int i t, q⟩
def SlR (X : Cx) (r : V → Option Int → Option Int → Hp → VK → Prop) : Prop :=
  ∀ (pins : List (Addr × Obj)) (s : Shared) (σ : St) (H : Hp) (x : V) (v vl vu : Value) (lo hi : Option Int) (sl : Addr) (Q : VK), Inv X pins σ H s → RelV x v → s.heap.IsSliceOf sl vl vu .none → IsPart vl lo → IsPart vu hi → r x lo hi H Q →
    ∃ T id, typeLookup (.type T) "__getitem__" = pure (some (.builtin id)) ∧ s.TypeIs v T ∧ wpAny (model X.prog X.w) X.A (getItem v (.ref sl)) (EP X pins σ Q) X.xe s
def tSl (r : V → Option Int → Option Int → Hp → VK → Prop) (te : TE) (tl th : TO) : TE := fun σ H Q => te σ H fun x H1 => tl σ H1 fun l H2 => th σ H2 fun u H3 => r x l u H3 Q
theorem pe_slice {r : V → Option Int → Option Int → Hp → VK → Prop} (hr : SlR X r) (he : PE X e te) (hl : PO X lo tl) (hu : PO X hi th) : PE X (.Subscript e (.Slice lo hi none p2) pos) (tSl r te tl th) := by
  intro pins s σ H Q I h
  refine Subscript_ (thn (he pins s σ H _ I h) fun v s1 ⟨x, H1, I1, r1, q1⟩ => ?_)
  refine wpAny_Slice (thn (hl pins s1 σ H1 _ I1 q1) fun vl s2 ⟨l, H2, I2, pl, q2⟩ => thn (hu pins s2 σ H2 _ I2 q2) fun vu s3 ⟨u, H3, I3, pu, q3⟩ => ?_)
  rw [evalPart_none]
  refine wpAny_pure ?_
  have I4 : Inv X pins σ H3 { s3 with heap := s3.heap.push { cls := .type "slice", data := .fields #[vl, vu, .none] } } := I3.kept (t' := s3.toks) fun b ob q => Heap.get?_push_of_some _ q
  obtain ⟨T, id, hT, ht, hg⟩ := hr pins { s3 with heap := s3.heap.push { cls := .type "slice", data := .fields #[vl, vu, .none] } } σ H3 x v vl vu l u s3.heap.objs.size Q I4 r1 (Heap.IsSliceOf.new ..) pl pu q3
  show wpAny (model X.prog X.w) X.A (subscriptTail e (.Slice lo hi none p2) v (.ref s3.heap.objs.size)) (EP X pins σ Q) X.xe { s3 with heap := s3.heap.push { cls := .type "slice", data := .fields #[vl, vu, .none] } }
  exact tail_any (ops := [.ref s3.heap.objs.size, v]) ht hT hg (by with_unfolding_all rfl)
def cutV (xs : List V) (lo hi : Option Int) : List V := (xs.drop (HT.sIx xs.length 0 lo)).take (HT.sIx xs.length xs.length hi - HT.sIx xs.length 0 lo)
theorem cutV_length (xs : List V) (lo hi : Option Int) : (cutV xs lo hi).length ≤ xs.length := by
  unfold cutV
  rw [List.length_take, List.length_drop]
  omega
end
end L2
namespace L2
open PySem PySem.Spec PyProof.Rows
def ixN (n : Nat) (i : Int) : Option Nat := if 0 ≤ i then (if i < n then some i.toNat else none) else if -(n : Int) ≤ i then some (i + n).toNat else none
def atI {α : Type} (xs : List α) (i : Int) : Option α := (ixN xs.length i).bind fun j => xs[j]?
theorem ixN_seq {n : Nat} {i : Int} {j : Nat} (h : ixN n i = some j) : seqIndex? i n = some j ∧ j < n ∧ -(n : Int) ≤ i ∧ i < n := by
  unfold ixN at h
  by_cases h0 : 0 ≤ i
  · rw [if_pos h0] at h
    by_cases h1 : i < n
    · rw [if_pos h1] at h
      have e : i.toNat = j := Option.some.inj h
      exact ⟨by rw [seqIndex_of h0 h1, e], by omega, by omega, h1⟩
    · rw [if_neg h1] at h; cases h
  · rw [if_neg h0] at h
    by_cases h1 : -(n : Int) ≤ i
    · rw [if_pos h1] at h
      have e : (i + n).toNat = j := Option.some.inj h
      exact ⟨by rw [seqIndex_neg (by omega) h1, e], by omega, h1, by omega⟩
    · rw [if_neg h1] at h; cases h
theorem atI_get {α : Type} {xs : List α} {i : Int} {v : α} (h : atI xs i = some v) : ∃ j, seqIndex? i xs.length = some j ∧ xs[j]? = some v ∧ j < xs.length ∧ -(xs.length : Int) ≤ i ∧ i < xs.length := by
  unfold atI at h
  cases e : ixN xs.length i with
  | none => rw [e] at h; cases h
  | some j =>
    rw [e] at h
    obtain ⟨h1, h2, h3, h4⟩ := ixN_seq e
    exact ⟨j, h1, h, h2, h3, h4⟩
theorem atI_nat {α : Type} {xs : List α} {j : Nat} {v : α} (h : xs[j]? = some v) : atI xs (j : Int) = some v := by
  have hj : j < xs.length := (List.getElem?_eq_some_iff.mp h).1
  have e : ixN xs.length (j : Int) = some j := by
    unfold ixN
    rw [if_pos (by omega), if_pos (by omega)]; simp
  unfold atI; rw [e]; exact h
def PlainIx (b : Expr) : Prop := ∀ o i, subscripted b false o i = operate [o, i] (getItem o i)
def IxR (X : Cx) (r : R2) : Prop :=
  ∀ (value slice : Expr) (pins : List (Addr × Obj)) (s : Shared) (σ : St) (H : Hp) (x y : V) (v u : Value) (Q : VK), Inv X pins σ H s → RelV x v → RelV y u → r x y H Q →
    subscripted slice false v u = operate [v, u] (getItem v u) → wpAny (model X.prog X.w) X.A (subscriptTail value slice v u) (EP X pins σ Q) X.xe s
def MtR (X : Cx) (id : String) (r : V → List V → Hp → VK → Prop) : Prop :=
  ∀ (pins : List (Addr × Obj)) (s : Shared) (σ : St) (H : Hp) (x : V) (xs : List V) (v : Value) (us : List Value) (Q : VK), Inv X pins σ H s → RelV x v → Vals xs us → r x xs H Q →
    wpAny (model X.prog X.w) X.A (call (.builtin id) (v :: us)) (EP X pins σ Q) X.xe s
section
variable {X : Cx} {a b : Expr} {ta tb : TE} {pos : Pos}
theorem pe_ix {r : R2} (hr : IxR X r) (ha : PE X a ta) (hb : PE X b tb) (hs : PlainIx b) : PE X (.Subscript a b pos) (tOp r ta tb) := by
  intro pins s σ H Q I h
  exact Subscript_ (binT ha hb I h fun v u s2 x y H2 I2 rx ry q => hr a b pins s2 σ H2 x y v u Q I2 rx ry q (hs _ _))
def rIxL (K : PySem.W.Frag) : R2 := fun x y H Q => ∃ p xs i v, x = .ref p ∧ y = .int i ∧ SqL K H p xs ∧ atI xs i = some v ∧ Q v H
def rIxS : R2 := fun x y H Q => ∃ z i c, x = .str z ∧ y = .int i ∧ z.length ≤ sizeLine ∧ atI z.cps.toList i = some c ∧ Q (.str ⟨#[c]⟩) H
theorem ix_list : IxR X (rIxL X.K) := by
  intro value slice pins s σ H x y v u Q I rx ry h hs
  obtain ⟨p, xs, i, z, rfl, rfl, hq, he, q⟩ := h
  cases rx
  obtain ⟨t, rfl⟩ := ry
  obtain ⟨its, r, pl, hz⟩ := I.list hq
  obtain ⟨j, h1, h2, h3, h4, h5⟩ := atI_get he
  obtain ⟨w, ew, rw'⟩ := r.get h2
  have hl := r.length
  have hn := line63
  have fin : EP X pins σ Q w s := ⟨z, H, I, rw', q⟩
  by_cases h0 : 0 ≤ i
  · have hj : i.toNat = j := by
      rw [seqIndex_of h0 h5] at h1
      exact Option.some.inj h1
    exact item_listR pl.isList h0 (by omega) (by rw [hj]; simpa using ew) fin hs
  · have hj : (i + (its.toArray.size : Int)).toNat = j := by
      rw [seqIndex_neg (by omega) h4] at h1
      rw [List.size_toArray, ← hl]
      exact Option.some.inj h1
    exact subscriptTail_builtinR (x := w) pl.isList.typeIs slot_list_getitem.lookup
      (wpAny_getItem_list_neg (Q := fun r s' => r = w ∧ EP X pins σ Q r s') pl.isList (by omega) (by rw [List.size_toArray] <;> omega) (by omega) (by rw [hj]; simpa using ew) ⟨rfl, fin⟩) hs
theorem ix_str : IxR X rIxS := by
  intro value slice pins s σ H x y v u Q I rx ry h hs
  obtain ⟨z, i, c, rfl, rfl, hz, he, q⟩ := h
  obtain ⟨t, rfl⟩ := rx
  obtain ⟨t', rfl⟩ := ry
  obtain ⟨j, h1, h2, h3, h4, h5⟩ := atI_get he
  have hl : z.cps.toList.length = z.length := by simp [Str.length]
  rw [hl] at h1 h4 h5
  have hn := line63
  exact tail_any (typeIs_str s z t) slot_str_getitem.lookup (getItem_str (c := c) (by
    have e1 : decide (i < -(2 ^ 63 : Int)) = false := decide_eq_false (by omega)
    have e2 : decide (i ≥ 2 ^ 63) = false := decide_eq_false (by omega)
    rw [e1, e2, Bool.or_false]) (by rw [h1]; simpa using h2) ⟨.str ⟨#[c]⟩, H, I.tok _, ⟨_, rfl⟩, q⟩) hs
theorem mapSeq_set (its : List Value) (n j : Nat) (u : Value) : Obj.mapSeq (·.setIfInBounds j u) { cls := .type "list", data := .seq its.toArray n } = { cls := .type "list", data := .seq (its.set j u).toArray n } := by
  simp [Obj.mapSeq]
theorem Inv.lst {pins : List (Addr × Obj)} {σ : St} {H : Hp} {s : Shared} {p : Addr} {xs : List V} (I : Inv X pins σ H s) (h : H p = some (.lst xs)) :
    ∃ (its : List Value) (n : Nat), Vals xs its ∧ s.heap.get? p = some { cls := .type "list", data := .seq its.toArray n } ∧ xs.length ≤ sizeLine := by
  obtain ⟨z, its, n, r, e⟩ := I.hok p _ h
  exact ⟨its, n, r, e, z⟩
theorem Inv.lstUpd {pins : List (Addr × Obj)} {σ : St} {H : Hp} {s : Shared} {p : Addr} {xs ys : List V} {its its' : List Value} {n n' : Nat} {f : Obj → Obj} (I : Inv X pins σ H s) (h : H p = some (.lst xs))
    (ho : s.heap.get? p = some { cls := .type "list", data := .seq its.toArray n }) (hf : f { cls := .type "list", data := .seq its.toArray n } = { cls := .type "list", data := .seq its'.toArray n' }) (r : Vals ys its') (hz : ys.length ≤ sizeLine) (t : Nat) :
    Inv X pins σ (upd H p (.lst ys)) { s with heap := s.heap.update p f, toks := t } := by
  have e : (s.heap.update p f).get? p = some { cls := .type "list", data := .seq its'.toArray n' } := by
    rw [Heap.get?_update_self f ho (by rw [hf] <;> rfl), hf]
  refine I.write (x := p) (e := p) (by rw [h]; trivial) (.inl rfl) (fun b u hb q => (Heap.get?_update_other _ _ (Ne.symm hb)).trans q) ⟨_, e⟩ ?_
  exact ⟨hz, its', n', r, e⟩
def rSetL : V → V → V → Hp → (Hp → Prop) → Prop := fun o i v H Q => ∃ p xs k j, o = .ref p ∧ i = .int k ∧ H p = some (.lst xs) ∧ ixN xs.length k = some j ∧ Q (upd H p (.lst (xs.set j v)))
theorem set_list : PSet X rSetL := by
  intro pins s σ H o i v ov iv u Q I ro ri rv h
  obtain ⟨p, xs, k, j, rfl, rfl, hp, hj, q⟩ := h
  cases ro
  obtain ⟨t, rfl⟩ := ri
  obtain ⟨its, n, r, ho, hz⟩ := I.lst hp
  obtain ⟨h1, h2, h3, h4⟩ := ixN_seq hj
  have hl := r.length
  have hn := line63
  have I' : Inv X pins σ (upd H p (.lst (xs.set j v))) { s with heap := s.heap.update p (Obj.mapSeq (·.setIfInBounds j u)) } :=
    I.lstUpd hp ho (mapSeq_set its n j u) (r.set rv j) (by rw [List.length_set]; exact hz) s.toks
  by_cases h0 : 0 ≤ k
  · have hk : k.toNat = j := by
      rw [seqIndex_of h0 h4] at h1
      exact Option.some.inj h1
    exact PySem.W.ki_setAt ho h0 (by omega) (by rw [List.size_toArray, ← hl]; exact h4) (by rw [hk]; exact ⟨_, I', q⟩)
  · have hk : (k + (its.toArray.size : Int)).toNat = j := by
      rw [seqIndex_neg (by omega) h3] at h1
      rw [List.size_toArray, ← hl]
      exact Option.some.inj h1
    exact PySem.W.ki_setBack ho (by omega) (by rw [List.size_toArray, ← hl]; exact h3) (by omega) (by rw [hk]; exact ⟨_, I', q⟩)
theorem slice_bounds (lo hi : Option Int) (n : Nat) : (sliceBounds lo hi none n).1 = ((HT.sIx n 0 lo : Nat) : Int) ∧ (sliceBounds lo hi none n).2.1 = ((HT.sIx n n hi : Nat) : Int) ∧ (sliceBounds lo hi none n).2.2 = 1 := by
  refine ⟨?_, ?_, rfl⟩
  · cases lo with
    | none => simp [sliceBounds, HT.sIx]
    | some i =>
      simp only [sliceBounds, HT.sIx, Option.getD_none, show (1 : Int) > 0 by decide, if_true]
      by_cases h : i < 0
      · simp only [h, if_true] <;> omega
      · simp only [h, if_false] <;> omega
  · cases hi with
    | none => simp [sliceBounds, HT.sIx]
    | some i =>
      simp only [sliceBounds, HT.sIx, Option.getD_none, show (1 : Int) > 0 by decide, if_true]
      by_cases h : i < 0
      · simp only [h, if_true] <;> omega
      · simp only [h, if_false] <;> omega
theorem slicePick_cut (its : List Value) (lo hi : Option Int) : slicePick its.toArray lo hi none = ((its.drop (HT.sIx its.length 0 lo)).take (HT.sIx its.length its.length hi - HT.sIx its.length 0 lo)).toArray := by
  obtain ⟨h1, h2, h3⟩ := slice_bounds lo hi its.toArray.size
  unfold slicePick
  rw [h1, h2, h3]
  simp only [sliceRange_one, pick_run, List.size_toArray] <;> rfl
def rSlL (K : PySem.W.Frag) : V → Option Int → Option Int → Hp → VK → Prop := fun x lo hi H Q => ∃ a xs, x = .ref a ∧ SqL K H a xs ∧ ∀ p, H p = none → Q (.ref p) (upd H p (.lst (cutV xs lo hi)))
theorem sl_list : SlR X (rSlL X.K) := by
  intro pins s σ H x v vl vu lo hi sl Q I rx hs pl pu h
  obtain ⟨a, xs, rfl, hx, q⟩ := h
  cases rx
  obtain ⟨its, r, ht, hz⟩ := I.list hx
  have hlen := r.length
  refine ⟨"list", _, slot_list_getitem.lookup, ht.isList.typeIs, ?_⟩
  refine wpAny_getItem_list_slice ht.isList hs pl pu .none (by simp) ?_ (by rw [List.size_toArray] <;> omega)
  rw [slicePick_cut, ← hlen]
  refine ⟨.ref s.heap.objs.size, _, I.laid (t' := s.toks) (o := .lst (cutV xs lo hi)) (fun b ob q => Heap.get?_push_of_some _ q) (Nat.le_refl _) ?_, rfl, q _ (I.hok.fresh (Nat.le_refl _))⟩
  exact ⟨Nat.le_trans (cutV_length xs lo hi) hz, _, 0, (r.drop (HT.sIx xs.length 0 lo)).take (HT.sIx xs.length xs.length hi - HT.sIx xs.length 0 lo), Heap.get?_push_size _ rfl⟩
def flatV : V → Bool
  | .non => true
  | .bl _ => true
  | .int _ => true
  | .str _ => true
  | _ => false
def eqV : V → V → Bool
  | .non, .non => true
  | .bl a, .bl b => a == b
  | .bl a, .int b => (if a then 1 else 0) == b
  | .int a, .bl b => a == (if b then 1 else 0)
  | .int a, .int b => a == b
  | .str a, .str b => a == b
  | _, _ => false
theorem eqAt_V {A : Around} {s : Shared} {y x : V} {u v : Value} (ry : RelV y u) (rx : RelV x v) (fy : flatV y = true) (fx : flatV x = true) : SeqAt.EqAt A s u v (eqV y x) := by
  cases y with
  | non =>
    cases ry
    cases x with
    | non => cases rx; exact SeqAt.EqAt.same _
    | bl b => cases rx; exact SeqAt.EqAt.none_bool b
    | int b => obtain ⟨t, rfl⟩ := rx; exact SeqAt.EqAt.none_int b t
    | str b => obtain ⟨t, rfl⟩ := rx; exact SeqAt.EqAt.none_str b t
    | _ => exact absurd (show false = true from fx) Bool.false_ne_true
  | bl a =>
    cases ry
    cases x with
    | non => cases rx; exact SeqAt.EqAt.bool_none a
    | bl b => cases rx; exact SeqAt.EqAt.bool_bool a b
    | int b => obtain ⟨t, rfl⟩ := rx; exact SeqAt.EqAt.bool_int a b t
    | str b => obtain ⟨t, rfl⟩ := rx; exact SeqAt.EqAt.bool_str a b t
    | _ => exact absurd (show false = true from fx) Bool.false_ne_true
  | int a =>
    obtain ⟨t', rfl⟩ := ry
    cases x with
    | non => cases rx; exact SeqAt.EqAt.int_none a t'
    | bl b => cases rx; exact SeqAt.EqAt.int_bool a t' b
    | int b => obtain ⟨t, rfl⟩ := rx; exact SeqAt.EqAt.int_int a t' b t
    | str b => obtain ⟨t, rfl⟩ := rx; exact SeqAt.EqAt.int_str a t' b t
    | _ => exact absurd (show false = true from fx) Bool.false_ne_true
  | str a =>
    obtain ⟨t', rfl⟩ := ry
    cases x with
    | non => cases rx; exact SeqAt.EqAt.str_none a t'
    | bl b => cases rx; exact SeqAt.EqAt.str_bool a t' b
    | int b => obtain ⟨t, rfl⟩ := rx; exact SeqAt.EqAt.str_int a t' b t
    | str b => obtain ⟨t, rfl⟩ := rx; exact SeqAt.EqAt.str_str a t' b t
    | _ => exact absurd (show false = true from fx) Bool.false_ne_true
  | _ => exact absurd (show false = true from fy) Bool.false_ne_true
def eqU (x : V) (u : Value) : Bool := match u with
  | .none => eqV .non x
  | .bool b => eqV (.bl b) x
  | .int i _ => eqV (.int i) x
  | .str z _ => eqV (.str z) x
  | _ => false
theorem eqU_of {x y : V} {u : Value} (r : RelV y u) (f : flatV y = true) : eqU x u = eqV y x := by
  cases y with
  | non => cases r; rfl
  | bl b => cases r; rfl
  | int i => obtain ⟨t, rfl⟩ := r; rfl
  | str z => obtain ⟨t, rfl⟩ := r; rfl
  | _ => exact absurd (show false = true from f) Bool.false_ne_true
theorem any_eqU {x : V} : ∀ {xs : List V} {us : List Value}, Vals xs us → xs.all flatV = true → us.any (eqU x) = xs.any fun y => eqV y x
  | _, _, .nil, _ => rfl
  | y :: xs, u :: us, .cons r t, f => by
    rw [List.all_cons, Bool.and_eq_true] at f
    rw [List.any_cons, List.any_cons, eqU_of r f.1, any_eqU t f.2]
theorem mem_eqAt {A : Around} {s : Shared} {x : V} {v : Value} (rx : RelV x v) (fx : flatV x = true) : ∀ {xs : List V} {us : List Value}, Vals xs us → xs.all flatV = true → ∀ u ∈ us, SeqAt.EqAt A s u v (eqU x u)
  | _, _, .nil, _ => fun u hu => by cases hu
  | y :: xs, u :: us, .cons r t, f => fun u' hu => by
    rw [List.all_cons, Bool.and_eq_true] at f
    rcases List.mem_cons.mp hu with rfl | hu
    · rw [eqU_of r f.1]; exact eqAt_V r rx f.1 fx
    · exact mem_eqAt rx fx t f.2 u' hu
def inV (x : V) (xs : List V) : Bool := xs.any fun y => eqV y x
def rIn (K : PySem.W.Frag) (neg : Bool) : R2 := fun x y H Q => ∃ p xs, y = .ref p ∧ (SqL K H p xs ∨ SqT K H p xs) ∧ flatV x = true ∧ xs.all flatV = true ∧ Q (.bl (if neg then !inV x xs else inV x xs)) H
theorem op_in_seq : OpR X (compareOp .In) (rIn X.K false) := by
  intro pins s σ H x y v u Q I rx ry h
  obtain ⟨p, xs, rfl, hq, fx, fs, q⟩ := h
  cases ry
  rcases hq with hq | hq
  · obtain ⟨its, r, pl, hz⟩ := I.list hq
    refine SeqAt.in_listAt (eqU x) pl.isList (fun w hw => mem_eqAt rx fx r fs w (by simpa using hw)) ⟨.bl _, H, I, rfl, ?_⟩
    rw [show its.toArray.any (eqU x) = its.any (eqU x) by simp, any_eqU r fs]
    exact q
  · obtain ⟨its, r, pl, hz⟩ := I.tuple hq
    refine SeqAt.in_tupleAt (eqU x) pl (fun w hw => mem_eqAt rx fx r fs w (by simpa using hw)) ⟨.bl _, H, I, rfl, ?_⟩
    rw [show its.toArray.any (eqU x) = its.any (eqU x) by simp, any_eqU r fs]
    exact q
theorem op_notIn_seq : OpR X (compareOp .NotIn) (rIn X.K true) := by
  intro pins s σ H x y v u Q I rx ry h
  obtain ⟨p, xs, rfl, hq, fx, fs, q⟩ := h
  cases ry
  rcases hq with hq | hq
  · obtain ⟨its, r, pl, hz⟩ := I.list hq
    refine SeqAt.notIn_listAt (eqU x) pl.isList (fun w hw => mem_eqAt rx fx r fs w (by simpa using hw)) ⟨.bl _, H, I, rfl, ?_⟩
    rw [show its.toArray.any (eqU x) = its.any (eqU x) by simp, any_eqU r fs]
    exact q
  · obtain ⟨its, r, pl, hz⟩ := I.tuple hq
    refine SeqAt.notIn_tupleAt (eqU x) pl (fun w hw => mem_eqAt rx fx r fs w (by simpa using hw)) ⟨.bl _, H, I, rfl, ?_⟩
    rw [show its.toArray.any (eqU x) = its.any (eqU x) by simp, any_eqU r fs]
    exact q
theorem call_len_seq : CallR X (.builtin "len") (fun xs H Q => ∃ p ys, xs = [.ref p] ∧ (SqL X.K H p ys ∨ SqT X.K H p ys) ∧ Q (.int ys.length) H) := by
  intro pins s σ H xs us Q I r h
  obtain ⟨p, ys, rfl, hq, q⟩ := h
  obtain ⟨u, rfl, rx⟩ := vals1 r
  cases rx
  have hn := line63
  rcases hq with hq | hq
  · obtain ⟨its, r', pl, hz⟩ := I.list hq
    have hlen := r'.length
    exact Calls.call_len_list pl.isList (by simp only [List.size_toArray] <;> omega) ⟨.int ys.length, H, I.tok _, ⟨s.toks + 1, by rw [List.size_toArray, hlen]⟩, q⟩
  · obtain ⟨its, r', pl, hz⟩ := I.tuple hq
    have hlen := r'.length
    exact len_tuple pl (by simp only [List.size_toArray] <;> omega) ⟨.int ys.length, H, I.tok _, ⟨s.toks + 1, by rw [List.size_toArray, hlen]⟩, q⟩
theorem call_len_str : CallR X (.builtin "len") (fun xs H Q => ∃ z, xs = [.str z] ∧ z.length ≤ sizeLine ∧ Q (.int z.length) H) := by
  intro pins s σ H xs us Q I r h
  obtain ⟨z, rfl, hz, q⟩ := h
  obtain ⟨u, rfl, t, rfl⟩ := vals1 r
  have hn := line63
  exact len_str (by omega) ⟨.int z.length, H, I.tok _, ⟨_, rfl⟩, q⟩
def tyV (K : PySem.W.Frag) (T : String) (x : V) (H : Hp) : Prop := match x with
  | .str _ => T = "str"
  | .int _ => T = "int"
  | .ref p => (T = "list" ∧ ∃ xs, SqL K H p xs) ∨ (T = "tuple" ∧ ∃ o, K.lookup p = some o ∧ o.cls = .type "tuple" ∧ o.dict = none) ∨
      (T = "dict" ∧ ((∃ kvs, H p = some (.dK kvs)) ∨ ∃ kvs, H p = some (.dT kvs))) ∨ (T = "set" ∧ ∃ S n, H p = some (.set S n))
  | _ => False
theorem tyV_is {pins : List (Addr × Obj)} {σ : St} {H : Hp} {s : Shared} {T : String} {x : V} {v : Value} (I : Inv X pins σ H s) (r : RelV x v) (ty : tyV X.K T x H) :
    s.TypeIs v T ∧ ∀ a, v = .ref a → ∃ ob, s.heap.get? a = some ob ∧ ob.dict = none := by
  cases x with
  | str z =>
    obtain ⟨t, rfl⟩ := r
    cases (show T = "str" from ty)
    exact ⟨typeIs_str s z t, fun _ e => nomatch e⟩
  | int i =>
    obtain ⟨t, rfl⟩ := r
    cases (show T = "int" from ty)
    exact ⟨typeIs_int s i t, fun _ e => nomatch e⟩
  | ref p =>
    cases r
    rcases ty with ⟨rfl, xs, hq⟩ | ⟨rfl, o, hk, hc, hd⟩ | ⟨rfl, hk⟩ | ⟨rfl, S, n, hk⟩
    · obtain ⟨its, _, pl, _⟩ := I.list hq
      refine ⟨pl.isList.typeIs, fun a e => ?_⟩
      cases e
      obtain ⟨o, n, e, c, hd, _⟩ := pl
      exact ⟨o, e, hd⟩
    · refine ⟨⟨o, I.kIn p o hk, hc⟩, fun a e => ?_⟩
      cases e
      exact ⟨o, I.kIn _ o hk, hd⟩
    · have z : ∃ o, s.heap.get? p = some o ∧ o.ExactDict := by
        rcases hk with ⟨kvs, hk⟩ | ⟨kvs, hk⟩
        · obtain ⟨_, _, _, _, o, _, _, e, ex, _⟩ := I.hok p _ hk
          exact ⟨o, e, ex⟩
        · obtain ⟨_, _, _, _, o, _, _, e, ex, _⟩ := I.hok p _ hk
          exact ⟨o, e, ex⟩
      obtain ⟨o, e, ex⟩ := z
      refine ⟨⟨o, e, ex.1⟩, fun a e2 => ?_⟩
      cases e2
      exact ⟨o, e, ex.2.1⟩
    · obtain ⟨o, _, _, _, e, ex, _⟩ := I.hok p _ hk
      refine ⟨⟨o, e, ex.1⟩, fun a e2 => ?_⟩
      cases e2
      exact ⟨o, e, ex.2.1⟩
  | _ => exact False.elim ty
def tBM (K : PySem.W.Frag) (T : String) (r : V → List V → Hp → VK → Prop) (to : TE) (t : TA) : TE := fun σ H Q => to σ H fun x H1 => tyV K T x H1 ∧ t σ H1 fun xs H2 => r x xs H2 Q
variable {o e : Expr} {es : List Expr} {to : TE} {t : TA} {name : Str} {apos cpos : Pos} {T id : String} {r : V → List V → Hp → VK → Prop}
theorem pe_bm (pa : PlainAttrs T) (slot : Slot T name id) (hty : typeOf (.builtin id) = pure (.type "method_descriptor")) (hm : MtR X id r) (ho : PE X o to) (ha : PA X (e :: es) t)
    (hbase : attributeBase o name X.env (eval o X.env) = eval o X.env := by rfl)
    (hfew : ((backTo cpos (starEach (e :: es) X.env)).all (fun x => !x.1) && (backToKw cpos (keywordEach [] X.env)).all (fun x => x.1.isSome)
      && decide ((e :: es).length + ([] : List Keyword).length + (if ([] : List Keyword).isEmpty then 0 else 1) < 30)) = true := by rfl)
    (hline : (apos.endLine == cpos.line) = true := by rfl) (hs : starEach (e :: es) X.env = (false, eval e X.env) :: starEach es X.env := by rfl) (hplain : (backTo cpos (starEach es X.env)).any (·.1) = false := by rfl) :
    PE X (.Call (.Attribute o name apos) (e :: es) [] cpos) (tBM X.K T r to t) := by
  intro pins s σ H Q I h
  refine wpAny_Call_method_late hbase hfew hline rfl (thn (ho pins s σ H _ I h) fun v s1 ⟨x, H1, I1, r1, ty, q1⟩ => ?_)
  obtain ⟨h1, h2⟩ := tyV_is I1 r1 ty
  refine ⟨T, id, pa, slot, hty, h1, h2, ?_⟩
  have hA := ha cpos pins s1 σ H1 _ I1 q1
  rw [hs] at hA ⊢
  refine Calls.callWith_builtin (by show (false || (backTo cpos (starEach es X.env)).any (·.1)) = false; rw [hplain] <;> rfl) (Calls.evalArgs_plain ?_)
  exact thn hA fun us s2 ⟨vs, H2, I2, r2, q2⟩ => hm pins s2 σ H2 x vs v us Q I2 r1 r2 q2
end
end L2
namespace L2
open PySem PySem.Spec PyProof.Rows
def MtM (X : Cx) (id : String) (r : V → List V → Hp → VK → Prop) : Prop :=
  ∀ (pins : List (Addr × Obj)) (s : Shared) (σ : St) (H : Hp) (x : V) (xs : List V) (v : Value) (us : List Value) (Q : VK), Inv X pins σ H s → RelV x v → Vals xs us → r x xs H Q →
    wpAny (model X.prog X.w) X.A (call (.builtin id) (v :: us)) (EP X pins σ Q) X.xe s
theorem Vals.one : ∀ {x : V} {us : List Value}, Vals [x] us → ∃ u, us = [u] ∧ RelV x u
  | _, _, .cons r .nil => ⟨_, rfl, r⟩
section
variable {X : Cx} {pins : List (Addr × Obj)} {σ : St} {H : Hp} {s : Shared} {l b : Addr} {xs ys zs : List V}
theorem Inv.lset {its its' : List Value} {n : Nat} {f : Array Value → Array Value} {t' : Nat} (I : Inv X pins σ H s) (hH : H l = some (.lst xs))
    (e : s.heap.get? l = some { cls := .type "list", data := .seq its.toArray n }) (hf : f its.toArray = its'.toArray) (hv : Vals ys its') (hz : ys.length ≤ sizeLine) :
    Inv X pins σ (upd H l (.lst ys)) { s with heap := s.heap.update l (Obj.mapSeq f), toks := t' } := by
  have q := PySem.IsL.update e f
  rw [hf] at q
  refine I.write (x := l) (e := l) (by rw [hH]; exact trivial) (.inl rfl) (fun b' u hb hu => (Heap.get?_update_other s.heap (Obj.mapSeq f) (Ne.symm hb)).trans hu) ⟨_, q⟩ ?_
  exact ⟨hz, its', _, hv, q⟩
theorem Inv.lnew {its : List Value} {t' : Nat} (I : Inv X pins σ H s) (hv : Vals ys its) (hz : ys.length ≤ sizeLine) :
    Inv X pins σ (upd H s.heap.objs.size (.lst ys)) { s with heap := s.heap.push { cls := .type "list", data := .seq its.toArray }, toks := t' } :=
  I.laid (fun _ _ q => Heap.get?_push_of_some _ q) (Nat.le_refl _) ⟨hz, its, 0, hv, Heap.get?_push_size _ rfl⟩
theorem Inv.fresh (I : Inv X pins σ H s) : H s.heap.objs.size = none := I.hok.fresh (Nat.le_refl _)
theorem Inv.lstM (I : Inv X pins σ H s) (hH : H l = some (.lst xs)) : xs.length ≤ sizeLine ∧ ∃ (its : List Value) (n : Nat), Vals xs its ∧ xs.length = its.length ∧ s.heap.get? l = some { cls := .type "list", data := .seq its.toArray n } := by
  obtain ⟨z, its, n, r, e⟩ := I.hok l _ hH
  exact ⟨z, its, n, r, r.length, e⟩
theorem notLongL {n : Nat} (h : n ≤ sizeLine) : Builtin.List.listTooLong n = false := by
  unfold Builtin.List.listTooLong
  exact decide_eq_false (by omega)
end
section
variable {X : Cx}
def rAppend : V → List V → Hp → VK → Prop := fun x vs H Q => ∃ l xs y, x = .ref l ∧ vs = [y] ∧ H l = some (.lst xs) ∧ xs.length < sizeLine ∧ Q .non (upd H l (.lst (xs ++ [y])))
theorem mt_append : MtM X "list.append" rAppend := by
  intro pins s σ H x vs v us Q I rx rv h
  obtain ⟨l, xs, y, rfl, rfl, hH, hz, q⟩ := h
  cases rx
  obtain ⟨u, rfl, ru⟩ := rv.one
  obtain ⟨z, its, n, r, hl, e⟩ := I.lstM hH
  refine call_meets F.slot_list_append ⟨_, e, rfl⟩ F.entry_list_append (F.args_list_append_2 _ _) (PySem.list_append l its.toArray n u (by rw [List.size_toArray]; omega)) ⟨e, ?_⟩
  refine ⟨.non, _, I.lset (its' := its ++ [u]) hH e (by simp) (r.append (.cons ru .nil)) ?_, rfl, q⟩
  rw [List.length_append, List.length_singleton]
  omega
def rExtend : V → List V → Hp → VK → Prop := fun x vs H Q => ∃ l b xs zs, x = .ref l ∧ vs = [.ref b] ∧ H l = some (.lst xs) ∧ H b = some (.lst zs) ∧ xs.length + zs.length ≤ sizeLine ∧ Q .non (upd H l (.lst (xs ++ zs)))
theorem mt_extend : MtM X "list.extend" rExtend := by
  intro pins s σ H x vs v us Q I rx rv h
  obtain ⟨l, b, xs, zs, rfl, rfl, hH, hB, hz, q⟩ := h
  cases rx
  obtain ⟨u, rfl, ru⟩ := rv.one
  cases ru
  obtain ⟨z, its, n, r, hl, e⟩ := I.lstM hH
  obtain ⟨z2, its2, n2, r2, hl2, e2⟩ := I.lstM hB
  have hsz : its.toArray.size + its2.toArray.size ≤ sizeLine := by rw [List.size_toArray, List.size_toArray]; omega
  have hlong : ¬ (!its.toArray.isEmpty && Builtin.List.listTooLong (its.toArray.size + its2.toArray.size)) = true := by
    rw [notLongL hsz, Bool.and_false]
    exact Bool.false_ne_true
  refine call_meets F.slot_list_extend ⟨_, e, rfl⟩ F.entry_list_extend (F.args_list_extend_2 _ _)
    (AutoSeq1.list_extend_list_list_0 l its.toArray n b its2.toArray n2 hlong (by rw [List.size_toArray]; omega) (by omega)) ⟨e, e2, ?_⟩
  refine ⟨.non, _, I.lset (its' := its ++ its2) hH e (by simp) (r.append r2) ?_, rfl, q⟩
  rw [List.length_append]
  omega
def rCat : R2 := fun x y H Q => ∃ l b xs zs, x = .ref l ∧ y = .ref b ∧ H l = some (.lst xs) ∧ H b = some (.lst zs) ∧ xs.length + zs.length ≤ sizeLine ∧ ∀ p, H p = none → Q (.ref p) (upd H p (.lst (xs ++ zs)))
theorem op_cat : OpR X (binaryOp .Add) rCat := by
  intro pins s σ H x y v u Q I rx ry h
  obtain ⟨l, b, xs, zs, rfl, rfl, hH, hB, hz, q⟩ := h
  cases rx
  cases ry
  obtain ⟨z, its, n, r, hl, e⟩ := I.lstM hH
  obtain ⟨z2, its2, n2, r2, hl2, e2⟩ := I.lstM hB
  refine PySem.P.add_list e e2 ?_ (by rw [List.size_toArray, List.size_toArray]; omega)
  have ea : its.toArray ++ its2.toArray = (its ++ its2).toArray := by simp
  rw [ea]
  exact ⟨.ref _, _, I.lnew (t' := s.toks) (r.append r2) (by rw [List.length_append]; omega), rfl, q _ I.fresh⟩
end
section
variable {prog : Program} {w : World} {A : Around} {E : Value → Shared → Prop} {s : Shared}
end
section
variable {X : Cx}
end
end L2
namespace Att
open PySem PySem.W PySem.Calls PyProof.Rows
theorem ints_of_wellAll {P : Params} {h : Heap} : ∀ (ns : List Int) (vs : List Value), WellAll P h vs (ns.map WData.int) → IntsAre vs ns := by
  intro ns
  induction ns with
  | nil =>
    intro vs w
    rw [List.map_nil] at w
    cases w
    exact .nil
  | cons n ns ih =>
    intro vs w
    rw [List.map_cons] at w
    cases w with
    | cons a b =>
      cases a
      exact .cons _ _ (ih _ b)
theorem script_of {l : OpenLaw} {n : Nat} (hn : l.most = some n) {P : Params} {h : Heap} {args : List WData} {vals : List Value}
    (hpre : l.row.toRowW.claim.pre args = true) (hwl : WellAll P h vals args) :
    ∃ a vs ns, vals = [Value.ref a] ∧ args = [WData.list (ns.map WData.int)] ∧ h.get? a = some { cls := .type "list", data := .seq vs.toArray } ∧ IntsAre vs ns ∧ ns.length ≤ n := by
  have hsh : WShape.hasAll [] args [.list .int] = true := (pre_splitW hpre).1
  have hc : l.pre.holds [] { args := args } = true := (pre_splitW hpre).2
  obtain ⟨d, r, rfl, h1, h2⟩ := hasAllW_cons hsh
  obtain rfl := hasAllW_nil h2
  obtain ⟨xs, rfl, h3⟩ := hasW_list h1
  obtain ⟨ns, rfl⟩ := items_int h3
  have hlen : ns.length ≤ n := by
    unfold OpenLaw.pre at hc
    have h4 : (WTm.not (.lt (.lit (.int (n : Int))) (.len (.arg 0)))).holds [] { args := [.list (ns.map .int)] } = true := by
      have h4 := (holds_andW hc).1
      rw [hn] at h4
      exact h4
    have h5 := condW_of h4 (w_not (w_lt w_lit (w_len_list (w_arg rfl))))
    rw [List.length_map] at h5
    refine Nat.le_of_not_lt fun q => ?_
    have q' : (n : Int) < ((ns.length : Nat) : Int) := by omega
    first
      | (rw [decide_eq_true q'] at h5; exact absurd h5 (by decide))
      | (simp at h5; omega)
  cases hwl with
  | cons w1 w2 =>
    cases w2
    cases w1 with
    | list ho hall => exact ⟨_, _, ns, rfl, rfl, ho, ints_of_wellAll ns _ hall, hlen⟩
theorem post_true (l : OpenLaw) (args : List WData) : l.row.toRowW.claim.post args (.bool true) args = true :=
  postW_of (r := l.row.toRowW) (X := (true == true))
    (show WShape.has [] (.bool true) .bool = true by first | rfl | decide | simp [WShape.has, WShape.arms, WShape.armsAll])
    (show (WTm.eq .res (.lit (.bool true))).value [] { args := args, res := some (.bool true), after := args } = some (.bool (true == true)) from w_eq_bool (w_res rfl) w_lit) rfl
theorem attach_call {l : OpenLaw} {n : Nat} {q : Program} {loose : List Str} {XP : (Str → Option Value) → Heap → Prop} {YP : World → Heap → Prop} {d : DefRec}
    (hn : l.most = some n) (hdf : d.params.defaults = [])
    (call : ∀ (w : World) (s₀ s₁ : Shared) (mg mb : Str → Option Value) (fa : Addr) (o : Obj) (pm cd doc : Value) (a : Addr) (vs : List Value) (ns : List Int),
      Ground q loose [] XP w s₀ mg mb s₁.heap → YP w s₁.heap →
      s₁.heap.get? fa = some o → o.data = .func (docDef d.name d.params d.body d.scope pm cd doc) → s₁.heap.CodeRec cd d.name → mg d.name = some (.ref fa) →
      s₁.heap.get? a = some { cls := .type "list", data := .seq vs.toArray } → IntsAre vs ns → ns.length ≤ n → s₁.gens = #[] →
      codeAny (model l.prog w) callerA (.call (.ref fa) ⟨[.ref a], []⟩) (fun r s' => r = .ok (.ret (.bool true)) ∧ OldK s₁.heap s'.heap ∧ s'.os = s₁.os ∧ AllBare s'.gens) s₁) :
    WalkO q loose XP YP l.row.toRowW d [] (fun f vs => PySem.call f vs) := by
  intro w s₀ s₁ mg mb G Y fa o pm cd doc dV kV ho hd hcd hD hmg hg args vals as hpre hlay hrd hwl hlo
  obtain rfl : dV = .none := Dflts.none hD hdf
  obtain rfl : kV = .none := Dflts.noKw hD
  obtain ⟨a, vs, ns, rfl, rfl, hobj, hints, hlen⟩ := script_of hn hpre hwl
  refine enter_call (codeAny_mono (call w s₀ s₁ mg mb fa o pm cd doc a vs ns G Y ho (fd_plain hd) hcd hmg hobj hints hlen hg) fun r s' hq => ?_)
  obtain ⟨rfl, h2, h3, h4⟩ := hq
  exact ⟨.inl ⟨.bool true, .bool true, [], rfl, fun _ => rfl, .bool true, post_true l _, fun _ => ⟨List.Pairwise.nil, fun _ hm => (nomatch hm)⟩⟩, h2, h3, h4⟩
section
variable {prog : Program} {w : World} {A : Around} {E : Value → Shared → Prop} {s : Shared} {K : Frag}
def ledger (h : Heap) (L d : Addr) : List (Addr × Obj) := (List.range h.objs.size).filterMap fun a => if a = L ∨ a = d then none else (h.get? a).map fun o => (a, o)
end
end Att
namespace L2
open PySem PySem.Spec PyProof.Rows
theorem vals_ints : ∀ {vs : List Value} {ns : List Int}, IntsAre vs ns → Vals (ns.map V.int) vs
  | _, _, .nil => .nil
  | _, _, .cons n t h => .cons ⟨t, rfl⟩ (vals_ints h)
def Only (H : Hp) : Prop := ∀ b, H b = none ∨ ∃ o xs, H b = some (.frz o (.lst xs))
theorem law_call {P : Program} {w : World} {K : PySem.W.Frag} {mg mb : Str → Option Value} {CX : CXT} {k : Nat} {fa a : Addr} {fd : FuncData} {x : Str} {sp : Sp} {s₁ : Shared} {vs : List Value} {ns : List Int}
    (KX : K.In s₁.heap) (hns : s₁.heap.Ns mainGlobals mg) (hb : s₁.heap.Ns builtinsNs mb) (hbb : ∀ x : Str, x ≠ "__name__" → mb x = bootBuiltins x) (hlim : s₁.heap.NoLimit) (hg : s₁.gens = #[])
    (ha : s₁.heap.get? a = some { cls := .type "list", data := .seq vs.toArray }) (hi : IntsAre vs ns) (hl : ns.length ≤ sizeLine) (hr : Room k callerA)
    (F : ∀ base : Heap, K.In base → base.Ns mainGlobals mg → FnOk P w K mg base CX k fa fd [x] sp) (hbind : ∀ (s : Shared) (u : Value), BindsTo s fd ⟨[u], []⟩ [(x, u)])
    (hsp : ∀ H : Hp, Only H → SqL K H a (ns.map V.int) → sp [.ref a] H (fun v _ => v = .bl true) fun _ _ _ => False)
    (hCX : ∀ H e s', CX [] H s₁ (fun _ _ _ => False) e s' → False) :
    codeAny (model P w) callerA (.call (.ref fa) ⟨[.ref a], []⟩) (fun r s' => r = .ok (.ret (.bool true)) ∧ OldK s₁.heap s'.heap ∧ s'.os = s₁.os ∧ AllBare s'.gens) s₁ := by
  have rv := vals_ints hi
  have lenV := hi.length
  have core : ∀ H : Hp, Only H → SqL K H a (ns.map V.int) → HOk P w H s₁.heap → (∀ b, H b ≠ none → b = a) → (H a ≠ none → K.lookup a = none) →
      codeAny (model P w) callerA (.call (.ref fa) ⟨[.ref a], []⟩) (fun r s' => r = .ok (.ret (.bool true)) ∧ OldK s₁.heap s'.heap ∧ s'.os = s₁.os ∧ AllBare s'.gens) s₁ := by
    intro H hO hS hok hA hK
    have base_of : ∀ {b : Addr} {o : Obj}, s₁.heap.get? b = some o → H b = none → (hidT s₁.heap H).get? b = some o := fun e n => hidT_get e n
    have noA : ∀ {b : Addr} {o : Obj} {es : Array DictEntry} {ep : Nat}, s₁.heap.get? b = some o → o.data = .dict es ep → H b = none := fun {b o es ep} e d => by
      cases q : H b with
      | none => rfl
      | some u =>
        have e' : b = a := hA b (by rw [q]; simp)
        subst e'
        rw [ha] at e; cases e
        have d' : Data.seq vs.toArray _ = Data.dict es ep := d
        cases d'
    have nsK : ∀ {b : Addr} {m : Str → Option Value}, s₁.heap.Ns b m → (hidT s₁.heap H).Ns b m := fun {b m} ⟨o, es, ep, e, d, r⟩ => ⟨o, es, ep, base_of e (noA e d), d, r⟩
    have hKb : K.In (hidT s₁.heap H) := fun b o e => base_of (KX b o e) (by
      cases q : H b with
      | none => rfl
      | some u =>
        have e' : b = a := hA b (by rw [q]; simp)
        subst e'
        rw [hK (by rw [q]; simp)] at e; cases e)
    have hM : Mod K mg (hidT s₁.heap H) := ⟨hKb, nsK hns, ⟨mb, nsK hb, hbb⟩, let ⟨mc, h1, h2⟩ := hlim; ⟨mc, nsK h1, h2⟩⟩
    have e0 : Env0 P w K mg (hidT s₁.heap H) callerA [] s₁ H := ⟨rfl, hM, fun b o e => of_hidT e, Nat.le_of_eq (hidT_size _ _), trivial, fun b hb => absurd (show b ∈ ([] : List Addr) from hb) (by simp), hok, .of_eq hg⟩
    refine codeAny_mono ((F _ hKb (nsK hns)).run callerA [] s₁ H ⟨[.ref a], []⟩ [.ref a] [.ref a] _ _ hr e0 (hbind s₁ (.ref a)) (.cons rfl .nil) (hsp H hO hS)) fun r s' h => ?_
    cases r with
    | error e => exact (hCX H e s' h).elim
    | ok fl =>
      cases fl with
      | next => exact False.elim h
      | brk => exact False.elim h
      | cont => exact False.elim h
      | ret u =>
        obtain ⟨v, H', os, bare, un, hok', r', q⟩ := h
        have q' : v = .bl true := q
        subst q'
        obtain rfl : u = Value.bool true := r'
        refine ⟨rfl, OldK.of_keep fun b o e => ?_, os, bare⟩
        cases q : H b with
        | none => exact un.keep b o e q (by intro z; exact absurd (show b ∈ ([] : List Addr) from z) (by simp)) (by simp)
        | some u =>
          rcases hO b with z | ⟨ob, xs, z⟩
          · rw [q] at z; cases z
          · have z2 := un.frzs b ob _ z
            obtain ⟨e1, _⟩ := hok b _ z
            obtain ⟨e2, _⟩ := hok' b _ z2
            rw [e] at e1; cases e1
            exact e2
  cases hk : K.lookup a with
  | some o =>
    have e := KX a o hk
    rw [ha] at e
    cases e
    refine core (fun _ => none) (fun _ => .inl rfl) (.inr ⟨_, vs.toArray, _, hk, rfl, rfl, rfl, by rw [List.size_toArray, lenV]; exact hl, by simpa using rv⟩) (fun b u z => by have z' : (none : Option HO) = some u := z; cases z') (fun b z => absurd rfl z) fun z => absurd rfl z
  | none =>
    refine core (fun b => if b = a then some (.frz { cls := .type "list", data := .seq vs.toArray } (.lst (ns.map V.int))) else none) (fun b => ?_) (.inl (.inr ⟨{ cls := .type "list", data := .seq vs.toArray }, if_pos rfl⟩)) (fun b u z => ?_) (fun b z => ?_) fun _ => hk
    · by_cases hb : b = a
      · exact .inr ⟨_, _, if_pos hb⟩
      · exact .inl (if_neg hb)
    · by_cases hb : b = a
      · have z' := (if_pos hb).symm.trans z
        cases z'
        subst hb
        exact ⟨ha, by rw [List.length_map]; exact hl, vs, _, rv, ha⟩
      · have z' := (if_neg hb).symm.trans z
        cases z'
    · by_cases hb : b = a
      · exact hb
      · exact absurd (if_neg hb) z
end L2
namespace L2
open PySem PySem.Spec PyProof.Rows
abbrev KOf {K : PySem.W.Frag} {h : Heap} (_ : K.In h) : PySem.W.Frag := K
theorem walk_of {l : PySem.W.OpenLaw} {n k : Nat} {q : Program} {loose : List Str} {XP : (Str → Option Value) → Heap → Prop} {YP : World → Heap → Prop} {d : DefRec} {K : Params → PySem.W.Frag} {CX : World → CXT} {sp : World → Sp} {x : Str}
    (hn : l.most = some n) (hn2 : n ≤ sizeLine) (hdf : d.params.defaults = []) (hr : Room k callerA)
    (hY : ∀ (w : World) (h : Heap), YP w h → (K w.params).In h)
    (F : ∀ (w : World) (mg : Str → Option Value) (fa : Addr) (h : Heap), (K w.params).In h → h.Ns mainGlobals mg → mg d.name = some (.ref fa) →
      ∃ fd : FuncData, (∀ (s : Shared) (u : Value), BindsTo s fd ⟨[u], []⟩ [(x, u)]) ∧
        ∀ base : Heap, (K w.params).In base → base.Ns mainGlobals mg → FnOk l.prog w (K w.params) mg base (CX w) k fa fd [x] (sp w))
    (hsp : ∀ (w : World) (H : Hp) (a : Addr) (ns : List Int), ns.length ≤ n → Only H → SqL (K w.params) H a (ns.map V.int) → sp w [.ref a] H (fun v _ => v = .bl true) fun _ _ _ => False)
    (hCX : ∀ (w : World) (H : Hp) (s : Shared) (e : Value) (s' : Shared), CX w [] H s (fun _ _ _ => False) e s' → False) :
    PySem.W.WalkO q loose XP YP l.row.toRowW d [] (fun f vs => PySem.call f vs) := by
  refine Att.attach_call hn hdf fun w s₀ s₁ mg mb fa o pm cd doc a vs ns G Y ho hd hcd hmg hobj hints hlen hg => ?_
  have KX := hY w _ Y
  obtain ⟨fd, hb, hF⟩ := F w mg fa _ KX G.T.g hmg
  exact law_call KX G.T.g G.T.b G.T.builtins G.T.nolimit hg hobj hints (Nat.le_trans hlen hn2) hr hF hb (fun H hO hS => hsp w H a ns hlen hO hS) fun H e s' => hCX w H s₁ e s'
end L2
/- THE LAST THEOREM (shape; LID, My.* are yours):
   My.Adr: a structure of the addresses that your layer names (classes, functions); My.Txt K t: a structure (Prop) of the equations over K;
   My.txt_mk : {K} {implicit addresses ..} (e1 : nsIn K mainGlobals "law" = some (some (.ref f))) (e2 : K.lookup f = some ⟨oc, od, .func (fnOf "law" "law" params body scope dV kV doc pm an cdv ct), sl⟩) (e3 : codeIn K cdv "law" = true) .. : ∃ t, My.Txt K t
set_option maxRecDepth 100000 in
set_option maxHeartbeats 0 in
theorem PySem.Challenge.cw_LID_holds : PySem.Challenge.rw_LID.Holds := by
  w_on; o_law; k_head; (case hw => w_witness2)
  k_fill
  refine L2.walk_of (l := PySem.Challenge.rw_LID) (n := 63) (k := 40) (x := "script") (CX := fun w => ..) (sp := fun _ => My.sp_law) rfl (by decide) rfl ⟨rfl, by decide, by decide⟩ (fun w h Y => PySem.W.kIn_of Y) ?F ?S ?C
  case F =>
    intro w mg fa h KX G hmg
    have T : ∃ t, My.Txt (L2.KOf KX) t := by
      dsimp only [L2.KOf]                          -- K must stand as «<heap const> w.params» for k_is
      refine' My.txt_mk ?e1 ?e2 ?e3 ..
      (case e1 => PySem.W.k_is)                    -- in the order: a name -> its address -> its object -> its parts
      (case e2 => PySem.W.k_is)
      ..
    obtain ⟨t, T⟩ := T
    have e0 := hmg.symm.trans (PySem.W.mg_of KX G T.law)
    cases e0                                       -- fa is the law's own address
    exact ⟨_, fun s u => .of_eq rfl, fun base kb nb => My.law_fn T kb nb⟩     -- if «.of_eq rfl» comes too early: refine' ⟨_, ?b, fun base kb nb => My.law_fn T kb nb⟩; exact fun s u => .of_eq rfl
  case S => exact fun w H a ns hl hO hS => ..
  case C => exact ..
(the tactic k_is has no namespace: write k_is) -/
namespace L2
open PySem PySem.Spec PyProof.Rows
def defArgs (s : Stmt) : Arguments := match s with
  | .FunctionDef _ a _ _ _ _ _ _ _ _ => a
  | _ => { posonlyargs := [], args := [], vararg := none, kwonlyargs := [], kw_defaults := [], kwarg := none, defaults := [] }
def defBody (s : Stmt) : List Stmt := match s with
  | .FunctionDef _ _ b _ _ _ _ _ _ _ => b
  | _ => []
def defScope (s : Stmt) : Scope := match s with
  | .FunctionDef _ _ _ _ _ _ sc _ _ _ => sc
  | _ => { kind := .function, names := [], isGenerator := false, isCoroutine := false }
abbrev CX0 : CXT := fun _ _ _ _ _ _ => False
abbrev E0 : XK := fun _ _ _ => False
theorem pass0 {X : Cx} : Passes CX0 X E0 := fun _ _ _ _ _ _ _ h => h.elim
structure Fun (K : PySem.W.Frag) (x qual : Str) (st : Stmt) (f : Addr) (fd : FuncData) : Prop where
  ex : ∃ (oc : Value) (od : Option Addr) (kV doc pm : Value) (an : Option Addr) (cdv ct : Value) (osl : Array (Option Value)),
    fd = PySem.W.fnOf x qual (defArgs st) (defBody st) (defScope st) .none kV doc pm an cdv ct ∧ K.lookup f = some ⟨oc, od, .func fd, osl⟩ ∧ PySem.W.codeIn K cdv qual = true
  kp : PySem.W.keepIn K (.ref f) = true
section
variable {P : Program} {w : World} {K : PySem.W.Frag} {mg : Str → Option Value} {base : Heap}
theorem Fun.ok {x qual : Str} {st : Stmt} {f : Addr} {fd : FuncData} {N ps : List Str} {k : Nat} {sp : Sp} (F : Fun K x qual st f fd) (S : FnScope N ps (defScope st)) (len : ∀ vs H Q E, sp vs H Q E → vs.length = ps.length)
    (hbody : ∀ (cdv : Value) (A : Around) (outer : List Env) (s : Shared) (H : Hp) (vs : List V) (Q : VK) (E : XK), Room k (A.deeper (envOfC qual (defScope st) s.heap.objs.size f cdv)) → sp vs H Q E →
      ∃ t, PSs (cxOf CX0 P w K mg base N qual (defScope st) f cdv A outer s H E).nox (defBody st) t ∧ t { nx := fun _ H' => Q .non H', rt := Q } (start N vs) H) : FnOk P w K mg base CX0 (k + 1) f fd ps sp := by
  obtain ⟨oc, od, kV, doc, pm, an, cdv, ct, osl, rfl, lk, hcd⟩ := F.ex
  refine fn_of lk hcd S len fun A outer s H vs Q E hr hsp => ?_
  obtain ⟨t, h, q⟩ := hbody cdv A outer s H vs Q E hr hsp
  exact ⟨t, h.nox, q⟩
theorem Fun.binds {x qual : Str} {st : Stmt} {f : Addr} {fd : FuncData} {ps : List Str} (F : Fun K x qual st f fd)
    (h : ∀ (kV doc pm : Value) (an : Option Addr) (cdv ct : Value) (us : List Value), us.length = ps.length → bindArgs (PySem.W.fnOf x qual (defArgs st) (defBody st) (defScope st) .none kV doc pm an cdv ct) ⟨us, []⟩ = pure (ps.zip us)) : Binds K fd ps [] := by
  obtain ⟨oc, od, kV, doc, pm, an, cdv, ct, osl, rfl, lk, hcd⟩ := F.ex
  exact .all (h kV doc pm an cdv ct)
theorem fun_mk {x qual : Str} {st : Stmt} {f : Addr} {oc : Value} {od an : Option Addr} {osl : Array (Option Value)} {kV doc pm cdv ct : Value} (l : K.lookup f = some ⟨oc, od, .func (PySem.W.fnOf x qual (defArgs st) (defBody st) (defScope st) .none kV doc pm an cdv ct), osl⟩)
    (c : PySem.W.codeIn K cdv qual = true) (k : PySem.W.keepIn K (.ref f) = true) : Fun K x qual st f (PySem.W.fnOf x qual (defArgs st) (defBody st) (defScope st) .none kV doc pm an cdv ct) := ⟨⟨oc, od, kV, doc, pm, an, cdv, ct, osl, rfl, l, c⟩, k⟩
end
theorem small1000 {n : Nat} (h : n ≤ 1000) : n < sizeLine := Nat.lt_of_le_of_lt h (by decide)
section
variable {X : Cx}
theorem pv (i : Nat) {x : Str} {pos : Pos} (hN : X.N[i]? = some x := by rfl) (hv : Vis X.env.scope x := by first | exact Or.inl rfl | exact Or.inr (Or.inl rfl) | exact Or.inr (Or.inr rfl)) (hd : (x == ("__debug__" : Str)) = false := by decide)
    (hcd : (x == ("__classdict__" : Str)) = false := by decide) : PE X (.Name x pos) (tVar i) := pe_var hN hv hd hcd
end
theorem iteF {A B : Prop} (h : B) : if false = true then A else B := by
  rw [if_neg Bool.false_ne_true]
  exact h
theorem iteT {A B : Prop} (h : A) : if true = true then A else B := by
  rw [if_pos rfl]
  exact h
theorem ite2 {c A B : Prop} [Decidable c] (h1 : c → A) (h2 : ¬ c → B) : if c then A else B := by
  by_cases h : c
  · rw [if_pos h]
    exact h1 h
  · rw [if_neg h]
    exact h2 h
theorem iteNS {c A B : Prop} [Decidable c] (hc : c) (h : B) : if (!decide c) = true then A else B := by
  rw [decide_eq_true hc]
  exact iteF h
def Same (H H' : Hp) : Prop := ∀ b o, H b = some o → H' b = some o
theorem Same.refl (H : Hp) : Same H H := fun _ _ h => h
theorem Same.trans {H H1 H2 : Hp} (a : Same H H1) (b : Same H1 H2) : Same H H2 := fun c o h => b c o (a c o h)
theorem Same.free {H H' : Hp} (e : Same H H') {l : Addr} (h : H' l = Option.none) : H l = Option.none := by
  cases q : H l with
  | none => rfl
  | some o =>
    rw [e l o q] at h
    cases h
theorem Same.seq {K : PySem.W.Frag} {H H' : Hp} {a : Addr} {xs : List V} (e : Same H H') (h : SqL K H a xs) : SqL K H' a xs := by
  rcases h with (h | ⟨o, h⟩) | h
  · exact .inl (.inl (e _ _ h))
  · exact .inl (.inr ⟨o, e _ _ h⟩)
  · exact .inr h
end L2
set_option maxHeartbeats 4000000
namespace L2
open PySem PySem.Spec PyProof.Rows
def clOf (env : Env) : List (Str × NameKind) → List (Str × Addr) → List (Str × Addr)
  | [], acc => acc
  | (n, k) :: r, acc => if k == .free then (match env.cells.lookup n with
      | some c => clOf env r ((n, c) :: acc)
      | none => clOf env r acc) else clOf env r acc
theorem closure_is {scope : Scope} {env : Env} (h : ∀ y ∈ scope.names, y.2 = .free → ∃ c, env.cells.lookup y.1 = some c) :
    closureFor scope env = pure (clOf env scope.names []) := by
  have key : ∀ (l : List (Str × NameKind)) (acc : List (Str × Addr)), (∀ y ∈ l, y.2 = .free → ∃ c, env.cells.lookup y.1 = some c) →
      (forIn l acc fun (x : Str × NameKind) (cs : List (Str × Addr)) => (if (x.2 == NameKind.free) = true then (do
          let a ← cellOf env x.1
          pure (ForInStep.yield ((x.1, a) :: cs))) else pure (ForInStep.yield cs) : Sem (ForInStep (List (Str × Addr))))) = (pure (clOf env l acc) : Sem (List (Str × Addr))) := by
    intro l
    induction l with
    | nil => intro acc _; rfl
    | cons y r ih =>
      intro acc hy
      obtain ⟨n, k⟩ := y
      rw [List.forIn_cons]
      have hr : ∀ z ∈ r, z.2 = .free → ∃ c, env.cells.lookup z.1 = some c := fun z hz => hy z (List.mem_cons_of_mem _ hz)
      by_cases hk : k = .free
      · subst hk
        obtain ⟨c, hc⟩ := hy (n, .free) List.mem_cons_self rfl
        have e1 : cellOf env n = pure c := by
          have hc' : env.cells.lookup n = some c := hc
          unfold cellOf
          rw [hc']
        have e2 : clOf env ((n, .free) :: r) acc = clOf env r ((n, c) :: acc) := by
          have hc' : env.cells.lookup n = some c := hc
          simp only [clOf, beq_self_eq_true, if_true, hc']
        rw [e2, ← ih _ hr]
        simp only [beq_self_eq_true, if_true, e1]
        rfl
      · have hb : (k == NameKind.free) = false := by simpa using hk
        have e2 : clOf env ((n, k) :: r) acc = clOf env r acc := by
          simp only [clOf, hb, Bool.false_eq_true, if_false]
        rw [e2, ← ih _ hr]
        simp only [hb, Bool.false_eq_true, if_false]
        rfl
  have := key scope.names [] h
  unfold closureFor
  first
    | exact this
    | (simp only [bind_pure]; exact this)
    | (rw [← this]; rfl)
theorem clOf_mem {env : Env} : ∀ {l : List (Str × NameKind)} {acc : List (Str × Addr)}, (∀ p ∈ acc, env.cells.lookup p.1 = some p.2) → ∀ p ∈ clOf env l acc, env.cells.lookup p.1 = some p.2
  | [], _, h, p, hp => h p hp
  | (n, k) :: r, acc, h, p, hp => by
    unfold clOf at hp
    split at hp
    · split at hp
      · rename_i c hc
        exact clOf_mem (l := r) (fun q hq => by
          rcases List.mem_cons.mp hq with rfl | hq
          · exact hc
          · exact h q hq) p hp
      · exact clOf_mem (l := r) h p hp
    · exact clOf_mem (l := r) h p hp
theorem clOf_in {env : Env} {x : Str} : ∀ {l : List (Str × NameKind)} {acc : List (Str × Addr)}, ((∃ p ∈ acc, p.1 = x) ∨ ((x, NameKind.free) ∈ l ∧ ∃ c, env.cells.lookup x = some c)) → ∃ p ∈ clOf env l acc, p.1 = x
  | [], _, h => by
    rcases h with h | ⟨h, _⟩
    · exact h
    · exact absurd h (by simp)
  | (n, k) :: r, acc, h => by
    unfold clOf
    split
    · rename_i hk
      split
      · rename_i c hc
        refine clOf_in (l := r) ?_
        rcases h with ⟨p, hp, e⟩ | ⟨h, hx⟩
        · exact .inl ⟨p, List.mem_cons_of_mem _ hp, e⟩
        · rcases List.mem_cons.mp h with e | h
          · have e' : x = n := congrArg Prod.fst e
            exact .inl ⟨(n, c), List.mem_cons_self, e'.symm⟩
          · exact .inr ⟨h, hx⟩
      · rename_i hc
        refine clOf_in (l := r) ?_
        rcases h with h | ⟨h, c, hx⟩
        · exact .inl h
        · rcases List.mem_cons.mp h with e | h
          · have e' : x = n := congrArg Prod.fst e
            rw [← e', hx] at hc; cases hc
          · exact .inr ⟨h, c, hx⟩
    · rename_i hk
      refine clOf_in (l := r) ?_
      rcases h with h | ⟨h, hx⟩
      · exact .inl h
      · rcases List.mem_cons.mp h with e | h
        · have e' : NameKind.free = k := congrArg Prod.snd e
          rw [← e'] at hk
          exact absurd rfl hk
        · exact .inr ⟨h, hx⟩
theorem lookup_of_key {α : Type} {x : Str} : ∀ {l : List (Str × α)}, (∃ p ∈ l, p.1 = x) → ∃ c, l.lookup x = some c
  | [], h => by obtain ⟨p, hp, _⟩ := h; exact absurd hp (by simp)
  | (n, c) :: r, h => by
    by_cases e : x = n
    · subst e
      exact ⟨c, by simp [List.lookup_cons]⟩
    · have hb : (x == n) = false := by simpa using e
      obtain ⟨p, hp, e'⟩ := h
      rcases List.mem_cons.mp hp with rfl | hp
      · exact absurd e'.symm e
      · obtain ⟨c', h'⟩ := lookup_of_key (l := r) ⟨p, hp, e'⟩
        exact ⟨c', by simp only [List.lookup_cons, hb]; exact h'⟩
def compCx (X : Cx) (N : List Str) (scope : Scope) (C : Addr) (s₀ : Shared) (H₀ : Hp) (fp : List Addr) : Cx where
  prog := X.prog
  w := X.w
  K := X.K
  mg := X.mg
  base := X.base
  A := X.A
  N := N
  s₀ := s₀
  H₀ := H₀
  env := compEnvC scope (clOf X.env scope.names []) C X.env
  outer := X.stack
  stack := X.stack
  ex := fp
  fn := fun _ => false
  calm := X.calm
  pn := []
  xe := fun _ _ => False
structure CompOk (X : Cx) (N : List Str) (ix : List (Option Nat)) (scope : Scope) : Prop where
  kind : scope.kind = .function
  nocell : ∀ y ∈ scope.names, y.2 ≠ .cell
  names : ∀ y ∈ scope.names, y.2 = .local → scope.names.lookup y.1 = some .local
  fre : ∀ y ∈ scope.names, y.2 = .free → X.env.kindOf y.1 = some .cell ∨ X.env.kindOf y.1 = some .free
  len : ix.length = N.length
  at' : ∀ (i j : Nat), ix[i]? = some (some j) → ∃ x, N[i]? = some x ∧ X.N[j]? = some x ∧ scope.names.lookup x = some .free
def compChk (N XN : List Str) (xk : Str → Option NameKind) (ix : List (Option Nat)) (scope : Scope) : Bool :=
  scope.kind == .function && scope.names.all (fun y => y.2 != .cell) && scope.names.all (fun y => y.2 != .local || scope.names.lookup y.1 == some .local) &&
  scope.names.all (fun y => y.2 != .free || (xk y.1 == some .cell || xk y.1 == some .free)) && ix.length == N.length &&
  (List.range ix.length).all (fun i => match ix[i]? with
    | some (some j) => (match N[i]?, XN[j]? with
      | some x, some y => x == y && scope.names.lookup x == some .free
      | _, _ => false)
    | _ => true)
theorem CompOk.of {X : Cx} {N : List Str} {ix : List (Option Nat)} {scope : Scope} (h : compChk N X.N X.env.kindOf ix scope = true) : CompOk X N ix scope := by
  unfold compChk at h
  simp only [Bool.and_eq_true] at h
  obtain ⟨⟨⟨⟨⟨h1, h2⟩, h3⟩, h4⟩, h5⟩, h6⟩ := h
  refine ⟨eq_of_beq h1, fun y hy => ?_, fun y hy e => ?_, fun y hy e => ?_, eq_of_beq h5, fun i j e => ?_⟩
  · have := List.all_eq_true.mp h2 y hy
    simpa using this
  · have := List.all_eq_true.mp h3 y hy
    rw [e] at this
    have q : (scope.names.lookup y.1 == some NameKind.local) = true := by simpa using this
    exact eq_of_beq q
  · have := List.all_eq_true.mp h4 y hy
    rw [e] at this
    have q : (X.env.kindOf y.1 == some NameKind.cell || X.env.kindOf y.1 == some NameKind.free) = true := by simpa using this
    rcases Bool.or_eq_true_iff.mp q with q | q
    · exact .inl (eq_of_beq q)
    · exact .inr (eq_of_beq q)
  · have hi : i < ix.length := (List.getElem?_eq_some_iff.mp e).1
    have := List.all_eq_true.mp h6 i (List.mem_range.mpr hi)
    rw [e] at this
    simp only at this
    split at this
    · rename_i x y e1 e2
      obtain ⟨q1, q2⟩ := Bool.and_eq_true_iff.mp this
      have q1' : x = y := eq_of_beq q1
      subst q1'
      exact ⟨x, e1, e2, eq_of_beq q2⟩
    · cases this
def capt (ix : List (Option Nat)) (σ : St) : St := ix.map fun o => match o with
  | none => none
  | some j => (σ[j]?).getD none
theorem capt_get {ix : List (Option Nat)} {σ : St} {i : Nat} {v : V} (h : (capt ix σ)[i]? = some (some v)) : ∃ j, ix[i]? = some (some j) ∧ σ[j]? = some (some v) := by
  unfold capt at h
  rw [List.getElem?_map] at h
  cases e : ix[i]? with
  | none => rw [e] at h; cases h
  | some o =>
    rw [e] at h
    cases o with
    | none => cases h
    | some j =>
      refine ⟨j, rfl, ?_⟩
      have h' : (σ[j]?).getD none = some v := Option.some.inj h
      cases q : σ[j]? with
      | none => rw [q] at h'; cases h'
      | some z => rw [q] at h'; exact congrArg some h'
theorem relabel_kind {scope : Scope} {env : Env} {x : Str} {k : NameKind} (h : (relabel scope env).names.lookup x = some k) : (x, k) ∈ scope.names ∨ ((x, NameKind.free) ∈ scope.names ∧ k = .cell) := by
  have hm := PySem.mem_of_lookup h
  obtain ⟨⟨n, k'⟩, hn, e⟩ := List.mem_map.mp hm
  dsimp only at e
  split at e
  · rename_i hc
    have e1 : n = x := congrArg Prod.fst e
    have e2 : NameKind.cell = k := congrArg Prod.snd e
    subst e1
    refine .inr ⟨?_, e2.symm⟩
    have hk : k' = .free := by
      simp only [Bool.and_eq_true] at hc
      exact eq_of_beq hc.1.1
    rw [← hk]
    exact hn
  · have e1 : n = x := congrArg Prod.fst e
    have e2 : k' = k := congrArg Prod.snd e
    subst e1 e2
    exact .inl hn
theorem relabel_free {scope : Scope} {env : Env} {x : Str} (h : scope.names.lookup x = some .free) : (relabel scope env).names.lookup x = some .cell ∨ (relabel scope env).names.lookup x = some .free := by
  have key : ∀ (l : List (Str × NameKind)), l.lookup x = some .free → (l.map fun (n, k) => if (k == NameKind.free && env.scope.kind == .function && env.kindOf n == some .cell) then (n, NameKind.cell) else (n, k)).lookup x = some .cell ∨
      (l.map fun (n, k) => if (k == NameKind.free && env.scope.kind == .function && env.kindOf n == some .cell) then (n, NameKind.cell) else (n, k)).lookup x = some .free := by
    intro l
    induction l with
    | nil => intro h; simp at h
    | cons y r ih =>
      intro h
      obtain ⟨n, k⟩ := y
      rw [List.map_cons]
      dsimp only
      cases hx : x == n with
      | true =>
        simp only [List.lookup_cons, hx] at h
        cases h
        split
        · exact .inl (by simp [List.lookup_cons, hx])
        · exact .inr (by simp [List.lookup_cons, hx])
      | false =>
        simp only [List.lookup_cons, hx] at h
        have := ih h
        split
        · simpa only [List.lookup_cons, hx] using this
        · simpa only [List.lookup_cons, hx] using this
  exact key scope.names h
section
variable {X : Cx} {pins : List (Addr × Obj)} {σ : St} {H : Hp} {s : Shared} {N : List Str} {ix : List (Option Nat)} {scope : Scope}
theorem clOf_is (x : Str) (c : Addr) (h : (clOf X.env scope.names []).lookup x = some c) : X.env.cells.lookup x = some c :=
  clOf_mem (env := X.env) (l := scope.names) (acc := []) (fun p hp => absurd hp (by simp)) (x, c) (PySem.mem_of_lookup h)
theorem clOf_has (ok : X.Ok) (ck : CompOk X N ix scope) (x : Str) (h : (x, NameKind.free) ∈ scope.names) : ∃ c, (clOf X.env scope.names []).lookup x = some c := by
  obtain ⟨c, hc⟩ := ok.has x (ck.fre (x, .free) h rfl)
  exact lookup_of_key (clOf_in (.inr ⟨h, c, hc⟩))
theorem compCx_ok (I : Inv X pins σ H s) (ck : CompOk X N ix scope) {fp : List Addr} (hf : ∀ b ∈ fp, FpOk X pins H b) (hfp : ∀ b ∈ fp, b < s.heap.objs.size) : (compCx X N scope s.heap.objs.size s H fp).Ok where
  mod := I.ok.mod
  kind := ck.kind
  glob := I.ok.glob
  blt := I.ok.blt
  above := Nat.le_refl _
  inj := fun x y c h1 h2 => I.ok.inj x y c (clOf_is x c h1) (clOf_is y c h2)
  has := fun x hx => by
    have hx' : (relabel scope X.env).names.lookup x = some .cell ∨ (relabel scope X.env).names.lookup x = some .free := hx
    have hm : (x, NameKind.free) ∈ scope.names := by
      rcases hx' with q | q
      · rcases relabel_kind q with z | ⟨z, _⟩
        · exact absurd rfl (ck.nocell _ z)
        · exact z
      · rcases relabel_kind q with z | ⟨_, z⟩
        · exact z
        · cases z
    exact clOf_has I.ok ck x hm
  cab := fun _ _ h _ => absurd (show false = true from h) Bool.false_ne_true
  hd := I.ok.hd
  frames := I.ok.frames
  stk := .inl rfl
  exf := fun b hb => ⟨Nat.ne_of_lt (hfp b hb), fun x c h => (hf b hb).2.2.2.2.1 x c (clOf_is x c h)⟩
  bs := I.bs
  bsz := Nat.le_trans I.ok.bsz I.sz
  noex := fun b o e hb => by
    rcases (hf b hb).2.2.2.1 with z | z
    · exact I.ok.noex b o e z
    · exact absurd (Nat.lt_of_lt_of_le (Heap.lt_size (I.ok.bs b o e).1) z) (Nat.lt_irrefl _)
  exfs := fun b hb z => by
    rcases List.mem_cons.mp (I.stkSub b z) with q | q
    · exact (hf b hb).2.1 q
    · exact (hf b hb).2.2.1 q
  funs := I.stack
  frf := I.stkFree
theorem compCx_inv (I : Inv X pins σ H s) (ck : CompOk X N ix scope) {fp : List Addr} (hf : ∀ b ∈ fp, FpOk X pins H b) (hfp : ∀ b ∈ fp, b < s.heap.objs.size) {h1 : Heap} {t1 : Nat} {m : Str → Option Value}
    (hn : h1.Ns s.heap.objs.size m) (k : ∀ b o, s.heap.get? b = some o → h1.get? b = some o) :
    Inv (compCx X N scope s.heap.objs.size s H fp) [] (capt ix σ) H { s with heap := h1, toks := t1 } where
  ok := compCx_ok I ck hf hfp
  os := rfl
  bare := I.bare
  base := Un.kept k
  loc := ⟨m, hn, fun i x v e1 e2 _ => by
    obtain ⟨j, hj, hv⟩ := capt_get e2
    obtain ⟨x', q1, q2, q3'⟩ := ck.at' i j hj
    have q3 : (x', NameKind.free) ∈ scope.names := PySem.mem_of_lookup q3'
    have e1' : N[i]? = some x := e1
    rw [e1'] at q1; cases q1
    have hk := ck.fre (x, .free) q3 rfl
    have vis : Vis X.env.scope x := hk.elim (fun z => .inr (.inl z)) fun z => .inr (.inr z)
    obtain ⟨mX, hnX, hlX⟩ := I.loc
    obtain ⟨u, r, l⟩ := hlX j x v q2 hv vis
    refine ⟨u, r, .inr ⟨?_, ?_⟩⟩
    · exact relabel_free q3'
    · obtain ⟨c, hc⟩ := clOf_has I.ok ck x q3
      refine ⟨c, hc, ?_⟩
      have hcX := clOf_is x c hc
      rcases l with ⟨hl, _⟩ | ⟨_, c', hc', z⟩
      · rcases hk with q | q
        · rw [q] at hl; cases hl
        · rw [q] at hl; cases hl
      · rw [hcX] at hc'; cases hc'
        obtain ⟨o, ho, hd⟩ := z
        exact ⟨o, k c o ho, hd⟩⟩
  cell := fun x c e => by
    obtain ⟨v, o, ho, hd⟩ := I.cell x c (clOf_is x c e)
    exact ⟨v, o, k c o ho, hd⟩
  free := I.hok.fresh (Nat.le_refl _)
  freeC := fun x c e => I.freeC x c (clOf_is x c e)
  pin := fun p hp => absurd (show p ∈ ([] : List (Addr × Obj)) from hp) (by simp)
  hok := I.hok.kept k
  len := by
    show (capt ix σ).length = N.length
    unfold capt
    rw [List.length_map]
    exact ck.len
end
end L2
namespace L2
open PySem PySem.Spec PyProof.Rows
theorem comp_loopG {prog : Program} {w : World} {A : Around} {R : Result → Shared → Prop} {s : Shared} {elt target iter : Expr} {ifs : List Expr} {scope : Scope} {pos : Pos} {it acc : Value} {env : Env} (I : Nat → Shared → Prop)
    (turn : ∀ n s, I n s → wpAny (model prog w) A (pyNext it) (fun r s1 => match r with
      | none => R (.ok .next) s1
      | some v => wpAny (model prog w) A (letOwnedTupleGo target it v) (fun _ s1' => wpAny (model prog w) A (assign target env v) (fun _ s2 =>
          wpAny (model prog w) A (forIn ifs true fun c r => if r = true then do let ok ← isTrue c env (eval c env); pure (ForInStep.yield ok) else pure (ForInStep.yield r)) (fun ok s3 =>
            if ok = true then wpAny (model prog w) A (eval elt env) (fun x s4 =>
              wpAny (model prog w) A (call (.builtin "list.append") [acc, x]) (fun _ s5 => ∃ m, m < n ∧ I m s5) (fun _ _ => False) s4) (fun _ _ => False) s3
            else ∃ m, m < n ∧ I m s3) (fun _ _ => False) s2) (fun _ _ => False) s1') (fun _ _ => False) s1) (fun _ _ => False) s)
    (n : Nat) (h : I n s) : codeAny (model prog w) A (.compLoop (.ListComp elt [⟨target, iter, ifs, 0⟩] scope pos) 0 it acc env) R s := by
  refine codeAny_loop rfl I (fun n s hI => ?_) n h
  show wpAny _ A ((compTurn (.ListComp elt [⟨target, iter, ifs, 0⟩] scope pos) 0 it acc env).onRaise (fun x => do noteFrame x env; theTreesLotGoes x)) _ _ s
  refine wpAny_noted ?_
  rw [compTurn_list]
  refine wpAny_bind (wpAny_standAt (wpAny_bind (wpAny_mono (turn n s hI) (fun r s1 h1 => ?_) fun _ _ z => z.elim)))
  cases r with
  | none => exact wpAny_pure h1
  | some v =>
    refine wpAny_bind (wpAny_mono h1 (fun _ s1' h1' => ?_) fun _ _ z => z.elim)
    refine wpAny_bind (wpAny_mono h1' (fun _ s2 h2 => wpAny_bind (wpAny_mono h2 (fun ok s3 h3 => ?_) fun _ _ z => z.elim)) fun _ _ z => z.elim)
    cases ok with
    | false => exact wpAny_pure ⟨rfl, h3⟩
    | true =>
      exact wpAny_bind (wpAny_bind (wpAny_mono h3 (fun x s4 h4 => wpAny_bind (wpAny_mono h4 (fun _ s5 h5 => wpAny_pure (wpAny_pure ⟨rfl, h5⟩)) fun _ _ z => z.elim)) fun _ _ z => z.elim))
def PTs (X : Cx) (ifs : List Expr) (t : TT) : Prop :=
  ∀ (pins : List (Addr × Obj)) (s : Shared) (σ : St) (H : Hp) (Q : Bool → Hp → Prop), Inv X pins σ H s → t σ H Q →
    wpAny (model X.prog X.w) X.A (forIn ifs true fun c r => if r = true then do let ok ← isTrue c X.env (eval c X.env); pure (ForInStep.yield ok) else pure (ForInStep.yield r)) (TP X pins σ Q) X.xe s
def tYes : TT := fun _ H Q => Q true H
theorem pts_nil {X : Cx} : PTs X [] tYes := fun _ _ _ H _ I h => wpAny_tests_nil ⟨H, I, h⟩
def tCompL (J : It) (g : TG) (tt : TT) (te : TE) (D : Addr) (σ0 : St) (H1 : Hp) (Q : VK) : Prop :=
  ∃ W : Nat → Nat → St → Hp → Prop, (∃ m, W 0 m σ0 (upd H1 D (.lst []))) ∧ ∀ i m σ H, W i m σ H →
    (J.stop i H ∧ Q (.ref D) H) ∨ (J.go i H ∧ ∀ x H', J.yld i H x H' → g x σ H' fun σ2 H2 => tt σ2 H2 fun b H3 =>
      if b = true then ∃ N : V → Hp → Prop, (∀ y H4, N y H4 → ∃ ys, H4 D = some (.lst ys) ∧ ys.length < sizeLine ∧ ∃ m', m' < m ∧ W (i + 1) m' σ2 (upd H4 D (.lst (ys ++ [y])))) ∧ te σ2 H3 N
      else ∃ m', m' < m ∧ W (i + 1) m' σ2 H3)
def tComp (wi : TI) (ix : List (Option Nat)) (g : TG) (tt : TT) (te : TE) : TE := fun σ H Q => wi σ H fun J H1 => ∀ D, H1 D = none → tCompL J g tt te D (capt ix σ) H1 Q
section
variable {X : Cx} {pins : List (Addr × Obj)} {σ : St} {N : List Str} {ix : List (Option Nat)} {scope : Scope} {elt iter tg : Expr} {ifs : List Expr} {pos : Pos} {g : TG} {tt : TT} {te : TE} {wi : TI}
theorem comp_core {H2 : Hp} {s2 : Shared} {it : Addr} {fp : List Addr} {tn : Nat → Heap → Prop} {J : It} {Q : VK} {RR : Value → Addr → Result → Shared → Prop} {E : Value → Shared → Prop} (hc : X.calm = true) (ck : CompOk X N ix scope)
    (I2 : Inv X pins σ H2 s2) (T : Turn X.prog X.w X.K tg J fp it tn) (st : tn 0 s2.heap) (f2 : ∀ b ∈ fp, FpOk X pins H2 b)
    (hg : ∀ C s₀ H₀ fp, PG (compCx X N scope C s₀ H₀ fp) tg g) (htt : ∀ C s₀ H₀ fp, PTs (compCx X N scope C s₀ H₀ fp) ifs tt) (he : ∀ C s₀ H₀ fp, PE (compCx X N scope C s₀ H₀ fp) elt te)
    (hw : ∀ D, H2 D = none → tCompL J g tt te D (capt ix σ) H2 Q)
    (hRR : ∀ (D C : Addr) (H' : Hp) (s' : Shared) (m : Str → Option Value), Inv X pins σ H' s' → s'.heap.Ns C m → H' C = none → C ≠ X.env.locals → X.s₀.heap.objs.size ≤ C → (∀ x c, X.env.cells.lookup x = some c → c ≠ C) → (∀ p ∈ X.pn ++ pins, p.1 ≠ C) →
      Q (.ref D) H' → RR (.ref D) C (.ok .next) s') :
    wpAny (model X.prog X.w) X.A (newList []) (fun acc s3 => wpAny (model X.prog X.w) X.A (newFunctionEnv scope X.env.globals (clOf X.env scope.names []) [] X.env.qual none .none (some X.env)) (fun cenv s4 =>
      codeAny (model X.prog X.w) X.A (.compStart (.ListComp elt [⟨tg, iter, ifs, 0⟩] scope pos) 0 (.ref it) acc { cenv with scope := relabel scope X.env }) (RR acc cenv.locals) s4) E s3) E s2 := by
  have ob := T.obj 0 _ st
  have lt2 : ∀ b ∈ fp, b < s2.heap.objs.size := fun b hb => by
    obtain ⟨o, e, _⟩ := ob b hb
    exact Heap.lt_size e
  have hD : H2 s2.heap.objs.size = none := I2.hok.fresh (Nat.le_refl _)
  have I3 : Inv X pins σ (upd H2 s2.heap.objs.size (.lst [])) { s2 with heap := s2.heap.push { cls := .type "list", dict := none, data := .seq ([] : List Value).toArray }, toks := s2.toks } := I2.lnew (ys := []) .nil (Nat.zero_le _)
  refine wpAny_newObj_type (wpAny_newFunctionEnv ck.nocell (by intro y hy; simp at hy) (fun h1 hns hsb => ?_) ck.kind)
  dsimp only at hns hsb ⊢
  generalize hs3 : ({ s2 with heap := s2.heap.push { cls := .type "list", dict := none, data := .seq ([] : List Value).toArray }, toks := s2.toks } : Shared) = s3 at I3
  have eh : s2.heap.push { cls := .type "list", dict := none, data := .seq ([] : List Value).toArray } = s3.heap := by rw [← hs3]
  have sz3 : s3.heap.objs.size = s2.heap.objs.size + 1 := by rw [← hs3]; exact Heap.size_push ..
  rw [eh] at hns hsb ⊢
  have f3 : ∀ b ∈ fp, FpOk X pins (upd H2 s2.heap.objs.size (.lst [])) b := fun b hb => by
    refine ⟨?_, (f2 b hb).2⟩
    rw [upd_ne (Nat.ne_of_lt (lt2 b hb))]
    exact (f2 b hb).1
  have lt3 : ∀ b ∈ fp, b < s3.heap.objs.size := fun b hb => by rw [sz3]; exact Nat.lt_succ_of_lt (lt2 b hb)
  have k1 : ∀ b o, s3.heap.get? b = some o → h1.get? b = some o := fun b o e => hsb.extBut b o (Nat.ne_of_lt (Heap.lt_size e)) (Heap.get?_push_of_some _ e)
  have st1 : tn 0 h1 := T.keep 0 _ _ st fun b hb o e => k1 b o (by rw [← eh]; exact Heap.get?_push_of_some _ e)
  obtain ⟨W, ⟨m0, w0⟩, turn⟩ := hw _ hD
  let X' := compCx X N scope s3.heap.objs.size s3 (upd H2 s2.heap.objs.size (.lst [])) fp
  have ok' : X'.Ok := compCx_ok I3 ck f3 lt3
  have stat : ∀ {H' : Hp}, (∀ b ∈ fp, H' b = none) → ∀ b ∈ fp, FpOk X' [] H' b := fun hn b hb =>
    ⟨hn b hb, (ok'.exf b hb).1, ok'.exfs b hb, .inl hb, (ok'.exf b hb).2, fun p hp => absurd (show p ∈ ([] : List (Addr × Obj)) from hp) (by simp)⟩
  have back : ∀ {σ' : St} {H' : Hp} {s' : Shared}, Inv X' [] σ' H' s' → Inv X pins σ H' s' := fun {σ' H' s'} J' => by
    refine I3.call' (ch := fp) J'.os J'.base J'.hok J'.bare fun b hb => ?_
    obtain ⟨q0, q1, q2, q3, q4, q5⟩ := f3 b hb
    exact ⟨q3, q1, q4, q5⟩
  have loop : ∀ s4 : Shared, s4 = { s3 with heap := h1, toks := s3.toks + ([] : List (Str × Value)).length } →
      codeAny (model X.prog X.w) X.A (.compLoop (.ListComp elt [⟨tg, iter, ifs, 0⟩] scope pos) 0 (.ref it) (.ref s2.heap.objs.size) X'.env) (RR (.ref s2.heap.objs.size) s3.heap.objs.size) s4 := by
    rintro s4 rfl
    refine comp_loopG (fun n s' => ∃ i σ' H', Inv X' [] σ' H' s' ∧ tn i s'.heap ∧ (∀ b ∈ fp, H' b = none) ∧ W i n σ' H') ?_ m0 ⟨0, capt ix σ, _, compCx_inv I3 ck f3 lt3 hns k1, st1, fun b hb => (f3 b hb).1, w0⟩
    rintro n s5 ⟨i, σ5, H5, I5, st5, fr5, w5⟩
    rcases turn i n σ5 H5 w5 with ⟨stop, q⟩ | ⟨go, step⟩
    · refine thn (T.done X' rfl rfl rfl hc i [] s5 σ5 H5 _ I5 (stat fr5) st5 stop) fun r s6 ⟨hr, I6⟩ => ?_
      subst hr
      obtain ⟨m6, hn6, _⟩ := I6.loc
      have J6 := back I6
      have low : X.env.locals < s3.heap.objs.size := I3.lt
      exact hRR _ _ H5 s6 m6 J6 hn6 I6.free (Nat.ne_of_gt low) I3.sz (fun x c e z => by
        obtain ⟨v, qc⟩ := I3.cell x c e
        exact absurd qc.lt (by rw [z]; exact Nat.lt_irrefl _)) (fun p hp z => absurd (Heap.lt_size (I3.pin p hp).1) (by rw [z]; exact Nat.lt_irrefl _)) q
    · refine thn (T.item X' rfl rfl rfl hc i [] s5 σ5 H5 _ I5 (stat fr5) st5 go) fun r s6 ⟨u, hr, h6⟩ => ?_
      subst hr
      refine thn h6 fun _ s7 ⟨x, H7, I7, r7, y7, st7, fr7⟩ => ?_
      have I7' := I7.pinned (stat fr7) (T.obj _ _ st7)
      refine thn (hg _ _ _ _ _ s7 σ5 H7 x u _ I7' r7 (step x H7 y7)) fun _ s8 ⟨σ8, H8, I8, q8⟩ => ?_
      refine thn (htt _ _ _ _ _ s8 σ8 H8 _ I8 q8) fun b s9 ⟨H9, I9, q9⟩ => ?_
      have again : ∀ {H : Hp} {s' : Shared}, Inv X' ([] ++ pinsAt fp s7.heap) σ8 H s' → (∃ m', m' < n ∧ W (i + 1) m' σ8 H) → ∃ m, m < n ∧ ∃ i σ' H', Inv X' [] σ' H' s' ∧ tn i s'.heap ∧ (∀ b ∈ fp, H' b = none) ∧ W i m σ' H' := fun {H s'} J ⟨m', hm, w'⟩ => by
        refine ⟨m', hm, i + 1, σ8, H, J.unpinned, T.keep _ _ _ st7 fun b hb o e => (J.pin (b, o) (List.mem_append_right _ (List.mem_append_right _ (mem_pinsAt hb e)))).1, fun b hb => ?_, w'⟩
        obtain ⟨o, e, d⟩ := T.obj _ _ st7 b hb
        exact (J.pin (b, o) (List.mem_append_right _ (List.mem_append_right _ (mem_pinsAt hb e)))).2.1
      cases b with
      | false =>
        rw [if_neg Bool.false_ne_true] at q9 ⊢
        exact again I9 q9
      | true =>
        rw [if_pos rfl] at q9 ⊢
        obtain ⟨Nx, hNx, q9⟩ := q9
        refine thn (he _ _ _ _ _ s9 σ8 H9 _ I9 q9) fun z s10 ⟨y, H10, I10, r10, n10⟩ => ?_
        obtain ⟨ys, hD10, hz10, q10⟩ := hNx y H10 n10
        exact thn (mt_append (X := X') _ s10 σ8 H10 (.ref s2.heap.objs.size) [y] (.ref s2.heap.objs.size) [z] (fun _ H => ∃ m', m' < n ∧ W (i + 1) m' σ8 H) I10 rfl (.cons r10 .nil) ⟨_, ys, y, rfl, rfl, hD10, hz10, q10⟩) fun _ s11 ⟨v11, H11, I11, _, q11⟩ => again I11 q11
  exact codeAny_compStart_list (loop _ (by rw [← hs3])) (T.self _ 0 _ _ _ st1 (loop _ (by rw [← hs3])))
theorem comp_closure {s : Shared} {H : Hp} (I : Inv X pins σ H s) (ck : CompOk X N ix scope) : closureFor scope X.env = pure (clOf X.env scope.names []) :=
  closure_is fun y hy e => I.ok.has y.1 (ck.fre y hy e)
theorem pe_comp (hc : X.calm = true) (ck : CompOk X N ix scope) (hi : PI X tg iter wi)
    (hg : ∀ C s₀ H₀ fp, PG (compCx X N scope C s₀ H₀ fp) tg g) (htt : ∀ C s₀ H₀ fp, PTs (compCx X N scope C s₀ H₀ fp) ifs tt) (he : ∀ C s₀ H₀ fp, PE (compCx X N scope C s₀ H₀ fp) elt te)
    (hs : ∀ x, foldedSetIterable iter X.env x = pure x := by intro _; rfl) : PE X (.ListComp elt [⟨tg, iter, ifs, 0⟩] scope pos) (tComp wi ix g tt te) := by
  intro pins s σ H Q I h
  rw [eval_ListComp]
  refine wpAny_comprehension_free (use := none) rfl hs (comp_closure I ck) ck.kind ck.names (thn (hi pins s σ H _ I h) fun v s1 h1 => thn h1 fun itv s2 h2 => ?_)
  obtain ⟨it, fp, tn, J, H2, e, I2, T, st2, f2, hw⟩ := h2
  subst e
  refine comp_core (Q := Q) (RR := fun acc C => compPost (model X.prog X.w) X.A X.xe none (EP X pins σ Q) acc C) hc ck I2 T st2 f2 hg htt he hw ?_
  intro D C H' s' m J' hn hfree hL hsz hcell hpin q
  exact ⟨m, hn, fun h' hs' => ⟨.ref D, H', J'.turned (t' := s'.toks) (fun b o hb e => hs'.extBut b o hb e) hfree hL (.inr hsz) hcell hpin, rfl, q⟩⟩
theorem ps_comp {i : Nat} {y : Str} {py spos : Pos} (hN : X.N.Nodup) (hi' : X.N[i]? = some y) (hy : X.env.scope.names.lookup y = some .local) (hc : X.calm = true) (ck : CompOk X N ix scope) (hi : PI X tg iter wi)
    (hg : ∀ C s₀ H₀ fp, PG (compCx X N scope C s₀ H₀ fp) tg g) (htt : ∀ C s₀ H₀ fp, PTs (compCx X N scope C s₀ H₀ fp) ifs tt) (he : ∀ C s₀ H₀ fp, PE (compCx X N scope C s₀ H₀ fp) elt te)
    (hsw : swapsWith (.ListComp elt [⟨tg, iter, ifs, 0⟩] scope pos) (some (.Name y py)) spos.line X.env = pure true := by rfl)
    (hs : ∀ x, foldedSetIterable iter X.env x = pure x := by intro _; rfl) : PS X (.Assign [.Name y py] (.ListComp elt [⟨tg, iter, ifs, 0⟩] scope pos) spos) (tAsg (tComp wi ix g tt te) (gName i)) := by
  intro pins s σ H Dn I h
  rw [exec_Assign_Name_used _ _ _ _ hsw]
  refine wpAny_bind (wpAny_standAt (wpAny_bind ?_))
  show wpAny _ X.A (do let _ ← comprehension (.ListComp elt [⟨tg, iter, ifs, 0⟩] scope pos) scope X.env _ (newList []) false (eval iter X.env) (some (assign (.Name y py) X.env))) _ _ s
  refine wpAny_bind (wpAny_mono (wpAny_comprehension_free (use := some (assign (.Name y py) X.env)) (Q := fun _ s' => SP X pins Dn .next s') rfl hs (comp_closure I ck) ck.kind ck.names (thn (hi pins s σ H _ I h) fun v s1 h1 => thn h1 fun itv s2 h2 => ?_))
    (fun _ s' hq => wpAny_pure (wpAny_pure hq)) fun _ _ e => e)
  obtain ⟨it, fp, tn, J, H2, e, I2, T, st2, f2, hw⟩ := h2
  subst e
  refine comp_core (Q := fun v H1 => Dn.nx (σ.set i (some v)) H1) (RR := fun acc C => compPost (model X.prog X.w) X.A X.xe (some (assign (.Name y py) X.env)) (fun _ s' => SP X pins Dn .next s') acc C) hc ck I2 T st2 f2 hg htt he hw ?_
  intro D C H' s' m J' hn hfree hL hsz hcell hpin q
  show wpAny _ X.A (assign (.Name y py) X.env (.ref D)) _ _ _
  refine wpAny_assign_Name (store_ok2 J' hN hi' (.inl hy) (v := .ref D) rfl (fun s'' I'' hb => ?_) (.inr hy))
  obtain ⟨a, sb, ha⟩ := hb
  have neC : C ≠ a := by
    rcases ha with ha | ha
    · rw [ha]; exact hL
    · exact fun z => hcell _ _ ha z.symm
  refine ⟨m, hn.sameBut sb neC, fun h' hs' => ⟨_, H', I''.turned (t' := s''.toks) (fun b o hb e => hs'.extBut b o hb e) hfree hL (.inr hsz) hcell hpin, q⟩⟩
end
end L2
namespace L2
open PySem PySem.Spec PyProof.Rows
section
variable {X : Cx}
theorem vals_to_ints {ns : List Int} {its : List Value} (r : Vals (ns.map V.int) its) : IntsAre its ns := by
  induction ns generalizing its with
  | nil => cases r; exact .nil
  | cons n ns ih =>
    rw [List.map_cons] at r
    cases r with
    | cons r1 r2 =>
      obtain ⟨t, rfl⟩ := r1
      exact .cons n t (ih r2)
theorem vals_to_bools {bs : List Bool} {its : List Value} (r : Vals (bs.map V.bl) its) : LSm.BoolsAre its bs := by
  induction bs generalizing its with
  | nil => cases r; exact .nil
  | cons b bs ih =>
    rw [List.map_cons] at r
    cases r with
    | cons r1 r2 =>
      cases r1
      exact .cons b (ih r2)
theorem call_sumI (hc : X.calm = true) : CallR X (.builtin "sum") (fun xs H Q => ∃ (p : Addr) (ns : List Int), xs = [.ref p] ∧ SqL X.K H p (ns.map V.int) ∧ Q (.int ns.sum) H) := by
  intro pins s σ H xs us Q I r h
  obtain ⟨p, ns, rfl, hq, q⟩ := h
  obtain ⟨u, rfl, rx⟩ := vals1 r
  cases rx
  obtain ⟨its, r', pl, hz⟩ := I.list hq
  have hi := vals_to_ints r'
  obtain ⟨xs, hx⟩ := hi.allInts.items
  have hl : s.heap.IsList p its.toArray := pl.isList
  have hl' : s.heap.IsList p (intItems xs) := hx ▸ hl
  refine sum_intListG (I.ok.hd hc) hl' fun h' tk t' hk => ?_
  have e1 : ns = xs.toList.map (·.1) := by
    rw [← nums_intItems, ← hx]
    exact (show numsOf its.toArray.toList = ns from hi.numsOf).symm
  have e2 : preSum (numAt xs) xs.size = ns.sum := by
    rw [preSum_eq, List.take_of_length_le (by simp), e1]
  rw [e2]
  exact ⟨.int ns.sum, H, I.kept hk, ⟨_, rfl⟩, q⟩
theorem call_allB (hc : X.calm = true) : CallR X (.builtin "all") (fun xs H Q => ∃ (p : Addr) (bs : List Bool), xs = [.ref p] ∧ SqL X.K H p (bs.map V.bl) ∧ Q (.bl (bs.all id)) H) := by
  intro pins s σ H xs us Q I r h
  obtain ⟨p, bs, rfl, hq, q⟩ := h
  obtain ⟨u, rfl, rx⟩ := vals1 r
  cases rx
  obtain ⟨its, r', pl, hz⟩ := I.list hq
  have hb := vals_to_bools r'
  have hl : s.heap.IsList p its.toArray := pl.isList
  have hlt : p < s.heap.objs.size := by obtain ⟨_, e, _⟩ := hl; exact Heap.lt_size e
  refine call_all_walk (wpAny_pyIter_list hl ?_)
  refine ⟨s.heap.objs.size, [s.heap.objs.size, p], [s.heap.objs.size], its.toArray.size, _, _, fun i => (bs[i]?).getD true, rfl, Walks.list (A := X.A.in1) (I.ok.hd hc) _ p (Nat.ne_of_lt hlt) its.toArray,
    ⟨⟨_, Heap.get?_push_size _ rfl, rfl, rfl⟩, hl.push _⟩, fun i v s' Q' E' hP hQ => ?_, fun h' tk hk => ?_⟩
  · obtain ⟨b, e, rfl⟩ := hb.get i v (by simpa using hP)
    simp only [e, Option.getD_some] at hQ
    exact wpAny_truthy_bool hQ
  · have e : ((List.range its.toArray.size).all fun i => (bs[i]?).getD true) = bs.all id := by
      rw [List.size_toArray, hb.length]; exact LSm.range_all bs
    rw [e]
    exact ⟨.bl (bs.all id), H, I.kept (LSm.kept_iter hk), rfl, q⟩
end
mutual
inductive RdD (K : PySem.W.Frag) (H : Hp) : V → PyData → Prop
  | non : RdD K H .non .none
  | bl (b : Bool) : RdD K H (.bl b) (.bool b)
  | int (i : Int) : RdD K H (.int i) (.int i)
  | str (x : Str) : RdD K H (.str x) (.str x)
  | lst {p : Addr} {xs : List V} {ds : List PyData} : SqL K H p xs → RdA K H xs ds → RdD K H (.ref p) (.list ds)
  | tup {p : Addr} {xs : List V} {ds : List PyData} : SqT K H p xs → RdA K H xs ds → RdD K H (.ref p) (.tuple ds)
inductive RdA (K : PySem.W.Frag) (H : Hp) : List V → List PyData → Prop
  | nil : RdA K H [] []
  | cons {x : V} {xs : List V} {d : PyData} {ds : List PyData} : RdD K H x d → RdA K H xs ds → RdA K H (x :: xs) (d :: ds)
end
section
variable {X : Cx} {pins : List (Addr × Obj)} {σ : St} {H : Hp} {s : Shared}
mutual
theorem RdD.reads (I : Inv X pins σ H s) : ∀ {x : V} {d : PyData} {u : Value}, RdD X.K H x d → RelV x u → ∃ as, Reads s.heap u d as
  | _, _, _, .non, r => by cases r; exact ⟨_, .none⟩
  | _, _, _, .bl b, r => by cases r; exact ⟨_, .bool b⟩
  | _, _, _, .int i, r => by obtain ⟨t, rfl⟩ := r; exact ⟨_, .int i t⟩
  | _, _, _, .str x, r => by obtain ⟨t, rfl⟩ := r; exact ⟨_, .str x t⟩
  | _, _, _, .lst hq ha, r => by
    cases r
    obtain ⟨its, rv, ⟨o, n, e, hc, _, hd⟩, _⟩ := I.list hq
    obtain ⟨as, z⟩ := RdA.reads I ha rv
    exact ⟨_, .list e hc hd z⟩
  | _, _, _, .tup hq ha, r => by
    cases r
    obtain ⟨its, rv, ⟨o, e, hc, n, hd⟩, _⟩ := I.tuple hq
    obtain ⟨as, z⟩ := RdA.reads I ha rv
    exact ⟨_, .tuple e hc hd z⟩
theorem RdA.reads (I : Inv X pins σ H s) : ∀ {xs : List V} {ds : List PyData} {us : List Value}, RdA X.K H xs ds → Vals xs us → ∃ as, ReadsAll s.heap us ds as
  | _, _, _, .nil, r => by cases r; exact ⟨_, .nil⟩
  | _, _, _, .cons h t, r => by
    cases r with
    | cons r1 r2 =>
      obtain ⟨as, z⟩ := RdD.reads I h r1
      obtain ⟨bs, y⟩ := RdA.reads I t r2
      exact ⟨_, .cons z y⟩
end
def rEqD (K : PySem.W.Frag) : R2 := fun x y H Q => ∃ d e, RdD K H x d ∧ RdD K H y e ∧ SeqAt.shaped d = true ∧ SeqAt.shaped e = true ∧ Q (.bl (PyData.eqv d e)) H
theorem op_eqD {k : Nat} (hr : Room k X.A) : OpR X (compareOp .Eq) (rEqD X.K) := by
  intro pins s σ H x y v u Q I rx ry h
  obtain ⟨d, e, h1, h2, h3, h4, q⟩ := h
  obtain ⟨as, r1⟩ := h1.reads I rx
  obtain ⟨bs, r2⟩ := h2.reads I ry
  exact SeqAt.compareEq_shaped r1 r2 h3 h4 hr.units ⟨.bl _, H, I, rfl, q⟩
end
def rowD (ns : List Int) : PyData := .list (ns.map PyData.int)
def tabD (t : List (List Int)) : PyData := .list (t.map rowD)
theorem eqv_ints : ∀ (ns ms : List Int), PyData.eqvAll (ns.map PyData.int) (ms.map PyData.int) = decide (ns = ms)
  | [], [] => by simp [PyData.eqvAll]
  | [], m :: ms => by simp [PyData.eqvAll]
  | n :: ns, [] => by simp [PyData.eqvAll]
  | n :: ns, m :: ms => by
    rw [List.map_cons, List.map_cons, PyData.eqvAll, eqv_ints ns ms, PyData.eqv]
    by_cases h : n = m <;> simp [h]
theorem eqv_row (ns ms : List Int) : PyData.eqv (rowD ns) (rowD ms) = decide (ns = ms) := by
  unfold rowD
  rw [PyData.eqv, eqv_ints]
theorem eqv_rows : ∀ (t u : List (List Int)), PyData.eqvAll (t.map rowD) (u.map rowD) = decide (t = u)
  | [], [] => by simp [PyData.eqvAll]
  | [], m :: ms => by simp [PyData.eqvAll]
  | n :: ns, [] => by simp [PyData.eqvAll]
  | n :: ns, m :: ms => by
    rw [List.map_cons, List.map_cons, PyData.eqvAll, eqv_rows ns ms, eqv_row]
    by_cases h : n = m <;> simp [h]
theorem eqv_tab (t u : List (List Int)) : PyData.eqv (tabD t) (tabD u) = decide (t = u) := by
  unfold tabD
  rw [PyData.eqv, eqv_rows]
theorem canLay_ints : ∀ ns : List Int, PyData.canLayAll0 (ns.map PyData.int) = true
  | [] => by simp [PyData.canLayAll0]
  | n :: ns => by simp [PyData.canLayAll0, PyData.canLay0, canLay_ints ns]
theorem canLay_rows : ∀ t : List (List Int), PyData.canLayAll0 (t.map rowD) = true
  | [] => by simp [PyData.canLayAll0]
  | r :: t => by simp [PyData.canLayAll0, PyData.canLay0, rowD, canLay_ints r, canLay_rows t]
theorem depth_ints : ∀ ns : List Int, PyData.depthAll (ns.map PyData.int) ≤ 1
  | [] => by simp [PyData.depthAll]
  | n :: ns => by
    have := depth_ints ns
    simp only [List.map_cons, PyData.depthAll, PyData.depth]
    omega
theorem depth_rows : ∀ t : List (List Int), PyData.depthAll (t.map rowD) ≤ 3
  | [] => by simp [PyData.depthAll]
  | r :: t => by
    have h1 := depth_rows t
    have h2 := depth_ints r
    simp only [List.map_cons, PyData.depthAll, PyData.depth, rowD]
    omega
theorem shaped_tab (t : List (List Int)) : SeqAt.shaped (tabD t) = true := by
  have h1 := depth_rows t
  unfold SeqAt.shaped tabD
  rw [Bool.and_eq_true]
  refine ⟨by simp only [PyData.canLay0]; exact canLay_rows t, decide_eq_true ?_⟩
  simp only [PyData.depth]
  omega
abbrev IsRow (H : Hp) (r : Addr) (row : List Int) : Prop := H r = some (.lst (row.map V.int))
structure Tab (H : Hp) (p : Addr) (rs : List Addr) (t : List (List Int)) : Prop where
  top : H p = some (.lst (rs.map V.ref))
  rows : Paired (IsRow H) rs t
  nd : rs.Nodup
theorem rdA_ints {K : PySem.W.Frag} {H : Hp} : ∀ ns : List Int, RdA K H (ns.map V.int) (ns.map PyData.int)
  | [] => .nil
  | n :: ns => .cons (.int n) (rdA_ints ns)
theorem rdD_row {K : PySem.W.Frag} {H : Hp} {r : Addr} {row : List Int} (h : IsRow H r row) : RdD K H (.ref r) (rowD row) := .lst (SqL.of h) (rdA_ints row)
theorem rdA_rows {K : PySem.W.Frag} {H : Hp} : ∀ {rs : List Addr} {t : List (List Int)}, Paired (IsRow H) rs t → RdA K H (rs.map V.ref) (t.map rowD)
  | _, _, .nil => .nil
  | _, _, .cons h t => .cons (rdD_row h) (rdA_rows t)
theorem Tab.rd {K : PySem.W.Frag} {H : Hp} {p : Addr} {rs : List Addr} {t : List (List Int)} (h : Tab H p rs t) : RdD K H (.ref p) (tabD t) := .lst (SqL.of h.top) (rdA_rows h.rows)
end L2
namespace L2
open PySem PySem.Spec PyProof.Rows
theorem set0_eq {σ σ0 : St} {v : Option V} (h : σ.set 0 none = σ0.set 0 none) : σ.set 0 v = σ0.set 0 v := by
  have := congrArg (fun l : St => l.set 0 v) h
  simpa only [List.set_set] using this
theorem comp_list {K : PySem.W.Frag} {a D : Addr} {xs : List V} {te : TE} {σ0 : St} {H1 : Hp} {Q : VK} (Pv : Nat → List V → Hp → Prop) (hz : xs.length ≤ sizeLine) (h0 : Pv 0 [] (upd H1 D (.lst [])))
    (hl : ∀ i ys H, i ≤ xs.length → Pv i ys H → SqL K H a xs ∧ ys.length ≤ i)
    (hs : ∀ i x ys H, xs[i]? = some x → Pv i ys H → te (σ0.set 0 (some x)) H fun y H4 => H4 D = some (.lst ys) ∧ Pv (i + 1) (ys ++ [y]) (upd H4 D (.lst (ys ++ [y]))))
    (hd : ∀ ys H, Pv xs.length ys H → Q (.ref D) H) : tCompL (Itl K a) (gName 0) tYes te D σ0 H1 Q := by
  refine ⟨fun i m σ H => m = xs.length - i ∧ i ≤ xs.length ∧ σ.set 0 none = σ0.set 0 none ∧ ∃ ys, Pv i ys H, ⟨xs.length, by simp, Nat.zero_le _, rfl, [], h0⟩, ?_⟩
  rintro i m σ H ⟨rfl, hi, hσ, ys, p⟩
  obtain ⟨q, hy⟩ := hl i ys H hi p
  by_cases hlt : i < xs.length
  · refine .inr ⟨⟨xs, xs[i], q, by simp [hlt]⟩, fun x H' y => ?_⟩
    obtain ⟨e, y⟩ := y
    subst e
    have hx := y xs q
    refine ⟨fun y H4 => H4 D = some (.lst ys) ∧ Pv (i + 1) (ys ++ [y]) (upd H4 D (.lst (ys ++ [y]))), fun y H4 ⟨e4, p4⟩ => ⟨ys, e4, by omega, xs.length - (i + 1), by omega, rfl, hlt, by rw [List.set_set]; exact hσ, _, p4⟩, ?_⟩
    rw [set0_eq hσ]
    exact hs i x ys _ hx p
  · have e : i = xs.length := by omega
    subst e
    exact .inl ⟨⟨xs, q, Nat.le_refl _⟩, hd ys H p⟩
theorem comp_range {lo : Int} {n : Nat} {D : Addr} {te : TE} {σ0 : St} {H1 : Hp} {Q : VK} (Pv : Nat → List V → Hp → Prop) (hz : n ≤ sizeLine) (h0 : Pv 0 [] (upd H1 D (.lst [])))
    (hl : ∀ i ys H, i ≤ n → Pv i ys H → ys.length ≤ i)
    (hs : ∀ i ys H, i < n → Pv i ys H → te (σ0.set 0 (some (.int (lo + i)))) H fun y H4 => H4 D = some (.lst ys) ∧ Pv (i + 1) (ys ++ [y]) (upd H4 D (.lst (ys ++ [y]))))
    (hd : ∀ ys H, Pv n ys H → Q (.ref D) H) : tCompL (Itr lo n) (gName 0) tYes te D σ0 H1 Q := by
  refine ⟨fun i m σ H => m = n - i ∧ i ≤ n ∧ σ.set 0 none = σ0.set 0 none ∧ ∃ ys, Pv i ys H, ⟨n, by simp, Nat.zero_le _, rfl, [], h0⟩, ?_⟩
  rintro i m σ H ⟨rfl, hi, hσ, ys, p⟩
  have hy := hl i ys H hi p
  by_cases hlt : i < n
  · refine .inr ⟨hlt, fun x H' y => ?_⟩
    obtain ⟨e, y⟩ := y
    subst e y
    refine ⟨fun y H4 => H4 D = some (.lst ys) ∧ Pv (i + 1) (ys ++ [y]) (upd H4 D (.lst (ys ++ [y]))), fun y H4 ⟨e4, p4⟩ => ⟨ys, e4, by omega, n - (i + 1), by omega, rfl, hlt, by rw [List.set_set]; exact hσ, _, p4⟩, ?_⟩
    rw [set0_eq hσ]
    exact hs i ys _ hlt p
  · have e : i = n := by omega
    subst e
    exact .inl ⟨Nat.le_refl _, hd ys H p⟩
theorem comp_pure {K : PySem.W.Frag} {a D : Addr} {xs : List V} {tt : TT} {te : TE} {σ0 : St} {H1 : Hp} {Q : VK} (p : V → Bool) (f : V → V) (hz : xs.length ≤ sizeLine) (hq : SqL K H1 a xs) (hD : H1 D = none)
    (ht : ∀ x ∈ xs, ∀ ys R, R (p x) (upd H1 D (.lst ys)) → tt (σ0.set 0 (some x)) (upd H1 D (.lst ys)) R)
    (he : ∀ x ∈ xs, p x = true → ∀ ys R, R (f x) (upd H1 D (.lst ys)) → te (σ0.set 0 (some x)) (upd H1 D (.lst ys)) R)
    (hd : Q (.ref D) (upd H1 D (.lst ((xs.filter p).map f)))) : tCompL (Itl K a) (gName 0) tt te D σ0 H1 Q := by
  have same : ∀ ys, Same H1 (upd H1 D (.lst ys)) := fun ys b o e => by rw [upd_ne (ne_of_none e hD)]; exact e
  refine ⟨fun i m σ H => m = xs.length - i ∧ i ≤ xs.length ∧ σ.set 0 none = σ0.set 0 none ∧ H = upd H1 D (.lst (((xs.take i).filter p).map f)), ⟨xs.length, by simp, Nat.zero_le _, rfl, by simp⟩, ?_⟩
  rintro i m σ H ⟨rfl, hi, hσ, rfl⟩
  have q := (same (((xs.take i).filter p).map f)).seq hq
  by_cases hlt : i < xs.length
  · refine .inr ⟨⟨xs, xs[i], q, by simp [hlt]⟩, fun x H' y => ?_⟩
    obtain ⟨e, y⟩ := y
    subst e
    have hx := y xs q
    have hm : x ∈ xs := List.mem_of_getElem? hx
    show tt (σ.set 0 (some x)) _ _
    rw [set0_eq hσ]
    refine ht x hm _ _ ?_
    have hts : (xs.take (i + 1)).filter p = (xs.take i).filter p ++ (if p x then [x] else []) := take_succ_filter p xs i x hx
    have hlen : (((xs.take i).filter p).map f).length ≤ i := by
      rw [List.length_map]
      refine Nat.le_trans (List.length_filter_le _ _) ?_
      rw [List.length_take]
      omega
    cases hp : p x with
    | true =>
      refine iteT ⟨fun y H4 => y = f x ∧ H4 = upd H1 D (.lst (((xs.take i).filter p).map f)), fun y H4 ⟨e3, e4⟩ => ?_, he x hm hp _ _ ⟨rfl, rfl⟩⟩
      subst e3 e4
      refine ⟨_, upd_same, by omega, xs.length - (i + 1), by omega, rfl, hlt, by rw [List.set_set], ?_⟩
      rw [upd_upd, hts, hp]
      simp
    | false =>
      refine iteF ⟨xs.length - (i + 1), by omega, rfl, hlt, by rw [List.set_set], ?_⟩
      rw [hts, hp]
      simp
  · have e : i = xs.length := by omega
    subst e
    refine .inl ⟨⟨xs, q, Nat.le_refl _⟩, ?_⟩
    rw [List.take_length]
    exact hd
def Callee (P : Program) (w : World) (K : PySem.W.Frag) (mg : Str → Option Value) (base : Heap) (k : Nat) (x : Str) (ps : List Str) (sp : Sp) : Prop :=
  ∃ f fd, FnOk P w K mg base CX0 k f fd ps sp ∧ mg x = some (.ref f) ∧ PySem.W.keepIn K (.ref f) = true ∧ Binds K fd ps []
structure DefAt (K : PySem.W.Frag) (mg : Str → Option Value) (x : Str) (st : Stmt) (ps : List Str) (f : Addr) (fd : FuncData) : Prop where
  fn : Fun K x x st f fd
  there : mg x = some (.ref f)
  bi : Binds K fd ps []
section
variable {X : Cx} {k : Nat} {x : Str} {ps : List Str} {sp : Sp} {e : Expr} {es : List Expr} {t : TA} {p pos : Pos}
theorem pe_def (G : Callee X.prog X.w X.K X.mg X.base k x ps sp) (hr : Room k X.A) (hg : Gl X x) (ha : PA X (e :: es) t) (hdb : (x == ("__debug__" : Str)) = false := by decide)
    (he : starEach (e :: es) X.env = (false, eval e X.env) :: starEach es X.env := by rfl) (hpl : (backTo pos (starEach es X.env)).any (·.1) = false := by rfl) : PE X (.Call (.Name x p) (e :: es) [] pos) (tCall sp [] E0 t) := by
  intro pins s σ H Q I h
  obtain ⟨f, fd, F, hm, hk, hb⟩ := G
  exact pe_call F hr hg hm hk hb .nil pass0 ha hdb he hpl pins s σ H Q I h
theorem pe_globI {i : Int} (hg : Gl X x) (hm : ∃ t, X.mg x = some (.int i t)) (hd : (x == ("__debug__" : Str)) = false := by decide) : PE X (.Name x pos) (tC (.int i)) := by
  obtain ⟨t, hm⟩ := hm
  exact pe_glob hg hm ⟨t, rfl⟩ hd
end
section
variable {P : Program} {w : World} {K : PySem.W.Frag} {mg : Str → Option Value} {base : Heap}
theorem DefAt.callee {x : Str} {st : Stmt} {ps : List Str} {f : Addr} {fd : FuncData} {k : Nat} {sp : Sp} (D : DefAt K mg x st ps f fd) (F : FnOk P w K mg base CX0 k f fd ps sp) : Callee P w K mg base k x ps sp :=
  ⟨f, fd, F, D.there, D.fn.kp, D.bi⟩
theorem DefAt.ok {x : Str} {st : Stmt} {N ps : List Str} {f : Addr} {fd : FuncData} {k : Nat} {sp : Sp} (D : DefAt K mg x st ps f fd) (S : FnScope N ps (defScope st)) (len : ∀ vs H Q E, sp vs H Q E → vs.length = ps.length)
    (hbody : ∀ (cdv : Value) (A : Around) (outer : List Env) (s : Shared) (H : Hp) (vs : List V) (Q : VK) (E : XK), Room k (A.deeper (envOfC x (defScope st) s.heap.objs.size f cdv)) → sp vs H Q E →
      ∃ t, PSs (cxOf CX0 P w K mg base N x (defScope st) f cdv A outer s H E).nox (defBody st) t ∧ t { nx := fun _ H' => Q .non H', rt := Q } (start N vs) H) : Callee P w K mg base (k + 1) x ps sp :=
  D.callee (D.fn.ok S len hbody)
end
def Ext (S : List Addr) (H H' : Hp) : Prop := ∀ b o, H b = some o → b ∉ S → H' b = some o
def Scr (K : PySem.W.Frag) (H : Hp) (a : Addr) (ns : List Int) : Prop :=
  (∃ o, H a = some (.frz o (.lst (ns.map V.int)))) ∨ ∃ (o : Obj) (its : Array Value) (n : Nat), K.lookup a = some o ∧ o.cls = .type "list" ∧ o.dict = none ∧ o.data = .seq its n ∧ its.size ≤ sizeLine ∧ Vals (ns.map V.int) its.toList
theorem Scr.seq {K : PySem.W.Frag} {H : Hp} {a : Addr} {ns : List Int} (h : Scr K H a ns) : SqL K H a (ns.map V.int) := h.elim (fun ⟨o, e⟩ => .inl (.inr ⟨o, e⟩)) .inr
theorem Scr.of {K : PySem.W.Frag} {H : Hp} {a : Addr} {ns : List Int} (hO : Only H) (h : SqL K H a (ns.map V.int)) : Scr K H a ns := by
  rcases h with (h | ⟨o, h⟩) | h
  · rcases hO a with z | ⟨o, xs, z⟩
    · rw [h] at z; cases z
    · rw [h] at z; cases z
  · exact .inl ⟨o, h⟩
  · exact .inr h
theorem Scr.ext {K : PySem.W.Frag} {H H' : Hp} {a p : Addr} {ns : List Int} {xs : List V} (h : Scr K H a ns) (hp : H p = some (.lst xs)) (e : Ext [p] H H') : Scr K H' a ns := by
  rcases h with ⟨o, h⟩ | h
  · refine .inl ⟨o, e a _ h fun z => ?_⟩
    rw [List.mem_singleton.mp z, hp] at h
    cases h
  · exact .inr h
theorem Scr.same {K : PySem.W.Frag} {H H' : Hp} {a : Addr} {ns : List Int} (h : Scr K H a ns) (e : Same H H') : Scr K H' a ns := by
  rcases h with ⟨o, h⟩ | h
  · exact .inl ⟨o, e a _ h⟩
  · exact .inr h
theorem Ext.refl (S : List Addr) (H : Hp) : Ext S H H := fun _ _ h _ => h
theorem Ext.trans {S : List Addr} {H H1 H2 : Hp} (a : Ext S H H1) (b : Ext S H1 H2) : Ext S H H2 := fun c o h hc => b c o (a c o h hc) hc
theorem Ext.new {S : List Addr} {H H' : Hp} {b : Addr} {o : HO} (e : Ext S H H') (h : H b = none) : Ext S H (upd H' b o) := fun c u hc hs => by
  rw [upd_ne (ne_of_none hc h)]; exact e c u hc hs
theorem Ext.at {S : List Addr} {H H' : Hp} {b : Addr} {o : HO} (e : Ext S H H') (h : b ∈ S) : Ext S H (upd H' b o) := fun c u hc hs => by
  rw [upd_ne (show c ≠ b from fun z => hs (z ▸ h))]; exact e c u hc hs
theorem Ext.same {H H' : Hp} (e : Same H H') (S : List Addr) : Ext S H H' := fun b o h _ => e b o h
theorem Same.new {H H' : Hp} {b : Addr} {o : HO} (e : Same H H') (h : H b = none) : Same H (upd H' b o) := fun c u hc => by
  rw [upd_ne (ne_of_none hc h)]; exact e c u hc
theorem Same.upd_new {H : Hp} {b : Addr} {o : HO} (h : H b = none) : Same H (upd H b o) := (Same.refl H).new h
theorem pr_get {α β : Type} {F : α → β → Prop} : ∀ {l : List α} {m : List β} {i : Nat} {a : α}, Paired F l m → l[i]? = some a → ∃ b, m[i]? = some b ∧ F a b
  | _, _, _, _, .nil, e => by simp at e
  | _, _, 0, _, .cons r _, e => by simp at e; subst e; exact ⟨_, rfl, r⟩
  | _, _, i + 1, a, .cons _ t, e => by
    obtain ⟨b, h1, h2⟩ := pr_get (i := i) (a := a) t (by simpa using e)
    exact ⟨b, by simpa using h1, h2⟩
theorem pr_imp {α β : Type} {F G : α → β → Prop} : ∀ {l : List α} {m : List β}, Paired F l m → (∀ a b, a ∈ l → F a b → G a b) → Paired G l m
  | _, _, .nil, _ => .nil
  | _, _, .cons r t, f => .cons (f _ _ List.mem_cons_self r) (pr_imp t fun a b ha h => f a b (List.mem_cons_of_mem _ ha) h)
theorem pr_setAt {α β : Type} {F G : α → β → Prop} {b : β} : ∀ {l : List α} {m : List β} {i : Nat} {a : α}, Paired F l m → l[i]? = some a → l.Nodup → (∀ x y, x ∈ l → x ≠ a → F x y → G x y) → G a b → Paired G l (m.set i b)
  | _, _, _, _, .nil, e, _, _, _ => by simp at e
  | x :: l, y :: m, 0, a, .cons r t, e, nd, f, g => by
    simp at e
    subst e
    refine .cons g (pr_imp t fun c d hc h => f c d (List.mem_cons_of_mem _ hc) (fun z => ?_) h)
    exact (List.nodup_cons.mp nd).1 (z ▸ hc)
  | x :: l, y :: m, i + 1, a, .cons r t, e, nd, f, g => by
    have e' : l[i]? = some a := by simpa using e
    have hne : x ≠ a := fun z => (List.nodup_cons.mp nd).1 (z ▸ List.mem_of_getElem? e')
    exact .cons (f x y List.mem_cons_self hne r) (pr_setAt (i := i) t e' (List.nodup_cons.mp nd).2 (fun c d hc => f c d (List.mem_cons_of_mem _ hc)) g)
theorem Tab.len {H : Hp} {p : Addr} {rs : List Addr} {t : List (List Int)} (h : Tab H p rs t) : rs.length = t.length := Paired.length h.rows
theorem Tab.there {H : Hp} {p : Addr} {rs : List Addr} {t : List (List Int)} (h : Tab H p rs t) {r : Addr} (hr : r ∈ rs) : ∃ row ∈ t, H r = some (.lst (row.map V.int)) := by
  obtain ⟨i, hi⟩ := List.getElem?_of_mem hr
  obtain ⟨b, h1, h2⟩ := pr_get h.rows hi
  exact ⟨b, List.mem_of_getElem? h1, h2⟩
theorem Tab.notTop {H : Hp} {p : Addr} {rs : List Addr} {t : List (List Int)} (h : Tab H p rs t) : p ∉ rs := fun hp => by
  obtain ⟨row, _, e⟩ := h.there hp
  rw [h.top] at e
  have e' : rs.map V.ref = row.map V.int := by injection Option.some.inj e
  cases rs with
  | nil => cases hp
  | cons a l =>
    cases row with
    | nil => cases e'
    | cons b m =>
      rw [List.map_cons, List.map_cons] at e'
      injection e' with e1 _
      cases e1
theorem Tab.off {H : Hp} {p : Addr} {rs : List Addr} {t : List (List Int)} {b : Addr} {o : HO} (h : Tab H p rs t) (h1 : b ≠ p) (h2 : b ∉ rs) : Tab (upd H b o) p rs t :=
  ⟨by rw [upd_ne (Ne.symm h1)]; exact h.top, pr_imp h.rows fun a row ha e => by show upd H b o a = _; rw [upd_ne (show a ≠ b from fun z => h2 (z ▸ ha))]; exact e, h.nd⟩
theorem Tab.new {H : Hp} {p : Addr} {rs : List Addr} {t : List (List Int)} {b : Addr} {o : HO} (h : Tab H p rs t) (h1 : H b = none) : Tab (upd H b o) p rs t :=
  h.off (fun z => by rw [z, h.top] at h1; cases h1) fun hb => by
    obtain ⟨row, _, e⟩ := h.there hb
    rw [h1] at e; cases e
theorem Tab.same {H H' : Hp} {p : Addr} {rs : List Addr} {t : List (List Int)} (h : Tab H p rs t) (e : Same H H') : Tab H' p rs t :=
  ⟨e _ _ h.top, pr_imp h.rows fun a row _ q => e _ _ q, h.nd⟩
theorem Tab.row {H : Hp} {p : Addr} {rs : List Addr} {t : List (List Int)} {i : Nat} {r : Addr} {row : List Int} (h : Tab H p rs t) (hr : rs[i]? = some r) : Tab (upd H r (.lst (row.map V.int))) p rs (t.set i row) := by
  have hm : r ∈ rs := List.mem_of_getElem? hr
  refine ⟨by rw [upd_ne (show p ≠ r from fun z => h.notTop (z ▸ hm))]; exact h.top, pr_setAt h.rows hr h.nd (fun x y _ hne e => ?_) ?_, h.nd⟩
  · show upd H r _ x = _
    rw [upd_ne hne]; exact e
  · show upd H r _ r = _
    rw [upd_same]
theorem Tab.push {H : Hp} {p : Addr} {rs : List Addr} {t : List (List Int)} {r : Addr} {row : List Int} (h : Tab H p rs t) (hr : H r = some (.lst (row.map V.int))) (hn : r ∉ rs) (hp : r ≠ p) : Tab (upd H p (.lst ((rs ++ [r]).map V.ref))) p (rs ++ [r]) (t ++ [row]) := by
  refine ⟨upd_same, Paired.snoc (pr_imp h.rows fun a row ha e => ?_) ?_, ?_⟩
  · show upd H p _ a = _
    rw [upd_ne (show a ≠ p from fun z => h.notTop (z ▸ ha))]; exact e
  · show upd H p _ r = _
    rw [upd_ne hp]; exact hr
  · exact List.nodup_append.mpr ⟨h.nd, by simp, fun a ha b hb => by
      rw [List.mem_singleton.mp hb]
      exact fun z => hn (z ▸ ha)⟩
section
variable {X : Cx} {K : PySem.W.Frag}
theorem pi_listK {tg l : Expr} {tl : TE} (h : X.K = K) (hl : PE X l tl) : PI X tg l (iList K tl) := by subst h; exact pi_list hl
end
end L2
namespace SH
open PySem L2
structure GoodRow (m : Nat) (row : List Int) : Prop where
  len : row.length = m
  wts : ∀ x ∈ row, 0 ≤ x ∧ x ≤ 9
  some' : ∃ x ∈ row, x ≠ 0
structure House (t : List (List Int)) : Prop where
  lo : 1 ≤ t.length
  hi : t.length ≤ 8
  rows : ∀ row ∈ t, GoodRow t.length row
structure Bd (K : PySem.W.Frag) (H0 : Hp) (a : Addr) (ns : List Int) (p : Addr) (H : Hp) (k : Int) : Prop where
  sc0 : Scr K H0 a ns
  p0 : ∃ xs, H0 p = some (.lst xs)
  ext : Ext [p] H0 H
  spot : H p = some (.lst [.int k])
  k0 : 0 ≤ k
section
variable {K : PySem.W.Frag} {H0 H : Hp} {a p b : Addr} {ns : List Int} {k : Int} {o : HO}
theorem Bd.start (h1 : Scr K H a ns) (h2 : H p = some (.lst [.int k])) (h3 : 0 ≤ k) : Bd K H a ns p H k := ⟨h1, ⟨_, h2⟩, Ext.refl _ _, h2, h3⟩
theorem Bd.sc (B : Bd K H0 a ns p H k) : Scr K H a ns := let ⟨_, e⟩ := B.p0; B.sc0.ext e B.ext
theorem Bd.next (B : Bd K H0 a ns p H k) : Bd K H0 a ns p (upd H p (.lst [.int (k + 1)])) (k + 1) := ⟨B.sc0, B.p0, B.ext.at (by simp), upd_same, by have := B.k0; omega⟩
theorem Bd.old (B : Bd K H0 a ns p H k) (h : H b = none) : H0 b = none := by
  cases e : H0 b with
  | none => rfl
  | some u =>
    by_cases hb : b = p
    · rw [hb, B.spot] at h; cases h
    · rw [B.ext b u e (by simpa using hb)] at h; cases h
theorem Bd.ne (B : Bd K H0 a ns p H k) (h : H0 b = none) : b ≠ p := fun z => by
  obtain ⟨xs, e⟩ := B.p0
  rw [z, e] at h; cases h
theorem Bd.own (B : Bd K H0 a ns p H k) (h : H0 b = none) : Bd K H0 a ns p (upd H b o) k :=
  ⟨B.sc0, B.p0, B.ext.new h, by rw [upd_ne (Ne.symm (B.ne h))]; exact B.spot, B.k0⟩
theorem Bd.new (B : Bd K H0 a ns p H k) (h : H b = none) : Bd K H0 a ns p (upd H b o) k := B.own (B.old h)
end
structure Own (H0 H : Hp) (q : Addr) (rs : List Addr) (t : List (List Int)) : Prop where
  tab : Tab H q rs t
  nq : H0 q = none
  nr : ∀ r ∈ rs, H0 r = none
theorem Own.off {H0 H : Hp} {q b : Addr} {rs : List Addr} {t : List (List Int)} {o : HO} (h : Own H0 H q rs t) (hb : H0 b ≠ none) : Own H0 (upd H b o) q rs t :=
  ⟨h.tab.off (fun z => hb (z ▸ h.nq)) (fun z => hb (h.nr _ z)), h.nq, h.nr⟩
theorem Own.new {H0 H : Hp} {q b : Addr} {rs : List Addr} {t : List (List Int)} {o : HO} (h : Own H0 H q rs t) (hb : H b = none) : Own H0 (upd H b o) q rs t := ⟨h.tab.new hb, h.nq, h.nr⟩
theorem Own.spot {K : PySem.W.Frag} {H0 H : Hp} {a p q : Addr} {ns : List Int} {k : Int} {rs : List Addr} {t : List (List Int)} {o : HO} (B : Bd K H0 a ns p H k) (h : Own H0 H q rs t) : Own H0 (upd H p o) q rs t :=
  h.off (by obtain ⟨xs, e⟩ := B.p0; rw [e]; simp)
def spCell (K : PySem.W.Frag) : Sp := fun vs H Q _ => ∃ (a : Addr) (ns : List Int) (k : Int), vs = [.ref a, .int k] ∧ SqL K H a (ns.map V.int) ∧ 0 ≤ k ∧ ∀ n : Int, Q (.int n) H
def spNext (K : PySem.W.Frag) : Sp := fun vs H Q _ => ∃ (a p : Addr) (ns : List Int) (k : Int), vs = [.ref a, .ref p] ∧ Scr K H a ns ∧ H p = some (.lst [.int k]) ∧ 0 ≤ k ∧ ∀ n : Int, Q (.int n) (upd H p (.lst [.int (k + 1)]))
def spWeight : Sp := fun vs H Q _ => ∃ (c s : Int), vs = [.int c, .int s] ∧ ∀ x : Int, 0 ≤ x → x ≤ 9 → Q (.int x) H
def spMake (K : PySem.W.Frag) : Sp := fun vs H Q _ => ∃ (a p : Addr) (ns : List Int) (k m : Int), vs = [.ref a, .ref p, .int m] ∧ Scr K H a ns ∧ H p = some (.lst [.int k]) ∧ 0 ≤ k ∧ 1 ≤ m ∧ m ≤ 8 ∧
  ∀ (H' : Hp) (q : Addr) (rs : List Addr) (t : List (List Int)) (k' : Int), Bd K H a ns p H' k' → Own H H' q rs t → House t → (t.length : Int) = m → Q (.ref q) H'
def spHouse (K : PySem.W.Frag) : Sp := fun vs H Q _ => ∃ (a p : Addr) (ns : List Int) (k : Int) (m : Int), vs = [.ref a, .ref p, .int m] ∧ Scr K H a ns ∧ H p = some (.lst [.int k]) ∧ 0 ≤ k ∧ 1 ≤ m ∧ m ≤ 8 ∧
  ∀ (H' : Hp) (q : Addr) (rs : List Addr) (t : List (List Int)) (k' : Int), Bd K H a ns p H' k' → Own H H' q rs t → House t → (t.length : Int) ≤ m → Q (.ref q) H'
theorem ixN_of {n : Nat} {i : Int} (h0 : 0 ≤ i) (h1 : i < n) : ixN n i = some i.toNat := by
  unfold ixN
  rw [if_pos h0, if_pos h1]
theorem atI_pos {α : Type} {xs : List α} {i : Int} {v : α} (h0 : 0 ≤ i) (h : xs[i.toNat]? = some v) : atI xs i = some v := by
  have := atI_nat h
  rwa [Int.toNat_of_nonneg h0] at this
theorem sum_zero : ∀ {l : List Int}, (∀ x ∈ l, x = 0) → l.sum = 0
  | [], _ => rfl
  | x :: l, h => by
    rw [List.sum_cons, h x List.mem_cons_self, sum_zero fun y hy => h y (List.mem_cons_of_mem _ hy)]
    rfl
theorem nonzero_of_sum {l : List Int} (h : l.sum ≠ 0) : ∃ x ∈ l, x ≠ 0 := by
  refine Classical.byContradiction fun q => h (sum_zero fun x hx => ?_)
  exact Classical.byContradiction fun z => q ⟨x, hx, z⟩
theorem set_map (l : List Int) (j : Nat) (v : Int) : (l.map V.int).set j (.int v) = (l.set j v).map V.int := by rw [List.map_set]
theorem mem_set_or {α : Type} {l : List α} {j : Nat} {v x : α} (h : x ∈ l.set j v) : x ∈ l ∨ x = v := List.mem_or_eq_of_mem_set h
theorem GoodRow.set {m : Nat} {row : List Int} {j : Nat} {v : Int} (hl : row.length = m) (hw : ∀ x ∈ row, 0 ≤ x ∧ x ≤ 9) (hj : j < row.length) (h1 : 1 ≤ v) (h9 : v ≤ 9) : GoodRow m (row.set j v) := by
  refine ⟨by rw [List.length_set]; exact hl, fun x hx => ?_, v, ?_, by omega⟩
  · rcases mem_set_or hx with h | h
    · exact hw x h
    · rw [h]; omega
  · exact List.mem_iff_getElem.mpr ⟨j, by rw [List.length_set]; exact hj, by simp⟩
theorem Own.at {H0 H : Hp} {q : Addr} {rs : List Addr} {t : List (List Int)} {i : Nat} (O : Own H0 H q rs t) (hi : i < t.length) : ∃ r row, rs[i]? = some r ∧ t[i]? = some row ∧ (rs.map V.ref)[i]? = some (.ref r) ∧ H r = some (.lst (row.map V.int)) ∧ H0 r = none := by
  have hi' : i < rs.length := by rw [O.tab.len]; exact hi
  have e : rs[i]? = some rs[i] := by simp [hi']
  obtain ⟨row, h1, h2⟩ := pr_get O.tab.rows e
  exact ⟨rs[i], row, e, h1, by rw [List.getElem?_map, e]; rfl, h2, O.nr _ (List.getElem_mem hi')⟩
theorem Own.row {H0 H : Hp} {q r : Addr} {rs : List Addr} {t : List (List Int)} {i : Nat} {row : List Int} (O : Own H0 H q rs t) (hr : rs[i]? = some r) : Own H0 (upd H r (.lst (row.map V.int))) q rs (t.set i row) := ⟨O.tab.row hr, O.nq, O.nr⟩
theorem Own.push {H0 H : Hp} {q r : Addr} {rs : List Addr} {t : List (List Int)} {row : List Int} (O : Own H0 H q rs t) (hr : H r = some (.lst (row.map V.int))) (h0 : H0 r = none) (hn : r ∉ rs) (hq : r ≠ q) : Own H0 (upd H q (.lst ((rs ++ [r]).map V.ref))) q (rs ++ [r]) (t ++ [row]) :=
  ⟨O.tab.push hr hn hq, O.nq, fun x hx => by
    rcases List.mem_append.mp hx with h | h
    · exact O.nr x h
    · rw [List.mem_singleton.mp h]; exact h0⟩
theorem Own.notIn {H0 H : Hp} {q r : Addr} {rs : List Addr} {t : List (List Int)} (O : Own H0 H q rs t) (h : H r = none) : r ∉ rs ∧ r ≠ q := by
  refine ⟨fun hr => ?_, fun z => ?_⟩
  · obtain ⟨row, _, e⟩ := O.tab.there hr
    rw [h] at e; cases e
  · rw [z, O.tab.top] at h; cases h
theorem Own.mine {H0 H : Hp} {q r : Addr} {rs : List Addr} {t : List (List Int)} {o : HO} (O : Own H0 H q rs t) (hn : r ∉ rs) (hq : r ≠ q) : Own H0 (upd H r o) q rs t := ⟨O.tab.off hq hn, O.nq, O.nr⟩
theorem Own.sq {K : PySem.W.Frag} {H0 H : Hp} {q : Addr} {rs : List Addr} {t : List (List Int)} (O : Own H0 H q rs t) : SqL K H q (rs.map V.ref) := SqL.of O.tab.top
def mat (t : List (List Int)) (i j : Nat) : Int := (t.getD i []).getD j 0
structure Sq (m : Nat) (t : List (List Int)) : Prop where
  len : t.length = m
  rows : ∀ row ∈ t, row.length = m ∧ ∀ x ∈ row, 0 ≤ x ∧ x ≤ 3
def NZ (i : Nat) (t : List (List Int)) : Prop := ∀ i', 1 ≤ i' → i' < i → ∃ j', j' < i' ∧ mat t i' j' ≠ 0
theorem mat_set {t : List (List Int)} {i j : Nat} {row : List Int} {v : Int} (hr : t[i]? = some row) (i' j' : Nat) : mat (t.set i (row.set j v)) i' j' = if i' = i ∧ j' = j ∧ j < row.length then v else mat t i' j' := by
  have hi : i < t.length := (List.getElem?_eq_some_iff.mp hr).1
  have hrow : t[i] = row := (List.getElem?_eq_some_iff.mp hr).2
  unfold mat
  simp only [List.getD_eq_getElem?_getD]
  by_cases e : i' = i
  · subst e
    rw [List.getElem?_set_self hi, hr]
    simp only [Option.getD_some]
    by_cases ej : j' = j
    · subst ej
      by_cases hj : j' < row.length
      · simp [List.getElem?_set_self hj, hj]
      · rw [if_neg (fun z => hj z.2.2), List.getElem?_eq_none (by rw [List.length_set]; omega), List.getElem?_eq_none (by omega)]
    · rw [List.getElem?_set_ne (Ne.symm ej), if_neg (fun z => ej z.2.1)]
  · rw [List.getElem?_set_ne (Ne.symm e), if_neg (fun z => e z.1)]
theorem Sq.set {m : Nat} {t : List (List Int)} {i j : Nat} {row : List Int} {v : Int} (S : Sq m t) (hr : t[i]? = some row) (h0 : 0 ≤ v) (h3 : v ≤ 3) : Sq m (t.set i (row.set j v)) := by
  refine ⟨by rw [List.length_set]; exact S.len, fun x hx => ?_⟩
  have q := S.rows row (List.mem_of_getElem? hr)
  rcases mem_set_or hx with h | h
  · exact S.rows x h
  · subst h
    refine ⟨by rw [List.length_set]; exact q.1, fun y hy => ?_⟩
    rcases mem_set_or hy with z | z
    · exact q.2 y z
    · rw [z]; exact ⟨h0, h3⟩
theorem NZ.set {n : Nat} {t : List (List Int)} {i j : Nat} {row : List Int} {v : Int} (Z : NZ n t) (hr : t[i]? = some row) (h : n ≤ i ∨ n ≤ j ∨ i = 0 ∨ v ≠ 0) : NZ n (t.set i (row.set j v)) := by
  intro i' h1 h2
  obtain ⟨j', h3, h4⟩ := Z i' h1 h2
  refine ⟨j', h3, ?_⟩
  rw [mat_set hr]
  split
  · rename_i q
    obtain ⟨q1, q2, q3⟩ := q
    rcases h with h | h | h | h
    · omega
    · omega
    · omega
    · exact h
  · exact h4
theorem mat_of {t : List (List Int)} {i j : Nat} {row : List Int} {x : Int} (h : t[i]? = some row) (h' : row[j]? = some x) : mat t i j = x := by
  unfold mat
  simp only [List.getD_eq_getElem?_getD]
  rw [h]
  simp only [Option.getD_some]
  rw [h']
  rfl
theorem cut_take (xs : List V) (i : Nat) : cutV xs none (some (i : Int)) = xs.take i := by
  unfold cutV
  rw [HT.sIx_none, HT.sIx_nat, List.drop_zero, Nat.sub_zero]
  by_cases h : i ≤ xs.length
  · rw [Nat.min_eq_left h]
  · rw [Nat.min_eq_right (by omega), List.take_length, List.take_of_length_le (by omega)]
theorem mat_mem {t : List (List Int)} {i j : Nat} {row : List Int} (h : t[i]? = some row) (h' : mat t i j ≠ 0) : ∃ x ∈ row, x ≠ 0 := by
  unfold mat at h'
  simp only [List.getD_eq_getElem?_getD] at h'
  rw [h] at h'
  simp only [Option.getD_some] at h'
  cases e : row[j]? with
  | none => rw [e] at h'; exact absurd rfl h'
  | some x => rw [e] at h'; exact ⟨x, List.mem_of_getElem? e, h'⟩
def scaleV (k : Int) : V → V
  | .int x => .int (x * k)
  | _ => .non
theorem map_scale (k : Int) (row : List Int) : (((row.map V.int).filter fun _ => true).map (scaleV k)) = (row.map (· * k)).map V.int := by
  induction row with
  | nil => rfl
  | cons x r ih =>
    simp only [List.map_cons, List.filter_cons, if_true] at ih ⊢
    rw [ih]
    rfl
theorem good_scaled {m : Nat} {row : List Int} {k : Int} (hl : row.length = m) (hw : ∀ x ∈ row, 0 ≤ x ∧ x ≤ 3) (hn : ∃ x ∈ row, x ≠ 0) (k1 : 1 ≤ k) (k3 : k ≤ 3) : GoodRow m (row.map (· * k)) := by
  have kk : k = 1 ∨ k = 2 ∨ k = 3 := by omega
  refine ⟨by rw [List.length_map]; exact hl, fun y hy => ?_, ?_⟩
  · obtain ⟨x, hx, rfl⟩ := List.mem_map.mp hy
    have := hw x hx
    show 0 ≤ x * k ∧ x * k ≤ 9
    rcases kk with rfl | rfl | rfl <;> omega
  · obtain ⟨x, hx, x0⟩ := hn
    refine ⟨x * k, List.mem_map.mpr ⟨x, hx, rfl⟩, ?_⟩
    rcases kk with rfl | rfl | rfl <;> omega
theorem ref_at {rs : List Addr} {i : Nat} {x : V} (hx : (rs.map V.ref)[i]? = some x) : ∃ r, rs[i]? = some r ∧ x = V.ref r := by
  rw [List.getElem?_map] at hx
  cases z : rs[i]? with
  | none => rw [z] at hx; cases hx
  | some r => rw [z] at hx; exact ⟨r, rfl, (Option.some.inj hx).symm⟩
theorem off0 (i : Nat) : (0 + (i : Int)).toNat = i := by omega
theorem Bd.trans {K : PySem.W.Frag} {H0 H1 H2 : Hp} {a p : Addr} {ns : List Int} {k1 k2 : Int} (A : Bd K H0 a ns p H1 k1) (B : Bd K H1 a ns p H2 k2) : Bd K H0 a ns p H2 k2 := ⟨A.sc0, A.p0, A.ext.trans B.ext, B.spot, B.k0⟩
theorem Own.trans {K : PySem.W.Frag} {H0 H1 H2 : Hp} {a p q : Addr} {ns : List Int} {k1 : Int} {rs : List Addr} {t : List (List Int)} (A : Bd K H0 a ns p H1 k1) (O : Own H1 H2 q rs t) : Own H0 H2 q rs t := ⟨O.tab, A.old O.nq, fun r h => A.old (O.nr r h)⟩
theorem House.set {t : List (List Int)} {i j : Nat} {row : List Int} {v : Int} (h : House t) (hr : t[i]? = some row) (hj : j < row.length) (h1 : 1 ≤ v) (h9 : v ≤ 9) : House (t.set i (row.set j v)) := by
  refine ⟨by rw [List.length_set]; exact h.lo, by rw [List.length_set]; exact h.hi, fun x hx => ?_⟩
  rw [List.length_set]
  have g := h.rows row (List.mem_of_getElem? hr)
  rcases mem_set_or hx with z | z
  · exact h.rows x z
  · subst z
    exact GoodRow.set g.len g.wts hj h1 h9
def Small (n : Nat) (t : List (List Int)) : Prop := t.length ≤ n ∧ ∀ row ∈ t, row.length ≤ n
theorem blq {Q : VK} {a b : Bool} {H : Hp} (h : Q (.bl a) H) (e : a = b) : Q (.bl b) H := e ▸ h
end SH
namespace SH
open PySem L2
def lcmN (ns : List Nat) : Nat := ns.foldl Nat.lcm 1
def low (a b : Nat) : Nat × Nat := (a / Nat.gcd a b, b / Nat.gcd a b)
abbrev NT := List (List Nat)
structure NHouse (t : NT) : Prop where
  lo : 1 ≤ t.length
  hi : t.length ≤ 8
  rows : ∀ row ∈ t, row.length = t.length ∧ (∀ x ∈ row, x ≤ 9) ∧ 0 < row.sum
theorem le_sum : ∀ {l : List Nat} {x : Nat}, x ∈ l → x ≤ l.sum
  | y :: l, x, h => by
    rw [List.sum_cons]
    rcases List.mem_cons.mp h with rfl | h
    · exact Nat.le_add_right _ _
    · exact Nat.le_trans (le_sum h) (Nat.le_add_left _ _)
end SH
namespace L2
open PySem PySem.Spec PyProof.Rows
section
variable {X : Cx} {pins : List (Addr × Obj)} {σ : St} {H : Hp} {s : Shared}
end
section
variable {X : Cx} {K : PySem.W.Frag} {a b : Expr} {t : TA} {elts : List Expr} {x1 : Nat} {tp p pos : Pos}
end
def Fit (b : Nat) (x : Int) : Prop := x.natAbs < 2 ^ b
section
variable {X : Cx}
theorem call_isi : CallR X (.builtin "isinstance") (fun xs H Q => ∃ x t c b, xs = [x, .ty c] ∧ TyOf X.K H x t ∧ PySem.W.kitOne X.K t (.type c) = some b ∧ Q (.bl b) H) := by
  intro pins s σ H xs us Q I r h
  obtain ⟨x, t, c, b, rfl, ty, hk, q⟩ := h
  obtain ⟨u, w', rfl, r1, r2⟩ := vals2 r
  have e2 : w' = Value.type c := r2
  subst e2
  exact isinst_ok I r1 ty hk fun tk => ⟨.bl b, H, I.tok _, rfl, q⟩
theorem call_isiK {K : PySem.W.Frag} (h : X.K = K) : CallR X (.builtin "isinstance") (fun xs H Q => ∃ x t c b, xs = [x, .ty c] ∧ TyOf K H x t ∧ PySem.W.kitOne K t (.type c) = some b ∧ Q (.bl b) H) := by subst h; exact call_isi
end
theorem kit_same (K : PySem.W.Frag) (T : String) : PySem.W.kitOne K (.type T) (.type T) = some true := by
  unfold PySem.W.kitOne
  rw [if_pos (by simp)]
theorem kit_int_bool (K : PySem.W.Frag) : PySem.W.kitOne K (.type "int") (.type "bool") = some false := by kernel_rfl
end L2
namespace SH
open PySem L2
abbrev cs (ns : List Nat) : List Int := ns.map fun (n : Nat) => (n : Int)
def up (t : NT) : List (List Int) := t.map cs
theorem cs_len (ns : List Nat) : ((cs ns).map V.int).length = ns.length := by rw [List.length_map, List.length_map]
theorem cs_sum : ∀ ns : List Nat, (cs ns).sum = ((ns.sum : Nat) : Int)
  | [] => rfl
  | n :: ns => by
    show (n : Int) + (cs ns).sum = _
    rw [cs_sum ns, List.sum_cons]
    rfl
theorem cs_up {row : List Int} (h : ∀ x ∈ row, 0 ≤ x) : row = cs (row.map Int.toNat) := by
  induction row with
  | nil => rfl
  | cons x r ih =>
    have hx := h x List.mem_cons_self
    show x :: r = ((x.toNat : Nat) : Int) :: cs (r.map Int.toNat)
    rw [← ih fun y hy => h y (List.mem_cons_of_mem _ hy), Int.toNat_of_nonneg hx]
theorem up_len (t : NT) : (up t).length = t.length := by unfold up; rw [List.length_map]
theorem up_at {t : NT} {i : Nat} {r : List Int} (h : (up t)[i]? = some r) : ∃ row, t[i]? = some row ∧ r = cs row := by
  unfold up at h
  rw [List.getElem?_map] at h
  cases e : t[i]? with
  | none => rw [e] at h; cases h
  | some row => rw [e] at h; exact ⟨row, rfl, (Option.some.inj h).symm⟩
theorem sum_pos_of {row : List Nat} (h : ∃ x ∈ row, x ≠ 0) : 0 < row.sum := by
  obtain ⟨x, hx, x0⟩ := h
  have := le_sum hx
  omega
theorem house_up {t : List (List Int)} (h : House t) : ∃ n : NT, t = up n ∧ NHouse n := by
  have nn : ∀ row ∈ t, ∀ x ∈ row, 0 ≤ x := fun row hr x hx => ((h.rows row hr).wts x hx).1
  refine ⟨t.map (List.map Int.toNat), ?_, ?_, ?_, ?_⟩
  · unfold up
    rw [List.map_map]
    have key : ∀ l : List (List Int), (∀ row ∈ l, ∀ x ∈ row, 0 ≤ x) → l = l.map (cs ∘ List.map Int.toNat) := by
      intro l
      induction l with
      | nil => intro _; rfl
      | cons r l ih =>
        intro hl
        rw [List.map_cons, ← ih fun row hr => hl row (List.mem_cons_of_mem _ hr)]
        show r :: l = cs (r.map Int.toNat) :: l
        rw [← cs_up (hl r List.mem_cons_self)]
    exact key t nn
  · rw [List.length_map]; exact h.lo
  · rw [List.length_map]; exact h.hi
  · intro row hr
    obtain ⟨r, hr', rfl⟩ := List.mem_map.mp hr
    have g := h.rows r hr'
    rw [List.length_map, List.length_map]
    refine ⟨g.len, fun x hx => ?_, sum_pos_of ?_⟩
    · obtain ⟨y, hy, rfl⟩ := List.mem_map.mp hx
      have := g.wts y hy
      omega
    · obtain ⟨y, hy, y0⟩ := g.some'
      have := g.wts y hy
      exact ⟨y.toNat, List.mem_map.mpr ⟨y, hy, rfl⟩, by omega⟩
abbrev NL (H : Hp) (p : Addr) (ns : List Nat) : Prop := H p = some (.lst ((cs ns).map V.int))
abbrev IsPart (H : Hp) (r : Addr) (q : Nat × Nat) : Prop := H r = some (.tup [.int (q.1 : Int), .int (q.2 : Int)])
def topsOf (ps : List (Nat × Nat)) (b : Nat) : List Nat := ps.map fun q => q.1 * (b / q.2)
def partB (a b : Int) : Bool := decide (0 ≤ a) && (decide (1 ≤ b) && decide (Int.gcd a b = 1))
end SH
namespace L2
open PySem PySem.Spec PyProof.Rows PySem.W PySem.Calls Builtin Builtin.ObjectAttr Builtin.Getset_descriptor
def ExcO (C e : Addr) (h : Heap) : Prop := ∃ o vs, h.get? e = some o ∧ o.cls = .ref C ∧ o.data = .fields vs
theorem ExcO.ty {C e : Addr} {M : Model} {h : Heap} (p : ExcO C e h) : Looks M h (typeOf (.ref e)) (.ref C) := by
  obtain ⟨o, vs, h1, h2, h3⟩ := p
  exact h2 ▸ (Looks.ld h1).andThen .now
structure ExcK (K : Frag) (C : Addr) : Prop where
  ga : findIn K (.ref C) "__getattribute__" = some (some (.builtin "BaseException.__getattribute__"))
  gt : findIn K (.ref C) "__getattr__" = some none
  ca : findIn K (.ref C) "__class__" = some (some (.builtin "object.__class__"))
  mo : mroIn K C (.type "object") = some true
  mb : mroIn K C (.type "BaseException") = some true
  cl : (clsIn K C).isSome = true
  hn : specialIn K (.builtin "object.__class__") "__get__" = some (some (.builtin "getset_descriptor.__get__"))
  tk : takesIn K (.builtin "object.__class__") = some true
section
variable {prog : Program} {w : World} {A : Around} {E : Value → Shared → Prop} {s : Shared} {K : Frag} {C e : Addr}
theorem exc_class_get {R : Result → Shared → Prop} {tp : Value} (X : K.In s.heap) (Z : ExcK K C) (p : ExcO C e s.heap)
    (h : R (.ok (.ret (.ref C))) s) : codeAny (model prog w) A (.call (.builtin "getset_descriptor.__get__") ⟨[.builtin "object.__class__", .ref e, tp], []⟩) R s := by
  obtain ⟨hh, g, dr, t, os⟩ := s
  have L0 := p.ty (M := model prog w)
  have L1 := looks_mroIn (M := model prog w) X Z.mo
  refine codeAny_call_builtin KF.slot_gs.plain KF.entry_gs (KF.slot_gs.check _ _ _ _ _ _ _ _ KF.type_class (KF.args_gs _ _ _) ?_)
  unfold Builtin.«getset_descriptor.__get__» descrGet
  rw [dga_obj]
  refine wpAny_bind (wpAny_pure ?_)
  unfold descrGetter descrCheckInstance descrNameAndClass isInstance
  simp only [KF.owner_class]
  repeat lk
  refine ⟨Code.quiet_builtin _ (by decide +kernel), codeAny_builtin KF.entry_class ?_⟩
  unfold Builtin.«object.__class__» shownTypeOf
  repeat lk
  exact h
theorem exc_find {M : Model} {h : Heap} (X : K.In h) (Z : ExcK K C) : Looks M h (find (.ref e) (.ref C) "__class__") (.bind (.builtin "getset_descriptor.__get__") (.builtin "object.__class__")) := by
  refine (looks_findIn (M := M) X Z.ca).andThen ((show Looks M h (getOf (some (.builtin "object.__class__"))) (some (.builtin "getset_descriptor.__get__")) from looks_specialIn X Z.hn).andThen ?_)
  exact (show Looks M h (dataDescriptor? (some (.builtin "object.__class__")) (some (.builtin "getset_descriptor.__get__"))) (some (.builtin "getset_descriptor.__get__", .builtin "object.__class__")) from (looks_takesIn (M := M) X Z.tk).andThen .now).andThen (Looks.tag .now)
theorem exc_entry {tk : Tok} {Q : Fin → Shared → Prop} (X : K.In s.heap) (Z : ExcK K C) (p : ExcO C e s.heap) (hq : Q (.done (.ret (.ref C))) s) :
    wpAny (model prog w) A (Builtin.«object.__getattribute__» ⟨[.ref e, .str "__class__" tk], []⟩) Q E s := by
  have L0 := p.ty (M := model prog w)
  have L1 := exc_find (e := e) (M := model prog w) X Z
  unfold Builtin.«object.__getattribute__»
  refine wpAny_bind (wpAny_pure (wpAny_bind (wpAny_pure (wpAny_bind (L0.at (wpAny_bind (L1.at ?_)))))))
  show wpAny _ _ (bindTo _ _ _ _) _ _ _
  unfold bindTo
  show wpAny _ _ (holding [.builtin "object.__class__"] (call (.builtin "getset_descriptor.__get__") [.builtin "object.__class__", .ref e, .ref C]) >>= ret) _ _ _
  exact wpAny_bind (wpAny_holding (wpAny_call (exc_class_get X Z p (wpAny_pure hq))))
theorem exc_check {M : Model} {nameV : Value} {Q : Unit → Shared → Prop} (X : K.In s.heap) (Z : ExcK K C) (p : ExcO C e s.heap) (hq : Q () s) :
    wpAny M A (checkBuiltinCall "BaseException.__getattribute__" ⟨[.ref e, nameV], []⟩) Q E s := by
  obtain ⟨hh, g, dr, t, os⟩ := s
  have L0 := p.ty (M := M)
  have L1 := looks_mroIn (M := M) X Z.mb
  have hk : builtinKind "BaseException.__getattribute__" = some .slot := by decide +kernel
  have hsplit : splitId "BaseException.__getattribute__" = some ("BaseException", "__getattribute__") := by decide +kernel
  have ha := F.args_bexc_ga (.ref e) nameV
  simp only [checkBuiltinCall, hk, hsplit]
  unfold isInstance
  repeat lk
  repeat wp_step
  exact hq
theorem exc_ga_call {tk : Tok} {R : Result → Shared → Prop} (X : K.In s.heap) (Z : ExcK K C) (p : ExcO C e s.heap) (hq : R (.ok (.ret (.ref C))) s) :
    codeAny (model prog w) A (.call (.builtin "BaseException.__getattribute__") ⟨[.ref e, .str "__class__" tk], []⟩) R s :=
  codeAny_call_builtin F.attrBase_ValueError.ga.plain F.entry_bexc_ga (exc_check X Z p (exc_entry X Z p hq))
theorem exc_class {Q : Option Value → Shared → Prop} (X : K.In s.heap) (Z : ExcK K C) (p : ExcO C e s.heap) (h : Q (some (.ref C)) { s with toks := s.toks + 1 }) :
    wpAny (model prog w) A (getAttr? (.ref e) "__class__") Q E s := by
  obtain ⟨hh, g, d, t, os⟩ := s
  have L0 := p.ty (M := model prog w)
  have L1 := looks_findIn (M := model prog w) X Z.ga
  have L2 := looks_findIn (M := model prog w) X Z.gt
  have f3 := F.attrBase_ValueError.ga.bind (.ref e)
  have hx2 : (Value.builtin "BaseException.__getattribute__" == Value.builtin "object.__getattribute__") = false := by decide +kernel
  have hx1 : (onTheHeap (Value.ref C) && Value.builtin "BaseException.__getattribute__" == Value.builtin "object.__getattribute__") = false := by rw [hx2]; rfl
  unfold getAttr? getAttrBy? getAttrBy
  refine wpAny_bind (wpAny_mkText (wpAny_bind (wpAny_attempt (wpAny_holding (wpAny_bind (L0.at (wpAny_bind (L1.at ?_))))))))
  simp only [hx1]
  unfold getAttrByItsOwn hookBefore callGetattribute
  show wpAny _ _ (typeLookup (.ref C) "__getattr__" >>= _) _ _ _
  refine wpAny_bind (L2.at (wpAny_bind (wpAny_attempt (wpAny_holding ?_))))
  show wpAny _ _ (boundAndCalled _ _ _) _ _ _
  unfold boundAndCalled
  rw [f3]
  refine wpAny_bind (wpAny_pure (wpAny_call (exc_ga_call (K := K) X Z p ?_)))
  show wpAny _ _ (handedOut (.ref C)) _ _ _
  exact wpAny_pure (wpAny_pure h)
theorem kitx_exc (Z : ExcK K C) : KitX K (.ref e) (.ref C) (ExcO C e) where
  ty := fun _ _ _ p => p.ty
  it := fun _ _ X _ => by
    obtain ⟨cdD, hcD⟩ := Option.isSome_iff_exists.mp Z.cl
    unfold clsIn at hcD
    split at hcD
    · rename_i c' d' cd' sl' ho
      intro A' Q' E' s' k q
      unfold isType loadHead
      exact wpAny_bind (wpAny_loadPart (k _ _ (X _ _ ho)) (wpAny_pure q))
    · cases hcD
  ne := fun h tp dd its n sl X htp => by
    obtain ⟨cdD, hcD⟩ := Option.isSome_iff_exists.mp Z.cl
    refine Bool.eq_false_iff.mpr fun q => ?_
    have e : C = tp := Value.ref.inj (beq_iff_eq.mp q)
    subst e
    unfold clsIn at hcD
    split at hcD
    · rename_i c' d' cd' sl' ho
      have z := (X _ _ ho).symm.trans htp
      cases z
    · cases hcD
  ca := fun X p k => exc_class X Z p k
end
end L2
namespace L2
open PySem PySem.Spec PyProof.Rows PySem.W
theorem ObjOk.there {P : Program} {w : World} {H : Hp} {h : Heap} {a : Addr} {o : HO} (x : ObjOk P w H h a o) : ∃ ob, h.get? a = some ob := by
  cases o with
  | lst xs => obtain ⟨_, _, _, _, e⟩ := x; exact ⟨_, e⟩
  | tup xs => obtain ⟨_, _, _, ob, e, _⟩ := x; exact ⟨_, e⟩
  | dK kvs => obtain ⟨_, _, _, _, o, _, _, e, _⟩ := x; exact ⟨_, e⟩
  | dT kvs => obtain ⟨_, _, _, _, o, _, _, e, _⟩ := x; exact ⟨_, e⟩
  | set S n => obtain ⟨o, _, _, _, e, _⟩ := x; exact ⟨_, e⟩
  | ins C dx fs => obtain ⟨_, _, _, e, _⟩ := x; exact ⟨_, e⟩
  | own y => obtain ⟨_, e⟩ := x; exact ⟨_, e⟩
  | xd fs => obtain ⟨_, ⟨_, _, _, e, _⟩, _⟩ := x; exact ⟨_, e⟩
  | rng lo hi => obtain ⟨_, _, _, e⟩ := x; exact ⟨_, e⟩
  | frz ob u => obtain ⟨e, _⟩ := x; exact ⟨_, e⟩
  | tbl ps => exact ⟨_, (show h.get? a = some _ from x)⟩
  | met f y => exact ⟨_, (show h.get? a = some _ from x)⟩
  | ext φ => obtain ⟨_, e, _⟩ := x; exact e
def CXE (P : Program) (w : World) : CXT := fun outer H s E e s' =>
  ∃ (a C t : Addr) (B : Heap) (H' : Hp), e = .ref a ∧ s'.os = s.os ∧ AllBare s'.gens ∧ Un (frs outer) [] H H' s.heap s'.heap ∧ HOk P w H' s'.heap ∧
    s.heap.get? a = none ∧ H' a = none ∧ Heap.FlyingW B outer a (.ref C) (.ref t) s'.heap ∧ (∀ b u, H' b = some u → ∃ o, B.get? b = some o) ∧
    (∀ b o, s.heap.get? b = some o → b ∉ frs outer → ∃ o', B.get? b = some o') ∧ E (.ref C) none H'
theorem mem_frs {env : Env} {outer : List Env} {b L : Addr} (hf : env.frame = some L) (hb : b ∈ frs (env :: outer)) : b = L ∨ b ∈ frs outer := by
  unfold frs at hb
  rw [List.filterMap_cons, hf] at hb
  exact List.mem_cons.mp hb
theorem frs_mem {env : Env} {outer : List Env} {b : Addr} (hb : b ∈ frs outer) : b ∈ frs (env :: outer) := by
  unfold frs at hb ⊢
  rw [List.filterMap_cons]
  cases env.frame with
  | none => exact hb
  | some L => exact List.mem_cons_of_mem _ hb
def Leaves (X : Cx) (E : XK) : Prop := ∀ (pins : List (Addr × Obj)) (σ : St) (H : Hp) (s : Shared) (h' : Heap) (a C : Addr) (vs : List Value), Inv X pins σ H s → Heap.MadeExcOf s.heap h' a (.ref C) vs → E (.ref C) none H → X.xe (.ref a) { s with heap := h' }
section
variable {P : Program} {w : World} {K : Frag} {mg : Str → Option Value} {base : Heap} {N : List Str} {qual : Str} {scope : Scope} {f : Addr} {cd : Value} {A : Around} {outer : List Env} {s₀ : Shared} {H₀ : Hp} {E E' : XK}
theorem cx_leaves : Leaves (cxOf (CXE P w) P w K mg base N qual scope f cd A outer s₀ H₀ E) E := by
  intro pins σ H s h' a C vs I hx hE
  have hf : (envOfC qual scope s₀.heap.objs.size f cd).frame = some (envOfC qual scope s₀.heap.objs.size f cd).locals := rfl
  have stk := I.stack
  have sFree := I.stkFree
  have bIn : ∀ b o, s.heap.get? b = some o → b ∉ frs (envOfC qual scope s₀.heap.objs.size f cd :: outer) → (hideAll s.heap (frs (envOfC qual scope s₀.heap.objs.size f cd :: outer))).get? b = some o := fun b o q n => hideAll_get _ q n
  have neL : ∀ b o, s₀.heap.get? b = some o → b ≠ (envOfC qual scope s₀.heap.objs.size f cd).locals := fun b o e => Nat.ne_of_lt (Nat.lt_of_lt_of_le (Heap.lt_size e) I.ok.above)
  have nIn : ∀ b o, s₀.heap.get? b = some o → b ∉ frs outer → b ∉ frs (envOfC qual scope s₀.heap.objs.size f cd :: outer) := fun b o e n z => (mem_frs hf z).elim (neL b o e) n
  have trk : ∀ b u, H b = some u → b ∉ frs (envOfC qual scope s₀.heap.objs.size f cd :: outer) := fun b u e z => by rw [sFree b z] at e; cases e
  refine wpAny_leaves_madeW (base := hideAll s.heap (frs (envOfC qual scope s₀.heap.objs.size f cd :: outer))) (h := s.heap) I.ok.frames hf (fun b o q => of_hideAll _ q)
    (funFrames_hide stk fun env he a ha => List.mem_filterMap.mpr ⟨env, he, ha⟩) hx fun h'' t f1 f2 f3 f4 => ?_
  have keepB : ∀ b o, s.heap.get? b = some o → b ∉ frs (envOfC qual scope s₀.heap.objs.size f cd :: outer) → h''.get? b = some o := fun b o q n => f1.1 b o (bIn b o q n)
  have slotB : ∀ b o, s.heap.get? b = some o → b ∈ frs (envOfC qual scope s₀.heap.objs.size f cd :: outer) → ∃ sl, h''.get? b = some { o with slots := sl } := fun b o q z => by
    obtain ⟨_, o', ho', hnf⟩ := stk.mem z
    rw [q] at ho'; cases ho'
    exact f4 b o (hx.keeps b o q) hnf
  have noA : H a = none := by
    cases q : H a with
    | none => rfl
    | some u =>
      obtain ⟨ob, z⟩ := (I.hok a u q).there
      rw [hx.new] at z; cases z
  have noA0 : s₀.heap.get? a = none := by
    cases q : s₀.heap.get? a with
    | none => rfl
    | some u =>
      obtain ⟨ob, z⟩ := I.base.there a u q (by intro z; exact absurd (show a ∈ ([] : List Addr) from z) (by simp))
      rw [hx.new] at z; cases z
  refine ⟨a, C, t, _, H, rfl, I.os, I.bare, ⟨fun b o q n hb _ => ?_, fun b o q n hb _ => ?_, fun b o q n _ => I.base.free b o q n (by intro z; exact absurd (show b ∈ ([] : List Addr) from z) (by simp)), fun b o q _ => ?_, I.base.tups, I.base.frzs, I.base.tbls⟩, fun b u q => ?_, noA0, noA, f1, fun b u q => ?_, fun b o q n => ?_, hE⟩
  · exact keepB b o (I.base.keep b o q n hb (by intro z; exact absurd (show b ∈ ([] : List Addr) from z) (by simp))) (nIn b o q hb)
  · obtain ⟨sl, e1⟩ := I.base.slot b o q n hb (by intro z; exact absurd (show b ∈ ([] : List Addr) from z) (by simp))
    obtain ⟨sl', e2⟩ := slotB b _ e1 (frs_mem hb)
    exact ⟨sl', e2⟩
  · obtain ⟨o', e1⟩ := I.base.there b o q (by intro z; exact absurd (show b ∈ ([] : List Addr) from z) (by simp))
    by_cases hb : b ∈ frs (envOfC qual scope s₀.heap.objs.size f cd :: outer)
    · obtain ⟨sl, e2⟩ := slotB b o' e1 hb
      exact ⟨_, e2⟩
    · exact ⟨_, keepB b o' e1 hb⟩
  · refine (I.hok b u q).stay (fun c v hc z => keepB c v z ?_) (fun _ z => z) fun _ _ z => z
    rcases hc with rfl | hc
    · exact trk _ _ q
    · exact trk _ _ hc
  · obtain ⟨ob, z⟩ := (I.hok b u q).there
    exact ⟨ob, bIn b ob z (trk b u q)⟩
  · obtain ⟨o', e1⟩ := I.base.there b o q (by intro z; exact absurd (show b ∈ ([] : List Addr) from z) (by simp))
    exact ⟨o', bIn b o' e1 (nIn b o q n)⟩
end
abbrev VEs : List Value := [.type "ValueError", .type "Exception", .type "BaseException", .type "object"]
theorem exc_obj {K : Frag} {h : Heap} {C : Addr} {bmB : List Value} {newId : String} (X : K.In h) (q : excIn K C bmB newId = true) :
    ∃ bm N nm q bs hdct sn sub ab col dd k0 k1 k2 k3 k5 mN, h.get? C = some (excClassObj nm q C N bs bm hdct sn sub ab col dd k0 k1 k2 k3 k5 newId) ∧ h.Ns N mN ∧ mN "__init__" = none ∧ OwnTail h bmB bm := by
  unfold excIn at q
  split at q
  · rename_i dd cd sl ho
    split at q
    · rename_i C' bm k0 k1 k2 k3 n k5 hm hs
      simp only [Bool.and_eq_true, beq_iff_eq, Bool.not_eq_true'] at q
      obtain ⟨⟨⟨⟨⟨rfl, rfl⟩, hdel⟩, ht⟩, hok⟩, hni⟩ := q
      obtain ⟨nm, bs, mro, ns, qn, hd, sn, sub, ab, col, del⟩ := cd
      dsimp only at hm hdel hok hni
      subst hm hdel
      have hsl : sl = #[k0, k1, k2, k3, some (.builtin n), k5] := by
        obtain ⟨l⟩ := sl
        simp only at hs
        rw [hs]
      subst hsl
      exact ⟨bm, ns, nm, qn, bs, hd, sn, sub, ab, col, dd, k0, k1, k2, k3, k5, _, X _ _ ho, .of_isNs (isNs_of_in X hok), nsMap_none_of_in X hok hni, tail_of_in X ht⟩
    · cases q
  · cases q
def tRaise (E : XK) (C : Addr) (t : TA) : TS := fun _ σ H => t σ H fun vs H1 => vs.length ≤ sizeLine ∧ E (.ref C) none H1
theorem ps_raise {X : Cx} {E : XK} {x : Str} {C : Addr} {e₀ : Expr} {rest : List Expr} {t : TA} {np cpos pos : Pos} (hl : Leaves X E) (hc : X.calm = true) (hg : Gl X x) (hm : X.mg x = some (.ref C)) (q : excIn X.K C VEs "ValueError.__new__" = true) (ha : PA X (e₀ :: rest) t)
    (hd : (x == ("__debug__" : Str)) = false := by decide) (he : starEach (e₀ :: rest) X.env = (false, eval e₀ X.env) :: starEach rest X.env := by rfl)
    (hpl : (backTo cpos (starEach rest X.env)).any (·.1) = false := by rfl) : PS X (.Raise (some (.Call (.Name x np) (e₀ :: rest) [] cpos)) none pos) (tRaise E C t) := by
  intro pins s σ H D I h
  obtain ⟨tl, N, nm, qn, bs, hdct, sn, sub, ab, col, dd, k0, k1, k2, k3, k5, mN, hC, hN, hni, T⟩ := exc_obj I.mod.kin q
  refine wpAny_Raise_call_subU (C := C) (nm := nm) (q := qn) (N := N) (bs := bs) (bm := tl) (hdct := hdct) (sn := sn) (sub := sub) (ab := ab) (col := col) (dd := dd) (k0 := k0) (k1 := k1) (k2 := k2) (k3 := k3) (k5 := k5)
    F.excBase_ValueError (by decide +kernel) F.excBase_ValueError (mN := mN) (T.hasType F.excBase_ValueError.hasBase) (I.ok.hd hc) (by rw [he]; show (false || (backTo cpos (starEach rest X.env)).any (·.1)) = false; rw [hpl]; rfl) hni (ld_glob I hg hm ⟨rfl, ?_⟩ hd)
  have hp := ha cpos pins s σ H _ I h
  rw [he] at hp ⊢
  refine Calls.evalArgs_plain (wpAny_mono hp (fun us s₂ ⟨vs, H1, I1, r, z, e1⟩ => ?_) fun _ _ y => y)
  exact ⟨rfl, by rw [← r.length]; exact z, I1.bk _ _ hC, hN.keeps I1.bk, T.keeps I1.bk, fun h' a hx => hl pins σ H1 s₂ h' a C us I1 hx e1⟩
def CalleeX (P : Program) (w : World) (K : PySem.W.Frag) (mg : Str → Option Value) (base : Heap) (k : Nat) (x : Str) (ps : List Str) (sp : Sp) : Prop :=
  ∃ (f : Addr) (fd : FuncData), FnOk P w K mg base (CXE P w) k f fd ps sp ∧ mg x = some (.ref f) ∧ PySem.W.keepIn K (.ref f) = true ∧ Binds K fd ps []
section
variable {X : Cx} {k : Nat} {x : Str} {ps : List Str} {sp : Sp} {e : Expr} {es : List Expr} {t : TA} {p pos : Pos} {E : XK}
theorem pe_defX (G : CalleeX X.prog X.w X.K X.mg X.base k x ps sp) (hx : Passes (CXE X.prog X.w) X E) (hr : Room k X.A) (hg : Gl X x) (ha : PA X (e :: es) t) (hdb : (x == ("__debug__" : Str)) = false := by decide)
    (he : starEach (e :: es) X.env = (false, eval e X.env) :: starEach es X.env := by rfl) (hpl : (backTo pos (starEach es X.env)).any (·.1) = false := by rfl) : PE X (.Call (.Name x p) (e :: es) [] pos) (tCall sp [] E t) := by
  intro pins s σ H Q I h
  obtain ⟨f, fd, F, hm, hk, hb⟩ := G
  exact pe_call F hr hg hm hk hb .nil hx ha hdb he hpl pins s σ H Q I h
end
section
variable {P : Program} {w : World} {K : PySem.W.Frag} {mg : Str → Option Value} {base : Heap}
theorem DefAt.okX {x : Str} {st : Stmt} {N ps : List Str} {f : Addr} {fd : FuncData} {k : Nat} {sp : Sp} (D : DefAt K mg x st ps f fd) (S : FnScope N ps (defScope st)) (len : ∀ vs H Q E, sp vs H Q E → vs.length = ps.length)
    (hbody : ∀ (cdv : Value) (A : Around) (outer : List Env) (s : Shared) (H : Hp) (vs : List V) (Q : VK) (E : XK), Room k (A.deeper (envOfC x (defScope st) s.heap.objs.size f cdv)) → sp vs H Q E →
      ∃ t, PSs (cxOf (CXE P w) P w K mg base N x (defScope st) f cdv A outer s H E) (defBody st) t ∧ t { nx := fun _ H' => Q .non H', rt := Q } (start N vs) H) : CalleeX P w K mg base (k + 1) x ps sp := by
  obtain ⟨oc, od, kV, doc, pm, an, cdv, ct, osl, e, lk, hcd⟩ := D.fn.ex
  refine ⟨f, fd, ?_, D.there, D.fn.kp, D.bi⟩
  subst e
  exact fn_of lk hcd S len fun A outer s H vs Q E hr hsp => hbody cdv A outer s H vs Q E hr hsp
end
abbrev Cx.tr (X : Cx) (pn : List (Addr × Obj)) (E : Value → Shared → Prop) : Cx := { X with xe := E, pn := pn }
abbrev Cx.suite (X : Cx) (a : Addr) : Cx := { X with A := X.A.mark (some (.ref a)), calm := false, xe := fun _ _ => False }
def Ends.gone (D : Ends) (i : Nat) : Ends where
  nx := fun σ H => D.nx (σ.set i none) H
  rt := D.rt
  bk := fun σ H => D.bk (σ.set i none) H
  ct := fun σ H => D.ct (σ.set i none) H
section
variable {X : Cx} {pins : List (Addr × Obj)} {σ : St} {H : Hp} {s : Shared}
theorem Cx.Ok.tr (ok : X.Ok) (pn : List (Addr × Obj)) (E : Value → Shared → Prop) : (X.tr pn E).Ok :=
  ⟨ok.mod, ok.kind, ok.glob, ok.blt, ok.above, ok.inj, ok.has, ok.cab, ok.hd, ok.frames, ok.stk, ok.exf, ok.bs, ok.bsz, ok.noex, ok.exfs, ok.funs, ok.frf⟩
theorem Cx.Ok.untr {pn : List (Addr × Obj)} {E : Value → Shared → Prop} (ok : (X.tr pn E).Ok) : X.Ok :=
  ⟨ok.mod, ok.kind, ok.glob, ok.blt, ok.above, ok.inj, ok.has, ok.cab, ok.hd, ok.frames, ok.stk, ok.exf, ok.bs, ok.bsz, ok.noex, ok.exfs, ok.funs, ok.frf⟩
theorem Cx.Ok.suite (ok : X.Ok) (a : Addr) : (X.suite a).Ok :=
  ⟨ok.mod, ok.kind, ok.glob, ok.blt, ok.above, ok.inj, ok.has, ok.cab, (fun z => nomatch z), ok.frames, ok.stk, ok.exf, ok.bs, ok.bsz, ok.noex, ok.exfs, ok.funs, ok.frf⟩
theorem Inv.tr (I : Inv X pins σ H s) (E : Value → Shared → Prop) : Inv (X.tr (X.pn ++ pins) E) [] σ H s :=
  ⟨I.ok.tr _ E, I.os, I.bare, I.base, I.loc, I.cell, I.free, I.freeC, fun p hp => I.pin p (by simpa using hp), I.hok, I.len⟩
theorem Inv.untr {pins' : List (Addr × Obj)} {E : Value → Shared → Prop} (I : Inv (X.tr (X.pn ++ pins) E) pins' σ H s) : Inv X pins σ H s :=
  ⟨I.ok.untr, I.os, I.bare, I.base, I.loc, I.cell, I.free, I.freeC, fun p hp => I.pin p (List.mem_append_left _ hp), I.hok, I.len⟩
theorem Inv.suite (I : Inv X pins σ H s) (a : Addr) : Inv (X.suite a) pins σ H s := ⟨I.ok.suite a, I.os, I.bare, I.base, I.loc, I.cell, I.free, I.freeC, I.pin, I.hok, I.len⟩
theorem Inv.unsuite {a : Addr} (I : Inv (X.suite a) pins σ H s) (ok : X.Ok) : Inv X pins σ H s := ⟨ok, I.os, I.bare, I.base, I.loc, I.cell, I.free, I.freeC, I.pin, I.hok, I.len⟩
theorem Inv.gone {M : Model} {A : Around} {E : Value → Shared → Prop} {n : Str} {i : Nat} {pos : Pos} {Q : Unit → Shared → Prop} (I : Inv X pins σ H s) (hN : X.N.Nodup) (hi : X.N[i]? = some n) (hlo : X.env.kindOf n = some .local)
    (h : ∀ s', Inv X pins (σ.set i none) H s' → Q () s') : wpAny M A (do bindName X.env n .none; unbindBehindTheSuite X.env n pos) Q E s := by
  obtain ⟨m, hn, hl⟩ := id I.loc
  have hcls : (X.env.scope.kind == .class || (X.env.scope.kind == .module && X.env.locals != X.env.globals)) = false := by rw [I.ok.kind]; rfl
  refine wpAny_nameGoes_keeps hlo hn hcls fun h' v hn' hs => ?_
  have neL : ∀ b o, X.s₀.heap.get? b = some o → b ≠ X.env.locals := fun b o e => Nat.ne_of_lt (Nat.lt_of_lt_of_le (Heap.lt_size e) I.ok.above)
  refine h _ ⟨I.ok, I.os, I.bare, ⟨fun b o e n hb hx => ?_, fun b o e n hb hx => ?_, I.base.free, fun b o e hx => ?_, I.base.tups, I.base.frzs, I.base.tbls⟩, ⟨_, hn', fun j y v' e1 e2 e3 => ?_⟩, fun y c e => ?_, I.free, I.freeC, fun p hp => ?_, fun b u e => ?_, by simpa using I.len⟩
  · exact (hs.2 b (neL b o e)).trans (I.base.keep b o e n hb hx)
  · obtain ⟨sl, e1⟩ := I.base.slot b o e n hb hx
    exact ⟨sl, (hs.2 b (neL b o e)).trans e1⟩
  · obtain ⟨o', e1⟩ := I.base.there b o e hx
    exact ⟨o', (hs.2 b (neL b o e)).trans e1⟩
  · by_cases hj : j = i
    · subst hj
      have hjl : j < σ.length := by
        rcases Nat.lt_or_ge j σ.length with z | z
        · exact z
        · rw [List.getElem?_eq_none (by simpa using z)] at e2
          cases e2
      rw [List.getElem?_set_self hjl] at e2
      cases e2
    · rw [List.getElem?_set_ne (Ne.symm hj)] at e2
      obtain ⟨u', r', q⟩ := hl j y v' e1 e2 e3
      refine ⟨u', r', ?_⟩
      have ny : y ≠ n := fun e => hj (nodup_ix hN e1 (e ▸ hi))
      rcases q with ⟨k, e⟩ | ⟨k, c, e, z⟩
      · exact .inl ⟨k, by simp [ny, e]⟩
      · exact .inr ⟨k, c, e, z.sameBut hs (I.cne y c e)⟩
  · obtain ⟨v2, z⟩ := I.cell y c e
    exact ⟨v2, z.sameBut hs (I.cne y c e)⟩
  · obtain ⟨e, n1, ne, nf, d⟩ := I.pin p hp
    exact ⟨(hs.2 p.1 ne).trans e, n1, ne, nf, d⟩
  · refine (I.hok b u e).stay (fun c w' hc q => (hs.2 c ?_).trans q) (fun _ q => q) fun _ _ q => q
    rintro rfl
    rcases hc with z | z
    · rw [← z, I.free] at e; cases e
    · rw [I.free] at z; cases z
theorem Inv.landed {s₃ : Shared} {H' : Hp} {a C t : Addr} {B : Heap} {h₆ : Heap} {tk : Nat} (I : Inv X pins σ H s) (os : s₃.os = s.os) (bare : AllBare s₃.gens) (un : Un (frs X.stack) [] H H' s.heap s₃.heap) (hok : HOk X.prog X.w H' s₃.heap)
    (fr : s.heap.get? a = none) (hn : H' a = none) (fl : Heap.FlyingW B X.stack a (.ref C) (.ref t) s₃.heap) (b1 : ∀ b u, H' b = some u → ∃ o, B.get? b = some o) (b3 : ∀ b o, s.heap.get? b = some o → b ∉ frs X.stack → ∃ o', B.get? b = some o')
    (sm : s₃.heap.UpToSlots h₆) (fl₆ : Heap.FlyingW B X.stack a (.ref C) (.ref t) h₆) :
    Inv X pins σ (upd H' a (.ext (ExcO C a))) { s₃ with heap := h₆ } := by
  have stay : ∀ b o, B.get? b = some o → s₃.heap.get? b = some o ∧ h₆.get? b = some o := fun b o q => ⟨fl.1 b o q, fl₆.1 b o q⟩
  have ne : ∀ b u, H' b = some u → b ≠ a := fun b u q z => by rw [z, hn] at q; cases q
  obtain ⟨oe, ws, he, hec, hed, _⟩ := fl₆.first
  refine I.call' (ch := []) os ⟨fun b o q n hb _ => ?_, fun b o q n hb _ => ?_, fun b o q n hx => ?_, fun b o q _ => ?_, fun b xs q => ?_, fun b o u q => ?_, fun b ps q => ?_⟩ (fun b u q => ?_) bare (fun b z => absurd z (by simp))
  · obtain ⟨o', e2⟩ := b3 b o q hb
    have e3 := un.keep b o q n hb (by simp)
    obtain ⟨e4, e5⟩ := stay b o' e2
    rw [e3] at e4; cases e4
    exact e5
  · obtain ⟨sl, e1⟩ := un.slot b o q n hb (by simp)
    obtain ⟨_, o2, ho2, hnf⟩ := fl.2.2.1.mem (show b ∈ X.stack.filterMap (·.frame) from hb)
    rw [e1] at ho2; cases ho2
    obtain ⟨sl3, e3⟩ := sm b _ e1 hnf
    exact ⟨sl3, e3⟩
  · rw [upd_ne (fun z => by rw [z, fr] at q; cases q)]
    exact un.free b o q n hx
  · by_cases hb : b ∈ frs X.stack
    · obtain ⟨_, o2, ho2, hnf⟩ := fl.2.2.1.mem (show b ∈ X.stack.filterMap (·.frame) from hb)
      obtain ⟨sl3, e3⟩ := sm b _ ho2 hnf
      exact ⟨_, e3⟩
    · obtain ⟨o2, e2⟩ := b3 b o q hb
      exact ⟨o2, (stay b o2 e2).2⟩
  · have z := un.tups b xs q
    rw [upd_ne (ne b _ z)]
    exact z
  · have z := un.frzs b o u q
    rw [upd_ne (ne b _ z)]
    exact z
  · obtain ⟨m2, e2⟩ := un.tbls b ps q
    exact ⟨m2, by rw [upd_ne (ne b _ e2)]; exact e2⟩
  · by_cases hb : b = a
    · subst hb
      rw [upd_same] at q
      cases q
      exact ⟨⟨oe, ws, he, hec, hed⟩, ⟨oe, he⟩, fun h1 h2 ⟨o, vs, z1, z2, z3⟩ k => ⟨o, vs, k o z1, z2, z3⟩⟩
    · rw [upd_ne hb] at q
      refine (hok b u q).stay (fun c v hc z => ?_) (fun c z => by rw [upd_ne (ne c _ z)]; exact z) fun c xs z => by rw [upd_ne (ne c _ z)]; exact z
      have hc' : ∃ u', H' c = some u' := by
        rcases hc with rfl | hc
        · exact ⟨_, q⟩
        · exact ⟨_, hc⟩
      obtain ⟨u', hu⟩ := hc'
      obtain ⟨o', e2⟩ := b1 c u' hu
      obtain ⟨e4, e5⟩ := stay c o' e2
      rw [z] at e4; cases e4
      exact e5
end
end L2
namespace L2
open PySem PySem.Spec PyProof.Rows PySem.W
structure RoomN (k : Nat) (A : Around) : Prop where
  dp : A.depth + 3 * k + 5 < recursionLimit
  un : A.units + 16 * k + 200 < cLine
theorem Room.n {k : Nat} {A : Around} (r : Room k A) : RoomN k A := ⟨r.dp, r.un⟩
theorem RoomN.mark {k : Nat} {A : Around} (r : RoomN k A) (v : Option Value) : RoomN k (A.mark v) := ⟨r.dp, r.un⟩
theorem RoomN.deeper {k : Nat} {A : Around} (r : RoomN (k + 1) A) (env : Env) : RoomN k (A.deeper env) :=
  ⟨by have := r.dp; show A.depth + 1 + 3 * k + 5 < _; omega, by have := r.un; show A.units + 3 + 16 * k + 200 < _; omega⟩
abbrev Cx.rough (X : Cx) : Cx := { X with calm := false, xe := fun _ _ => False }
structure FnN (P : Program) (w : World) (K : PySem.W.Frag) (mg : Str → Option Value) (base : Heap) (k : Nat) (f : Addr) (fd : FuncData) (ps : List Str) (sp : Sp) : Prop where
  len : ∀ vs H Q E, sp vs H Q E → vs.length = ps.length
  run : ∀ (A : Around) (outer : List Env) (s : Shared) (H : Hp) (args : Args) (us : List Value) (vs : List V) (Q : VK) (E : XK), RoomN k A → Env0 P w K mg base A outer s H → BindsTo s fd args (ps.zip us) → Vals vs us → sp vs H Q E →
    codeAny (model P w) A (.call (.ref f) args) (CR CX0 outer P w H s Q E) s
def CalleeN (P : Program) (w : World) (K : PySem.W.Frag) (mg : Str → Option Value) (base : Heap) (k : Nat) (x : Str) (ps : List Str) (sp : Sp) : Prop :=
  ∃ (f : Addr) (fd : FuncData), FnN P w K mg base k f fd ps sp ∧ mg x = some (.ref f) ∧ PySem.W.keepIn K (.ref f) = true ∧ Binds K fd ps []
section
variable {X : Cx} {k : Nat} {x : Str} {ps : List Str} {sp : Sp} {e : Expr} {es : List Expr} {t : TA} {p pos : Pos}
theorem pe_defN (G : CalleeN X.prog X.w X.K X.mg X.base k x ps sp) (hr : RoomN k X.A) (hg : Gl X x) (ha : PA X (e :: es) t) (hdb : (x == ("__debug__" : Str)) = false := by decide)
    (he : starEach (e :: es) X.env = (false, eval e X.env) :: starEach es X.env := by rfl) (hpl : (backTo pos (starEach es X.env)).any (·.1) = false := by rfl) : PE X (.Call (.Name x p) (e :: es) [] pos) (tCall sp [] E0 t) := by
  intro pins s σ H Q I h
  obtain ⟨f, fd, F, hm, hk, hb⟩ := G
  refine wpAny_Call_Name_kw (ld_glob I hg hm ?_ hdb)
  refine PySem.W.callWith_K (h₀ := X.base) I.ok.mod.kin hk (thn (ha pos pins s σ H _ I h) fun us s1 ⟨vs, H1, I1, r, q⟩ => ⟨I1.kIn, ?_⟩) he hpl
  have r2 : Vals (vs ++ []) (us ++ []) := r.append .nil
  have hl : (us ++ []).length = ps.length := by rw [← r2.length]; exact F.len _ _ _ _ q
  refine wpAny_call (codeAny_mono (F.run X.A X.stack s1 H1 ⟨us, []⟩ (us ++ []) (vs ++ []) Q E0 hr I1.env0 (hb s1 us I1.kIn hl) r2 q) fun r s' hq => ?_)
  cases r with
  | error e => exact False.elim hq
  | ok fl =>
    cases fl with
    | ret u => exact I1.after hq
    | next => exact False.elim hq
    | brk => exact False.elim hq
    | cont => exact False.elim hq
end
section
variable {P : Program} {w : World} {K : PySem.W.Frag} {mg : Str → Option Value} {base : Heap}
theorem DefAt.okN {x : Str} {st : Stmt} {N ps : List Str} {f : Addr} {fd : FuncData} {k : Nat} {sp : Sp} (D : DefAt K mg x st ps f fd) (S : FnScope N ps (defScope st)) (len : ∀ vs H Q E, sp vs H Q E → vs.length = ps.length)
    (hbody : ∀ (cdv : Value) (A : Around) (outer : List Env) (s : Shared) (H : Hp) (vs : List V) (Q : VK) (E : XK), RoomN k (A.deeper (envOfC x (defScope st) s.heap.objs.size f cdv)) → sp vs H Q E →
      ∃ t, PSs (cxOf CX0 P w K mg base N x (defScope st) f cdv A outer s H E).rough (defBody st) t ∧ t { nx := fun _ H' => Q .non H', rt := Q } (start N vs) H) : CalleeN P w K mg base (k + 1) x ps sp := by
  obtain ⟨oc, od, kV, doc, pm, an, cdv, ct, osl, e, lk, hcd⟩ := D.fn.ex
  refine ⟨f, fd, ?_, D.there, D.fn.kp, D.bi⟩
  subst e
  refine ⟨len, fun A outer s H args us vs Q E hr e0 hb r hsp => ?_⟩
  have hl := len _ _ _ _ hsp
  have KX : K.In s.heap := e0.mod.kin.keeps fun b o e => (e0.bs b o e).1
  have lim : s.heap.NoLimit := e0.mod.nolimit.keeps fun b o e => (e0.bs b o e).1
  have hkind : ∀ y ∈ ps.zip us, (defScope st).names.lookup y.1 = some .local ∨ ((defScope st).names.lookup y.1 = some .cell ∧ ((cellsFrom (s.heap.objs.size + 1) (defScope st).names []).lookup y.1).isSome = true) := fun ⟨n, v⟩ hy => by
    rcases S.par n (List.of_mem_zip hy).1 with q | q
    · exact .inl q
    · exact .inr ⟨q, PySem.W.cellsFrom_some _ _ _ (.inl q)⟩
  refine codeAny_call_function (by have := hr.dp; omega) (KX _ _ lk) rfl S.co S.gen rfl (PySem.W.codeRec_of KX hcd) (hb _ _ _ _ ?_)
  refine wpAny_newFunctionEnv_cells S.kind hkind fun env he s1 x1 => ?_
  subst he
  refine ⟨lim.keeps x1.toInCall.keep, codeAny_func ?_⟩
  obtain ⟨t, ht, hq⟩ := hbody cdv A outer s H vs Q E (hr.deeper _) hsp
  have e0' : Env0 P w K mg base { A with handled := none } outer s H := ⟨e0.frames, e0.mod, e0.bs, e0.bsz, e0.funs, e0.frf, e0.hok, e0.bare⟩
  have I0 : Inv (cxOf CX0 P w K mg base N x (defScope st) f cdv { A with handled := none } outer s H E) [] (start N vs) H s1 := inv_start S rfl e0' hl r x1
  have ok := I0.ok
  have I : Inv (cxOf CX0 P w K mg base N x (defScope st) f cdv A outer s H E).rough [] (start N vs) H s1 :=
    ⟨⟨ok.mod, ok.kind, ok.glob, ok.blt, ok.above, ok.inj, ok.has, ok.cab, (fun z => nomatch z), ok.frames, ok.stk, ok.exf, ok.bs, ok.bsz, ok.noex, ok.exfs, ok.funs, ok.frf⟩, I0.os, I0.bare, I0.base, I0.loc, I0.cell, I0.free, I0.freeC, I0.pin, I0.hok, I0.len⟩
  refine wpAny_mono (ht [] s1 (start N vs) H _ I hq) (fun fl s' hs => ?_) fun e s' hs => False.elim hs
  have fin : ∀ {σ' : St} {H' : Hp} {v : V} {u : Value}, Inv (cxOf CX0 P w K mg base N x (defScope st) f cdv A outer s H E).rough [] σ' H' s' → RelV v u → Q v H' → CE outer P w H s Q u s' :=
    fun {σ' H' v u} J rv q => ⟨v, H', J.os, J.bare, J.base, J.hok, rv, q⟩
  cases fl with
  | ret u =>
    obtain ⟨v, σ', H', J, rv, q⟩ := hs
    exact fin J rv q
  | next =>
    obtain ⟨σ', H', J, q⟩ := hs
    exact fin (v := V.non) (u := Value.none) J rfl q
  | brk =>
    obtain ⟨_, _, _, q⟩ := hs
    exact False.elim q
  | cont =>
    obtain ⟨_, _, _, q⟩ := hs
    exact False.elim q
end
section
variable {X : Cx}
theorem exc_ok {H : Hp} {h : Heap} {P : Program} {w : World} {a C : Addr} (hok : HOk P w H h) (e : H a = some (.ext (ExcO C a))) : ExcO C a h := (hok a _ e).1
theorem call_isX : CallR X (.builtin "isinstance") (fun xs H Q => ∃ a C D b, xs = [.ref a, D] ∧ H a = some (.ext (ExcO C a)) ∧ ExcK X.K C ∧ (∃ c, (D = .ref c ∧ PySem.W.kitOne X.K (.ref C) (.ref c) = some b) ∨ ∃ n, D = .ty n ∧ PySem.W.kitOne X.K (.ref C) (.type n) = some b) ∧ Q (.bl b) H) := by
  intro pins s σ H xs us Q I r h
  obtain ⟨a, C, D, b, rfl, ha, Z, ⟨c, hk⟩, q⟩ := h
  obtain ⟨u, w', rfl, r1, r2⟩ := vals2 r
  cases (show u = Value.ref a from r1)
  have p := exc_ok I.hok ha
  rcases hk with ⟨rfl, hk⟩ | ⟨n, rfl, hk⟩
  · cases (show w' = Value.ref c from r2)
    exact PySem.W.kia_one (kitx_exc Z) I.kIn p hk (fun z => nomatch z) fun tk => ⟨.bl b, H, I.tok _, rfl, q⟩
  · cases (show w' = Value.type n from r2)
    exact PySem.W.kia_one (kitx_exc Z) I.kIn p hk (fun z => nomatch z) fun tk => ⟨.bl b, H, I.tok _, rfl, q⟩
theorem pe_globR {x : Str} {C : Addr} {pos : Pos} (hg : Gl X x) (hm : X.mg x = some (.ref C)) (hd : (x == ("__debug__" : Str)) = false := by decide) : PE X (.Name x pos) (tC (.ref C)) := pe_glob hg hm rfl hd
end
end L2
namespace L2
open PySem PySem.Spec PyProof.Rows
def isB (k : Bool) : Value → Bool
  | .bool b => b == k
  | _ => false
theorem eqAt_bl (A : Around) (s : Shared) (b k : Bool) : SeqAt.EqAt A s (.bool b) (.bool k) (b == k) := by
  have h := SeqAt.EqAt.bool_bool (A := A) (s := s) b k
  cases b <;> cases k <;> exact h
theorem bools_eq {bs : List Bool} {its : List Value} (hb : LSm.BoolsAre its bs) (A : Around) (s : Shared) (k : Bool) : ∀ y, y ∈ its.toArray → SeqAt.EqAt A s y (.bool k) (isB k y) := fun y hy => by
  obtain ⟨i, hi⟩ := List.getElem?_of_mem (show y ∈ its from by simpa using hy)
  obtain ⟨b, _, rfl⟩ := hb.get i y hi
  exact eqAt_bl A s b k
theorem countP_isB (k : Bool) : ∀ {bs : List Bool} {its : List Value}, Vals (bs.map V.bl) its → its.countP (isB k) = bs.count k
  | [], _, r => by cases r; rfl
  | b :: bs, _, r => by
    cases r with
    | cons r1 r2 =>
      cases r1
      rw [List.countP_cons, countP_isB k r2, List.count_cons]
      rfl
section
variable {X : Cx}
theorem mt_countB : MtM X "list.count" (fun x vs H Q => ∃ (p : Addr) (bs : List Bool) (k : Bool), x = .ref p ∧ vs = [.bl k] ∧ SqL X.K H p (bs.map V.bl) ∧ Q (.int (bs.count k : Nat)) H) := by
  intro pins s σ H x vs v us Q I rx rv h
  obtain ⟨p, bs, k, rfl, rfl, hq, q⟩ := h
  cases rx
  obtain ⟨u, rfl, ru⟩ := rv.one
  cases ru
  obtain ⟨its, r', pl, hz⟩ := I.list hq
  obtain ⟨⟨cls, dd, data, sl⟩, ho, hc, n, hd⟩ := pl.isList
  simp only at hc hd
  subst hc hd
  refine call_meets PySem.F.slot_list_count ⟨_, ho, rfl⟩ PySem.F.entry_list_count (PySem.F.args_list_count_2 _ _) (SeqAt.list_countAt p its.toArray n dd sl (.bool k) (isB k)) ⟨ho, bools_eq (vals_to_bools r') _ _ k, ?_⟩
  rw [show its.toArray.toList = its from rfl, countP_isB k r']
  exact ⟨.int _, H, I.tok _, ⟨_, rfl⟩, q⟩
theorem mt_indexB : MtM X "list.index" (fun x vs H Q => ∃ (p : Addr) (bs : List Bool) (k : Bool) (j : Nat), x = .ref p ∧ vs = [.bl k] ∧ SqL X.K H p (bs.map V.bl) ∧ bs.length ≤ 1000 ∧ bs[j]? = some k ∧ (∀ m, m < j → bs[m]? ≠ some k) ∧ Q (.int (j : Nat)) H) := by
  intro pins s σ H x vs v us Q I rx rv h
  obtain ⟨p, bs, k, j, rfl, rfl, hq, hlen, hj, hno, q⟩ := h
  cases rx
  obtain ⟨u, rfl, ru⟩ := rv.one
  cases ru
  obtain ⟨its, r', pl, hz⟩ := I.list hq
  have hb := vals_to_bools r'
  have hl := hb.length
  obtain ⟨⟨cls, dd, data, sl⟩, ho, hc, n, hd⟩ := pl.isList
  simp only at hc hd
  subst hc hd
  have hjl : j < bs.length := (List.getElem?_eq_some_iff.mp hj).1
  have at' : ∀ m (hm : m < its.length), ∃ b, bs[m]? = some b ∧ its[m] = .bool b := fun m hm => hb.get m its[m] (List.getElem?_eq_getElem hm)
  refine call_meets PySem.F.slot_list_index ⟨_, ho, rfl⟩ PySem.F.entry_list_index (PySem.F.args_list_index_2 _ _)
    (SeqAt.list_indexAt p its.toArray n dd sl (.bool k) (isB k) j (by simpa [hl] using hjl) (by omega) ?_ ?_) ⟨ho, bools_eq hb _ _ k, ⟨.int _, H, I.tok _, ⟨_, rfl⟩, q⟩⟩
  · obtain ⟨b, e1, e2⟩ := at' j (by rw [hl]; exact hjl)
    rw [hj] at e1
    cases e1
    show isB k its[j] = true
    rw [e2]
    exact beq_self_eq_true k
  · intro m hm hlt
    have hm' : m < its.length := by simpa using hm
    obtain ⟨b, e1, e2⟩ := at' m hm'
    show isB k its[m] = false
    rw [e2]
    refine beq_eq_false_iff_ne.mpr fun z => hno m hlt ?_
    rw [e1, z]
end
end L2
namespace SH
open PySem L2
def zc (q : Nat × Nat) : Int × Int := ((q.1 : Int), (q.2 : Int))
inductive Bad (m : Nat) (ps : List (Int × Int)) : Prop where
  | len (h : ps.length ≠ m) : Bad m ps
  | part (h : ps.length = m) (z : Int × Int) (hz : z ∈ ps) (b : partB z.1 z.2 = false) : Bad m ps
  | sum (ns : List (Nat × Nat)) (e : ps = ns.map zc) (h : ns.length = m) (hp : ∀ q ∈ ns, 0 < q.2 ∧ Nat.gcd q.1 q.2 = 1 ∧ Fit 3000 (q.1 : Int) ∧ Fit 3000 (q.2 : Int)) (hs : (topsOf ns (lcmN (ns.map (·.2)))).sum ≠ lcmN (ns.map (·.2))) : Bad m ps
def spWhich (C : Addr) (told : Str) : Sp := fun vs H Q _ => ∃ a : Addr, vs = [.ref a] ∧ H a = some (.ext (ExcO C a)) ∧ ∀ H', Same H H' → Q (.str told) H'
structure Drawn (ns : List Nat) (m : Nat) : Prop where
  len : ns.length = m
  pos : 0 < ns.sum
  lt : ns.sum < 2 ^ 25
end SH
namespace L2
open PySem PySem.Spec PyProof.Rows
section
variable {κ : Type} [DecidableEq κ]
end
section
variable {P : Program} {w : World} {H : Hp} {h : Heap} {a : Addr}
end
section
variable {X : Cx} {pins : List (Addr × Obj)} {σ : St} {H : Hp} {s : Shared} {a : Addr} {y v : V} {u r : Value} {o : Option V} {A : Around} {E : Value → Shared → Prop}
end
section
variable {X : Cx} {pins : List (Addr × Obj)} {σ : St} {H : Hp} {s : Shared} {a : Addr} {kvs : List (Key × V)} {k : Key} {u : Value} {A : Around} {E : Value → Shared → Prop}
end
section
variable {X : Cx} {o i e value : Expr} {pos pos' tpos : Pos} {td ty tv : TE}
end
section
variable {X : Cx} {pos : Pos}
end
section
variable {X : Cx} {pins : List (Addr × Obj)} {σ : St} {H : Hp} {s : Shared} {a : Addr} {y d : V} {u r : Value} {o : Option V} {A : Around} {E : Value → Shared → Prop}
end
section
variable {X : Cx} {o e f : Expr} {apos cpos : Pos} {td ty tx : TE}
end
section
variable {X : Cx} {pins : List (Addr × Obj)} {σ : St} {H : Hp} {s : Shared} {a : Addr} {kvs : List (Key × V)} {A : Around} {E : Value → Shared → Prop}
end
section
variable {X : Cx} {pins : List (Addr × Obj)} {σ : St} {H : Hp} {s : Shared} {a : Addr} {y : V} {u : Value} {A : Around} {E : Value → Shared → Prop}
end
end L2
namespace L2
open PySem PySem.Spec PyProof.Rows
section
variable {X : Cx}
end
section
variable {κ : Type} [DecidableEq κ]
end
end L2
namespace L2
open PySem PySem.Spec PyProof.Rows
section
variable {X : Cx}
end
end L2
namespace L2
open PySem PySem.Spec PyProof.Rows
section
variable {X : Cx} {pins : List (Addr × Obj)} {σ : St} {H : Hp} {s : Shared}
end
end L2
namespace SH
open PySem L2
inductive Rch (t : NT) (r : Nat) : Nat → Prop
  | self : Rch t r r
  | step {i j : Nat} {row : List Nat} (h : Rch t r i) (e : t[i]? = some row) (w : 0 < row.getD j 0) (l : j < t.length) : Rch t r j
end SH
namespace SH
def ledB (t : NT) (i j : Nat) : Bool := decide (0 < (t.getD i []).getD j 0)
def ledL (t : NT) (rooms : List Nat) : List Nat := (List.range t.length).filter fun g => rooms.any fun i => ledB t i g
def setN (t : NT) (r : Nat) : Nat → List Nat
  | 0 => [r]
  | k + 1 => ledL t (setN t r k)
def wh (t : NT) (r : Nat) : Nat → Nat
  | 0 => 0
  | k + 1 => if r ∈ setN t r (k + 1) then Nat.gcd (wh t r k) (k + 1) else wh t r k
end SH
namespace L2
open PySem PySem.Spec PyProof.Rows
section
variable {X : Cx}
end
end L2
namespace SH
open PySem L2
theorem filt_true {α : Type} (l : List α) : (l.filter fun _ => true) = l := List.filter_eq_self.mpr fun _ _ => rfl
end SH
namespace Dt
def skip (i r : Nat) : Nat := if r < i then r else r + 1
def elim (A : Nat → Nat → Int) (i j : Nat) : Int := A 0 0 * A (i + 1) (j + 1) - A (i + 1) 0 * A 0 (j + 1)
def part (A : Nat → Nat → Int) (t : Nat) : Nat → Nat → Int := fun r c => if 1 ≤ r ∧ r ≤ t then A 0 0 * A r c - A r 0 * A 0 c else A r c
end Dt
namespace Dt
inductive Ex (f : Nat → Nat) (m : Nat) : Nat → Prop
  | out {a : Nat} (h : m ≤ a) : Ex f m a
  | step {a : Nat} (h : a < m) (e : Ex f m (f a)) : Ex f m a
end Dt
namespace Dt
def ins : Nat → Nat → List Nat → List Nat
  | 0, b, l => b :: l
  | _ + 1, b, [] => [b]
  | r + 1, b, x :: l => x :: ins r b l
inductive Lead (l : List Nat) (r : Nat) : Nat → Prop
  | here : Lead l r r
  | step {a : Nat} (h : a < l.length) (n : a ≠ r) (e : Lead l r (l.getD a 0)) : Lead l r a
end Dt
namespace Dt
inductive Way (W : Nat → Nat → Int) (n r : Nat) : Nat → Nat → Prop
  | here : Way W n r 0 r
  | step {k a b : Nat} (ha : a < n) (hb : b < n) (w : 0 < W a b) (h : Way W n r k b) : Way W n r (k + 1) a
end Dt
namespace SH
open PySem L2 Dt
def others (n r : Nat) : List Nat := (List.range (n - 1)).map (skip r)
end SH
namespace L2
open PySem
section
variable {X : Cx}
theorem op_in_seqK {K : PySem.W.Frag} (h : X.K = K) : OpR X (compareOp .In) (rIn K false) := by subst h; exact op_in_seq
end
end L2
namespace SH
open PySem L2 Dt
theorem up_house {t : NT} (h : NHouse t) : House (up t) := by
  refine ⟨by rw [up_len]; exact h.lo, by rw [up_len]; exact h.hi, fun row hr => ?_⟩
  obtain ⟨n, hn, rfl⟩ := List.mem_map.mp hr
  obtain ⟨h1, h2, h3⟩ := h.rows n hn
  refine ⟨by rw [up_len]; unfold cs; rw [List.length_map]; exact h1, fun x hx => ?_, ?_⟩
  · obtain ⟨y, hy, rfl⟩ := List.mem_map.mp hx
    have := h2 y hy
    exact ⟨by omega, by omega⟩
  · apply Classical.byContradiction
    intro z
    have : n.sum = 0 := by
      have key : ∀ l : List Nat, (∀ y ∈ l, y = 0) → l.sum = 0 := by
        intro l
        induction l with
        | nil => intro _; rfl
        | cons a l ih => intro h; rw [List.sum_cons, h a List.mem_cons_self, ih fun y hy => h y (List.mem_cons_of_mem _ hy)]
      refine key n fun y hy => ?_
      apply Classical.byContradiction
      intro q
      exact z ⟨(y : Int), List.mem_map.mpr ⟨y, hy, rfl⟩, by omega⟩
    omega
end SH
namespace L2
open PySem PySem.Spec PyProof.Rows
theorem vals_to_strs : ∀ {ys : List Str} {its : List Value}, Vals (ys.map V.str) its → StrsAre its ys
  | [], _, r => by cases r; exact .nil
  | y :: ys, _, r => by
    cases r with
    | cons h t =>
      obtain ⟨k, rfl⟩ := h
      exact .cons y k (vals_to_strs t)
theorem vals_strs : ∀ l : List (Str × Tok), Vals ((l.map (·.1)).map V.str) (strValues l)
  | [] => .nil
  | p :: l => .cons ⟨p.2, rfl⟩ (vals_strs l)
section
variable {X : Cx}
theorem mt_join : MtM X "str.join" (fun x vs H Q => ∃ (sep : Str) (p : Addr) (ys : List Str), x = .str sep ∧ vs = [.ref p] ∧ SqL X.K H p (ys.map V.str) ∧ (ys.map (·.length)).sum + ys.length * sep.length ≤ 16777216 ∧ Q (.str (Txt.join sep ys)) H) := by
  intro pins s σ H x xs v us Q I rx r h
  obtain ⟨sep, p, ys, rfl, rfl, hq, hz, q⟩ := h
  obtain ⟨t, rfl⟩ := rx
  obtain ⟨u, rfl, ru⟩ := vals1 r
  cases ru
  obtain ⟨its, r', pl, _⟩ := I.list hq
  exact join_list pl.isList (vals_to_strs r') hz fun t' k => ⟨.str _, H, I.tok _, ⟨_, rfl⟩, q⟩
theorem mt_joinK {K : PySem.W.Frag} (hK : X.K = K) : MtM X "str.join" (fun x vs H Q => ∃ (sep : Str) (p : Addr) (ys : List Str), x = .str sep ∧ vs = [.ref p] ∧ SqL K H p (ys.map V.str) ∧ (ys.map (·.length)).sum + ys.length * sep.length ≤ 16777216 ∧ Q (.str (Txt.join sep ys)) H) := by
  subst hK
  exact mt_join
theorem mt_split : MtM X "str.split" (fun x vs H Q => ∃ (a c : Str), x = .str a ∧ vs = [.str c] ∧ (c.length == 0) = false ∧ a.length ≤ 100000 ∧ ∀ l, H l = none → Q (.ref l) (upd H l (.lst ((Txt.split a c).map V.str)))) := by
  intro pins s σ H x xs v us Q I rx r h
  obtain ⟨a, c, rfl, rfl, hc, ha, q⟩ := h
  obtain ⟨t, rfl⟩ := rx
  obtain ⟨u, rfl, ru⟩ := vals1 r
  obtain ⟨u', rfl⟩ := ru
  have hf : H s.heap.objs.size = none := I.hok.fresh (Nat.le_refl _)
  have hl : (Txt.split a c).length ≤ sizeLine := by
    have := split_le a c
    rw [sizeLine_eq]
    omega
  have hx : a.length ≤ sizeLine := by rw [sizeLine_eq]; omega
  have done : ∀ (l : List (Str × Tok)) (tk : Nat), l.map (·.1) = Txt.split a c → EP X pins σ Q (.ref s.heap.objs.size) { s with heap := s.heap.push { cls := .type "list", data := .seq (strValues l).toArray }, toks := tk } := fun l tk e =>
    ⟨.ref s.heap.objs.size, _, I.laid (a := s.heap.objs.size) (o := .lst ((Txt.split a c).map V.str)) (t' := tk) (fun b o hb => Heap.get?_push_of_some _ hb) (Nat.le_refl _)
      ⟨by rw [List.length_map]; exact hl, strValues l, 0, by rw [← e]; exact vals_strs l, Heap.get?_push_size _ rfl⟩, rfl, q _ hf⟩
  cases h1 : (decide (a.length < c.length) || decide (Builtin.Str.strKind a < Builtin.Str.strKind c))
  · cases hf' : (Builtin.Str.occurrences a c 0 a.length (a.length + 1)).isEmpty
    · have hn : (Builtin.Str.partsBetween a (Builtin.Str.occurrences a c 0 a.length (a.length + 1)) c.length).length ≤ sizeLine := by
        have e : Txt.split a c = Builtin.Str.partsBetween a (Builtin.Str.occurrences a c 0 a.length (a.length + 1)) c.length := (if_neg (ne_true_of_eq_false h1)).trans (if_neg (ne_true_of_eq_false hf'))
        rw [← e]
        exact hl
      refine call_meets F.slot_str_split (typeIs_str _ _ _) F.entry_str_split (F.args_str_split_2 _ _) (meets_str_split_sep a c t u' h1 hc hf' hx hn) ?_
      show wants _ _ _ { s with toks := _, heap := s.heap.push { cls := .type "list", data := .seq (strsFrom s.toks (Builtin.Str.partsBetween a (Builtin.Str.occurrences a c 0 a.length (a.length + 1)) c.length)).toArray } }
      rw [strsFrom_eq]
      exact done (numbered s.toks _) _ ((numbered_texts _ _).trans ((if_neg (ne_true_of_eq_false h1)).trans (if_neg (ne_true_of_eq_false hf'))).symm)
    · exact call_meets F.slot_str_split (typeIs_str _ _ _) F.entry_str_split (F.args_str_split_2 _ _) (meets_str_split_not_found a c t u' h1 hc hf') (done [(a, t)] s.toks ((if_neg (ne_true_of_eq_false h1)).trans (if_pos hf')).symm)
  · exact call_meets F.slot_str_split (typeIs_str _ _ _) F.entry_str_split (F.args_str_split_2 _ _) (meets_str_split_cannot_occur a c t u' h1) (done [(a, t)] s.toks (if_pos h1).symm)
def rSlS : V → Option Int → Option Int → Hp → VK → Prop := fun x lo hi H Q => ∃ a : Str, x = .str a ∧ a.length ≤ 100000 ∧ Q (.str (Txt.slice a lo hi)) H
theorem sl_str : SlR X rSlS := by
  intro pins s σ H x v vl vu lo hi sl Q I rx hs pl pu h
  obtain ⟨a, rfl, ha, q⟩ := h
  obtain ⟨t, rfl⟩ := rx
  have hx : a.length ≤ sizeLine := by rw [sizeLine_eq]; omega
  cases pl with
  | none =>
    cases pu with
    | none => exact ⟨"str", _, F.slot_str_getitem.lookup, typeIs_str _ _ _, wpAny_getItem_str_slice (l := none) (u := none) (st := none) hs rfl (post_val_or_str ⟨Nat.le_trans (Txt.slice_le a _ _) hx, fun t' k => ⟨.str _, H, I.tok _, ⟨_, rfl⟩, q⟩⟩)⟩
    | int j tj => exact ⟨"str", _, F.slot_str_getitem.lookup, typeIs_str _ _ _, wpAny_getItem_str_slice (l := none) (u := some (j, tj)) (st := none) hs rfl (post_val_or_str ⟨Nat.le_trans (Txt.slice_le a _ _) hx, fun t' k => ⟨.str _, H, I.tok _, ⟨_, rfl⟩, q⟩⟩)⟩
  | int i ti =>
    cases pu with
    | none => exact ⟨"str", _, F.slot_str_getitem.lookup, typeIs_str _ _ _, wpAny_getItem_str_slice (l := some (i, ti)) (u := none) (st := none) hs rfl (post_val_or_str ⟨Nat.le_trans (Txt.slice_le a _ _) hx, fun t' k => ⟨.str _, H, I.tok _, ⟨_, rfl⟩, q⟩⟩)⟩
    | int j tj => exact ⟨"str", _, F.slot_str_getitem.lookup, typeIs_str _ _ _, wpAny_getItem_str_slice (l := some (i, ti)) (u := some (j, tj)) (st := none) hs rfl (post_val_or_str ⟨Nat.le_trans (Txt.slice_le a _ _) hx, fun t' k => ⟨.str _, H, I.tok _, ⟨_, rfl⟩, q⟩⟩)⟩
theorem call_intS : CallR X (.type "int") (fun xs H Q => ∃ (x : Str) (n : Int), xs = [.str x] ∧ PySem.intText? x = some n ∧ x.length ≤ 640 ∧ Q (.int n) H) := by
  intro pins s σ H xs us Q I r h
  obtain ⟨x, n, rfl, hn, hl, q⟩ := h
  obtain ⟨u, rfl, ru⟩ := vals1 r
  obtain ⟨t, rfl⟩ := ru
  exact PySem.W.KIN.call_text hn hl ⟨.int _, H, I.tok _, ⟨_, rfl⟩, q⟩
end
end L2
namespace SH
open PySem L2
def joinL (c : Nat) : List (List Nat) → List Nat
  | [] => []
  | [a] => a
  | a :: b :: r => a ++ c :: joinL c (b :: r)
theorem join_cps (c : Nat) : ∀ ts : List Str, (Str.join ⟨#[c]⟩ ts).cps.toList = joinL c (ts.map fun t => t.cps.toList)
  | [] => rfl
  | [a] => rfl
  | a :: b :: r => by
    have ih := join_cps c (b :: r)
    show ((a ++ ⟨#[c]⟩ ++ Str.join ⟨#[c]⟩ (b :: r)).cps).toList = _
    rw [Str.cps_append, Str.cps_append, Array.toList_append, Array.toList_append, ih]
    show (a.cps.toList ++ [c]) ++ _ = a.cps.toList ++ c :: _
    rw [List.append_assoc]
    rfl
theorem tjoin (sep : Str) (ts : List Str) : Txt.join sep ts = Str.join sep ts := StrLaws.glued_eq_join sep ts
def fig (n : Nat) : Str := ⟨#[48 + n]⟩
theorem fig_str : ∀ n : Nat, n < 10 → (Str.ofString (toString ((n : Nat) : Int))) = fig n := by decide +kernel
def lineOf (row : List Nat) : Str := Txt.join ⟨#[32]⟩ (row.map fig)
def textOf (t : NT) : Str := Txt.join ⟨#[10]⟩ (t.map lineOf)
theorem line_cps (row : List Nat) : (lineOf row).cps.toList = joinL 32 (row.map fun n => [48 + n]) := by
  unfold lineOf
  rw [tjoin, join_cps, List.map_map]
  rfl
theorem joinL_len {c B : Nat} : ∀ {p : List (List Nat)}, (∀ a ∈ p, a.length ≤ B) → (joinL c p).length ≤ p.length * (B + 1)
  | [], _ => by show 0 ≤ _; omega
  | [a], h => by
    have := h a List.mem_cons_self
    show a.length ≤ 1 * (B + 1)
    omega
  | a :: b :: r, h => by
    have h1 := h a List.mem_cons_self
    have ih := joinL_len (p := b :: r) (c := c) fun x hx => h x (List.mem_cons_of_mem _ hx)
    show (a ++ c :: joinL c (b :: r)).length ≤ ((b :: r).length + 1) * (B + 1)
    rw [List.length_append, List.length_cons, Nat.add_mul]
    omega
theorem cps_len (s : Str) : s.length = s.cps.toList.length := by
  show s.cps.size = _
  rw [Array.length_toList]
theorem line_len (row : List Nat) : (lineOf row).length ≤ row.length * 2 := by
  rw [cps_len, line_cps]
  have := joinL_len (c := 32) (B := 1) (p := row.map fun n => [48 + n]) fun a ha => by
    obtain ⟨n, _, rfl⟩ := List.mem_map.mp ha
    exact Nat.le_refl _
  rwa [List.length_map] at this
theorem text_len {t : NT} {m : Nat} (h : ∀ row ∈ t, row.length ≤ m) : (textOf t).length ≤ t.length * (m * 2 + 1) := by
  unfold textOf
  rw [tjoin, cps_len, join_cps]
  have := joinL_len (c := 10) (B := m * 2) (p := (t.map lineOf).map fun t => t.cps.toList) fun a ha => by
    obtain ⟨s, hs, rfl⟩ := List.mem_map.mp ha
    obtain ⟨row, hr, rfl⟩ := List.mem_map.mp hs
    rw [← cps_len]
    exact Nat.le_trans (line_len row) (by have := h row hr; omega)
  rwa [List.length_map, List.length_map] at this
end SH
namespace SH
open PySem PySem.Spec PyProof.Rows L2
theorem joinL_big {c : Nat} : ∀ p : List (List Nat), p.length ≤ (joinL c p).length + 1 ∧ ∀ x ∈ p, x.length ≤ (joinL c p).length
  | [] => ⟨Nat.zero_le _, fun x h => absurd h List.not_mem_nil⟩
  | [x] => ⟨Nat.le_add_left 1 _, fun y h => by rw [List.mem_singleton.mp h]; exact Nat.le_refl _⟩
  | x :: y :: r => by
    obtain ⟨h1, h2⟩ := joinL_big (c := c) (y :: r)
    have e : joinL c (x :: y :: r) = x ++ c :: joinL c (y :: r) := rfl
    have el : (joinL c (x :: y :: r)).length = x.length + ((joinL c (y :: r)).length + 1) := by rw [e, List.length_append, List.length_cons]
    have el2 : (x :: y :: r).length = (y :: r).length + 1 := rfl
    rw [el, el2]
    refine ⟨by omega, fun z hz => ?_⟩
    rcases List.mem_cons.mp hz with q | q
    · rw [q]
      omega
    · have := h2 z q
      omega
theorem split_small (a : Str) (c : Nat) : (Txt.split a ⟨#[c]⟩).length ≤ a.length + 1 ∧ ∀ w ∈ Txt.split a ⟨#[c]⟩, w.length ≤ a.length := by
  have h1 := StrLaws.join_split a ⟨#[c]⟩
  have h2 := join_cps c (Txt.split a ⟨#[c]⟩)
  rw [h1] at h2
  obtain ⟨h3, h4⟩ := joinL_big (c := c) ((Txt.split a ⟨#[c]⟩).map fun t => t.cps.toList)
  rw [← h2, List.length_map, ← cps_len] at h3
  refine ⟨h3, fun w hw => ?_⟩
  have := h4 _ (List.mem_map_of_mem hw)
  rw [← h2, ← cps_len] at this
  rw [cps_len]
  exact this
def isFig (w : Str) : Prop := ∃ n : Nat, n < 10 ∧ w = fig n
def FigRow (line : Str) (row : List Nat) : Prop := Txt.split line ⟨#[32]⟩ = row.map fig ∧ ∀ n ∈ row, n < 10
def FigText (text : Str) (t : NT) : Prop := Paired FigRow (Txt.split text ⟨#[10]⟩) t
theorem fig_inj {m n : Nat} (h : fig m = fig n) : m = n := by
  have : (fig m).cps = (fig n).cps := by rw [h]
  have := congrArg Array.toList this
  have h2 : [48 + m] = [48 + n] := this
  have := List.cons.inj h2
  omega
theorem map_fig_inj : ∀ {r q : List Nat}, r.map fig = q.map fig → r = q
  | [], [], _ => rfl
  | [], _ :: _, h => by cases h
  | _ :: _, [], h => by cases h
  | m :: r, n :: q, h => by
    obtain ⟨h1, h2⟩ := List.cons.inj h
    rw [fig_inj h1, map_fig_inj h2]
theorem FigRow.one {l : Str} {r q : List Nat} (h : FigRow l r) (g : FigRow l q) : r = q := map_fig_inj (h.1.symm.trans g.1)
theorem pr_one : ∀ {ls : List Str} {t u : NT}, Paired FigRow ls t → Paired FigRow ls u → t = u
  | _, _, _, .nil, .nil => rfl
  | _, _, _, .cons h1 h2, .cons g1 g2 => by rw [h1.one g1, pr_one h2 g2]
theorem FigText.one {x : Str} {t u : NT} (h : FigText x t) (g : FigText x u) : t = u := pr_one h g
theorem words_row : ∀ ws : List Str, (∀ w ∈ ws, isFig w) → ∃ row : List Nat, ws = row.map fig ∧ ∀ n ∈ row, n < 10
  | [], _ => ⟨[], rfl, fun n h => absurd h List.not_mem_nil⟩
  | w :: ws, h => by
    obtain ⟨n, hn, e⟩ := h w List.mem_cons_self
    obtain ⟨row, e2, h2⟩ := words_row ws fun x hx => h x (List.mem_cons_of_mem _ hx)
    refine ⟨n :: row, by rw [e, e2]; rfl, fun m hm => ?_⟩
    rcases List.mem_cons.mp hm with z | z
    · rw [z]
      exact hn
    · exact h2 m z
theorem pr_snoc {ls : List Str} {t : NT} {i : Nat} {l : Str} {row : List Nat} (h : Paired FigRow (ls.take i) t) (hl : ls[i]? = some l) (hr : FigRow l row) : Paired FigRow (ls.take (i + 1)) (t ++ [row]) := by
  rw [List.take_add_one, hl]
  exact Paired.snoc h hr
theorem FigRow.len {line : Str} {row : List Nat} (h : FigRow line row) : row.length ≤ line.length + 1 := by
  have := (split_small line 32).1
  rw [h.1, List.length_map] at this
  exact this
theorem FigText.small {text : Str} {t : NT} (h : FigText text t) : 1 ≤ t.length ∧ t.length ≤ text.length + 1 ∧ ∀ row ∈ t, row.length ≤ text.length + 1 ∧ ∀ n ∈ row, n < 10 := by
  obtain ⟨h1, h2⟩ := split_small text 10
  have hl := Paired.length h
  have hp := PyProof.Rows.split_pos text ⟨#[10]⟩
  refine ⟨by omega, by omega, fun row hr => ?_⟩
  obtain ⟨i, hi⟩ := List.getElem?_of_mem hr
  have il := (List.getElem?_eq_some_iff.mp hi).1
  have hli : (Txt.split text ⟨#[10]⟩)[i]? = some (Txt.split text ⟨#[10]⟩)[i] := List.getElem?_eq_getElem (by omega)
  obtain ⟨row', e, fr⟩ := pr_get h hli
  rw [hi] at e
  cases e
  have := fr.len
  have := h2 _ (List.getElem_mem (h := (by omega : i < (Txt.split text ⟨#[10]⟩).length)))
  exact ⟨by omega, fr.2⟩
end SH
namespace L2
open PySem PySem.Spec PyProof.Rows
section
variable {X : Cx}
theorem mt_indexS : MtM X "str.index" (fun x vs H Q => ∃ (a c : Str) (i : Nat) (rest : List Nat), x = .str a ∧ vs = [.str c] ∧ Builtin.Str.occurrences a c 0 a.length 1 = i :: rest ∧ Q (.int (i : Nat)) H) := by
  intro pins s σ H x xs v us Q I rx r h
  obtain ⟨a, c, i, rest, rfl, rfl, ho, q⟩ := h
  obtain ⟨t, rfl⟩ := rx
  obtain ⟨u, rfl, ru⟩ := vals1 r
  obtain ⟨t', rfl⟩ := ru
  exact call_gives F.slot_str_index (typeIs_str _ _ _) F.entry_str_index (F.args_str_index_2 _ _) (gives_str_index a c t t' i rest ho) ⟨.int _, H, I.tok _, ⟨_, rfl⟩, q⟩
theorem fig_at : ∀ n : Nat, n < 10 → Builtin.Str.occurrences ("0123456789" : Str) (SH.fig n) 0 ("0123456789" : Str).length 1 = [n] := by decide +kernel
end
end L2
namespace L2
open PySem PySem.Spec PyProof.Rows PySem.W
section
variable {M : Model} {A : Around} {E : Value → Shared → Prop} {s : Shared}
theorem leaves_any {base : Heap} {env : Env} {outer : List Env} {L e : Addr} {cls a0 fl : Value} {Q : Unit → Shared → Prop} (hfr : A.frames = some (env :: outer)) (hf : env.frame = some L) (hkb : base.StaysIn s.heap) (hen : base.get? e = none)
    (hl : s.heap.FunFrames base (env :: outer)) (ht : s.heap.TracedAtW base e cls a0 fl) (hQ : ∀ h', Heap.FlyingW base outer e cls a0 h' → s.heap.UpToSlots h' → Q () { s with heap := h' }) : wpAny M A (leaving env (.ref e)) Q E s := by
  by_cases hz : fl = rawInt L
  · subst hz
    unfold leaving
    refine wpAny_bind (wpAny_noteFrame_againW hf ht ?_)
    refine wpAny_landsW ⟨hkb, hen, hl, ht⟩ fun h' w up => ?_
    obtain ⟨k1, k2, ⟨_, _, k3⟩, k4⟩ := w
    exact hQ h' ⟨k1, k2, k3, k4⟩ up
  · obtain ⟨oe, vs, T, oT, ts, he, ⟨hcls, h0⟩, hd, h1, hnT, hTe, hT, hdT, h3⟩ := ht
    subst hcls
    unfold leaving noteFrame
    simp only [hf]
    refine wpAny_bind (wpAny_bind (wpAny_field he hd h1 ?_))
    rw [if_pos (show (Value.ref T != Value.none) = true from by simp)]
    refine wpAny_bind (wpAny_field hT hdT h3 ?_)
    rw [if_neg (show ¬ ((fl == rawInt L) = true) from fun z => hz (by simpa using z))]
    refine wpAny_bind (wpAny_setField hT hdT (Array.getElem?_eq_some_iff.mp h3).1 ?_)
    have other : ∀ b, b ≠ T → (s.heap.update T (Obj.mapFields (·.setIfInBounds 3 Value.none))).get? b = s.heap.get? b := fun b hb => Heap.get?_update_other _ _ (Ne.symm hb)
    have noT : ∀ b o, s.heap.get? b = some o → (∀ vs, o.data ≠ .fields vs) → b ≠ T := fun b o hb hnf q => by
      rw [q, hT] at hb
      cases hb
      exact hnf ts hdT
    refine wpAny_newEntryW hfr (hl.of_keeps fun b o hb hnf => ⟨o, (other b (noT b o hb hnf)).trans hb, rfl⟩) hf ((other e (Ne.symm hTe)).trans he)
      (fun b o hbo => (other b fun q => by rw [q, hnT] at hbo; cases hbo).trans (hkb b o hbo)) hen hd (Array.getElem?_eq_some_iff.mp h1).1 h0 fun h' w => ?_
    obtain ⟨x1, ⟨_, _, x2⟩, x3, x4⟩ := w
    exact hQ h' ⟨x1, hen, x2, x3⟩ fun b o hb hnf => x4 b o ((other b (noT b o hb hnf)).trans hb) hnf
theorem pass_any {α : Type} {base : Heap} {l : List Env} {e : Addr} {cls a0 fl : Value} {what : String} {cenv : Env} {Q : α → Shared → Prop} (hkb : base.StaysIn s.heap) (hl : s.heap.FunFrames base l) (ht : s.heap.TracedAtW base e cls a0 fl)
    (h : ∀ h' fl', base.StaysIn h' → h'.FunFrames base l → h'.TracedAtW base e cls a0 fl' → (∀ b o, s.heap.get? b = some o → (∀ vs, o.data ≠ .fields vs) → h'.get? b = some o) → E (.ref e) { s with heap := h' }) :
    wpAny M A (PySem.passOn what (.ref e) cenv : Sem α) Q E s := by
  obtain ⟨oe, vs, T, oT, ts, he, hcls, hd, h1, hnT, hTe, hT, hdT, h3⟩ := ht
  have hsz3 : 3 < ts.size := (Array.getElem?_eq_some_iff.mp h3).1
  have noT : ∀ b o, s.heap.get? b = some o → (∀ vs, o.data ≠ .fields vs) → b ≠ T := fun b o hb hnf q => by
    rw [q, hT] at hb
    cases hb
    exact hnf ts hdT
  unfold PySem.passOn
  refine wpAny_bind (wpAny_field he hd h1 ?_)
  rw [if_neg (show ¬ ((Value.ref T == Value.none) = true) from by simp)]
  unfold setFlight
  refine wpAny_bind (wpAny_bind (wpAny_field he hd h1 ?_))
  rw [if_pos (show (Value.ref T != Value.none) = true from by simp)]
  refine wpAny_setField hT hdT hsz3 (wpAny_throw ?_)
  generalize cenv.frame.elim Value.none (fun f => rawInt f) = fl'
  have other : ∀ b, b ≠ T → (s.heap.update T (Obj.mapFields (·.setIfInBounds 3 fl'))).get? b = s.heap.get? b := fun b hb => Heap.get?_update_other _ _ (Ne.symm hb)
  refine h _ fl' (fun b o hbo => (other b fun q => by rw [q, hnT] at hbo; cases hbo).trans (hkb b o hbo)) (hl.of_keeps fun b o hb hnf => ⟨o, (other b (noT b o hb hnf)).trans hb, rfl⟩) ?_ fun b o hb hnf => (other b (noT b o hb hnf)).trans hb
  exact ⟨oe, vs, T, _, _, (other e (Ne.symm hTe)).trans he, hcls, hd, h1, hnT, hTe, Heap.get?_update_self _ hT (Obj.isFreed_of_fields (Obj.data_mapFields hdT _)), Obj.data_mapFields hdT _, by simp [hsz3]⟩
end
theorem comp_loopE {prog : Program} {w : World} {A : Around} {R : Result → Shared → Prop} {s : Shared} {elt target iter : Expr} {ifs : List Expr} {scope : Scope} {pos : Pos} {it acc : Value} {env : Env} (I : Nat → Shared → Prop)
    (turn : ∀ n s, I n s → wpAny (model prog w) A (pyNext it) (fun r s1 => match r with
      | none => R (.ok .next) s1
      | some v => wpAny (model prog w) A (letOwnedTupleGo target it v) (fun _ s1' => wpAny (model prog w) A (assign target env v) (fun _ s2 =>
          wpAny (model prog w) A (forIn ifs true fun c r => if r = true then do let ok ← isTrue c env (eval c env); pure (ForInStep.yield ok) else pure (ForInStep.yield r)) (fun ok s3 =>
            if ok = true then wpAny (model prog w) A (eval elt env) (fun x s4 =>
              wpAny (model prog w) A (call (.builtin "list.append") [acc, x]) (fun _ s5 => ∃ m, m < n ∧ I m s5) (fun _ _ => False) s4) (notedBy (model prog w) A env fun e s' => R (.error e) s') s3
            else ∃ m, m < n ∧ I m s3) (fun _ _ => False) s2) (fun _ _ => False) s1') (fun _ _ => False) s1) (fun _ _ => False) s)
    (n : Nat) (h : I n s) : codeAny (model prog w) A (.compLoop (.ListComp elt [⟨target, iter, ifs, 0⟩] scope pos) 0 it acc env) R s := by
  refine codeAny_loop rfl I (fun n s hI => ?_) n h
  show wpAny _ A ((compTurn (.ListComp elt [⟨target, iter, ifs, 0⟩] scope pos) 0 it acc env).onRaise (fun x => do noteFrame x env; theTreesLotGoes x)) _ _ s
  refine wpAny_noted ?_
  rw [compTurn_list]
  refine wpAny_bind (wpAny_standAt (wpAny_bind (wpAny_mono (turn n s hI) (fun r s1 h1 => ?_) fun _ _ z => z.elim)))
  cases r with
  | none => exact wpAny_pure h1
  | some v =>
    refine wpAny_bind (wpAny_mono h1 (fun _ s1' h1' => ?_) fun _ _ z => z.elim)
    refine wpAny_bind (wpAny_mono h1' (fun _ s2 h2 => wpAny_bind (wpAny_mono h2 (fun ok s3 h3 => ?_) fun _ _ z => z.elim)) fun _ _ z => z.elim)
    cases ok with
    | false => exact wpAny_pure ⟨rfl, h3⟩
    | true =>
      exact wpAny_bind (wpAny_bind (wpAny_mono h3 (fun x s4 h4 => wpAny_bind (wpAny_mono h4 (fun _ s5 h5 => wpAny_pure (wpAny_pure ⟨rfl, h5⟩)) fun _ _ z => z.elim)) fun _ _ z => z))
end L2
namespace L2
open PySem PySem.Spec PyProof.Rows PySem.W
def PassesC (X : Cx) (E' : XK) : Prop := ∀ (pins : List (Addr × Obj)) (σ : St) (H : Hp) (s : Shared) (Cc a C t : Addr) (B : Heap) (H' : Hp) (s' : Shared) (h6 : Heap) (fl : Value),
  Inv X pins σ H s → X.s₀.heap.objs.size ≤ Cc → s'.os = s.os → AllBare s'.gens → Un (frs X.stack) [] H H' s.heap s'.heap → HOk X.prog X.w H' s'.heap → s.heap.get? a = none → H' a = none → H' Cc = none →
  Heap.FlyingW B X.stack a (.ref C) (.ref t) s'.heap → (∀ b u, H' b = some u → ∃ o, B.get? b = some o) → (∀ b o, s.heap.get? b = some o → b ∉ frs X.stack → ∃ o', B.get? b = some o') → E' (.ref C) none H' →
  (hideAll B [Cc]).StaysIn h6 → h6.FunFrames (hideAll B [Cc]) X.stack → h6.TracedAtW (hideAll B [Cc]) a (.ref C) (.ref t) fl →
  (∀ b ∈ frs X.stack, ∀ o, s'.heap.get? b = some o → (∀ vs, o.data ≠ .fields vs) → ∃ sl, h6.get? b = some { o with slots := sl }) → X.xe (.ref a) { s' with heap := h6 }
theorem hide_none {B : Heap} {b : Addr} {l : List Addr} (h : B.get? b = none) : (hideAll B l).get? b = none := by
  cases q : (hideAll B l).get? b with
  | none => rfl
  | some o => rw [of_hideAll _ q] at h; cases h
theorem hide_ne {B : Heap} {b c : Addr} {o : Obj} (h : (hideAll B [c]).get? b = some o) : b ≠ c := fun z => by
  rw [z, hideAll_none _ (List.mem_singleton.mpr rfl)] at h
  cases h
theorem hide_at {B : Heap} {b c : Addr} {o : Obj} (h : B.get? b = some o) (n : b ≠ c) : (hideAll B [c]).get? b = some o := hideAll_get _ h fun z => n (List.mem_singleton.mp z)
section
variable {P : Program} {w : World} {K : Frag} {mg : Str → Option Value} {base : Heap} {N : List Str} {qual : Str} {scope : Scope} {f : Addr} {cd : Value} {A : Around} {outer : List Env} {s₀ : Shared} {H₀ : Hp} {E E' : XK}
theorem cx_passesC (hE : ∀ c d H, E' c d H → E c d H) : PassesC (cxOf (CXE P w) P w K mg base N qual scope f cd A outer s₀ H₀ E) E' := by
  intro pins σ H s Cc a C t B H' s' h6 fl' I hCc os bare un hok fr hn hnC fl b1 b3 e' k1 k2 k3 k4
  have un : Un (frs (envOfC qual scope s₀.heap.objs.size f cd :: outer)) [] H H' s.heap s'.heap := un
  have b3 : ∀ b o, s.heap.get? b = some o → b ∉ frs (envOfC qual scope s₀.heap.objs.size f cd :: outer) → ∃ o', B.get? b = some o' := b3
  have fl : Heap.FlyingW B (envOfC qual scope s₀.heap.objs.size f cd :: outer) a (.ref C) (.ref t) s'.heap := fl
  have k2 : h6.FunFrames (hideAll B [Cc]) (envOfC qual scope s₀.heap.objs.size f cd :: outer) := k2
  have k4 : ∀ b ∈ frs (envOfC qual scope s₀.heap.objs.size f cd :: outer), ∀ o, s'.heap.get? b = some o → (∀ vs, o.data ≠ .fields vs) → ∃ sl, h6.get? b = some { o with slots := sl } := k4
  have hf : (envOfC qual scope s₀.heap.objs.size f cd).frame = some (envOfC qual scope s₀.heap.objs.size f cd).locals := rfl
  have hCc : s₀.heap.objs.size ≤ Cc := hCc
  have stk := I.stack
  have no : ∀ b : Addr, b ∉ (cxOf (CXE P w) P w K mg base N qual scope f cd A outer s₀ H₀ E).ex := fun b z => absurd (show b ∈ ([] : List Addr) from z) (by simp)
  have neC : ∀ b o, s₀.heap.get? b = some o → b ≠ Cc := fun b o e => Nat.ne_of_lt (Nat.lt_of_lt_of_le (Heap.lt_size e) hCc)
  have neL : ∀ b o, s₀.heap.get? b = some o → b ≠ (envOfC qual scope s₀.heap.objs.size f cd).locals := fun b o e => Nat.ne_of_lt (Nat.lt_of_lt_of_le (Heap.lt_size e) I.ok.above)
  have nIn : ∀ b o, s₀.heap.get? b = some o → b ∉ frs outer → b ∉ frs (envOfC qual scope s₀.heap.objs.size f cd :: outer) := fun b o e n z => (mem_frs hf z).elim (neL b o e) n
  refine leaves_any (base := hideAll B [Cc]) I.ok.frames hf k1 (hide_none fl.2.1) k2 k3 fun h'' f1 f4 => ?_
  have stay : ∀ b o, B.get? b = some o → b ≠ Cc → s'.heap.get? b = some o ∧ h''.get? b = some o := fun b o q n => ⟨fl.1 b o q, f1.1 b o (hide_at q n)⟩
  have noA0 : s₀.heap.get? a = none := by
    cases q : s₀.heap.get? a with
    | none => rfl
    | some u =>
      obtain ⟨ob, z⟩ := I.base.there a u q (no a)
      rw [fr] at z; cases z
  refine ⟨a, C, t, hideAll B [Cc], H', rfl, os.trans I.os, bare, ⟨fun b o q n hb _ => ?_, fun b o q n hb _ => ?_, fun b o q n _ => ?_, fun b o q _ => ?_, fun b xs q => un.tups b xs (I.base.tups b xs q), fun b o u q => un.frzs b o u (I.base.frzs b o u q), fun b ps q => ?_⟩, fun b u q => ?_, noA0, hn, f1, fun b u q => ?_, fun b o q n => ?_, hE _ _ _ e'⟩
  · have e1 := I.base.keep b o q n hb (no b)
    have n1 := I.base.free b o q n (no b)
    have nb := nIn b o q hb
    obtain ⟨o', e2⟩ := b3 b o e1 nb
    have e3 := un.keep b o e1 n1 nb (by simp)
    obtain ⟨e4, e5⟩ := stay b o' e2 (neC b o q)
    rw [e3] at e4; cases e4
    exact e5
  · obtain ⟨sl, e1⟩ := I.base.slot b o q n hb (no b)
    have n1 := I.base.free b o q n (no b)
    obtain ⟨sl2, e2⟩ := un.slot b _ e1 n1 (frs_mem hb) (by simp)
    obtain ⟨_, o', ho', hnf⟩ := stk.mem (show b ∈ (envOfC qual scope s₀.heap.objs.size f cd :: outer).filterMap (·.frame) from frs_mem hb)
    rw [e1] at ho'; cases ho'
    obtain ⟨sl3, e3⟩ := k4 b (frs_mem hb) _ e2 hnf
    obtain ⟨sl4, e4⟩ := f4 b _ e3 hnf
    exact ⟨sl4, e4⟩
  · obtain ⟨o', e1⟩ := I.base.there b o q (no b)
    exact un.free b o' e1 (I.base.free b o q n (no b)) (by simp)
  · by_cases hb : b ∈ frs outer
    · obtain ⟨_, o2, ho2, hnf⟩ := k2.mem (show b ∈ (envOfC qual scope s₀.heap.objs.size f cd :: outer).filterMap (·.frame) from frs_mem hb)
      obtain ⟨sl3, e3⟩ := f4 b _ ho2 hnf
      exact ⟨_, e3⟩
    · obtain ⟨o', e1⟩ := I.base.there b o q (no b)
      obtain ⟨o2, e2⟩ := b3 b o' e1 (nIn b o q hb)
      exact ⟨o2, (stay b o2 e2 (neC b o q)).2⟩
  · obtain ⟨m1, e1⟩ := I.base.tbls b ps q
    obtain ⟨m2, e2⟩ := un.tbls b _ e1
    exact ⟨m1 ++ m2, by rw [e2, Array.append_assoc]⟩
  · refine (hok b u q).stay (fun c v hc z => ?_) (fun _ z => z) fun _ _ z => z
    have hc' : ∃ u', H' c = some u' := by
      rcases hc with rfl | hc
      · exact ⟨_, q⟩
      · exact ⟨_, hc⟩
    obtain ⟨u', hu⟩ := hc'
    obtain ⟨o', e2⟩ := b1 c u' hu
    obtain ⟨e4, e5⟩ := stay c o' e2 fun z => by rw [z, hnC] at hu; cases hu
    rw [z] at e4; cases e4
    exact e5
  · obtain ⟨o', e2⟩ := b1 b u q
    exact ⟨o', hide_at e2 fun z => by rw [z, hnC] at q; cases q⟩
  · obtain ⟨o', e1⟩ := I.base.there b o q (no b)
    obtain ⟨o2, e2⟩ := b3 b o' e1 (nIn b o q n)
    exact ⟨o2, hide_at e2 (neC b o q)⟩
end
def xcE (X : Cx) (N : List Str) (scope : Scope) (C : Addr) (s₀ : Shared) (H₀ : Hp) (fp : List Addr) (E' : XK) : Value → Shared → Prop := fun e s' =>
  ∃ (pins : List (Addr × Obj)) (σ : St) (H : Hp) (s : Shared), Inv (compCx X N scope C s₀ H₀ fp) pins σ H s ∧ CXE X.prog X.w X.stack H s E' e s'
theorem xc_passes {X : Cx} {N : List Str} {scope : Scope} {C : Addr} {s₀ : Shared} {H₀ : Hp} {fp : List Addr} {E' : XK} : Passes (CXE X.prog X.w) ((compCx X N scope C s₀ H₀ fp).wish (xcE X N scope C s₀ H₀ fp E')) E' :=
  fun pins σ H s _ _ I h => ⟨pins, σ, H, s, I.unwish, h⟩
theorem Inv.unpin {X : Cx} {N : List Str} {scope : Scope} {C : Addr} {s₀ : Shared} {H₀ : Hp} {fp : List Addr} {pins : List (Addr × Obj)} {σ : St} {H : Hp} {s : Shared} (I : Inv (compCx X N scope C s₀ H₀ fp) pins σ H s) : Inv (compCx X N scope C s₀ H₀ fp) [] σ H s :=
  ⟨I.ok, I.os, I.bare, I.base, I.loc, I.cell, I.free, I.freeC, fun p hp => absurd (show p ∈ ([] : List (Addr × Obj)) from hp) (by simp), I.hok, I.len⟩
theorem frames_hide {B h h' : Heap} {c : Addr} {oc : Obj} (hc : B.get? c = some oc) (e : ∀ b, b ≠ c → h'.get? b = h.get? b) : ∀ {l : List Env}, h.FunFrames B l → h'.FunFrames (hideAll B [c]) l
  | [], x => x
  | env :: rest, ⟨k, ⟨L, o, hf, hn, ho, hnf⟩, r⟩ => ⟨k, ⟨L, o, hf, hide_none hn, (e L fun z => by rw [z, hc] at hn; cases hn).trans ho, hnf⟩, frames_hide hc e r⟩
section
variable {X : Cx} {pins : List (Addr × Obj)} {σ : St} {N : List Str} {ix : List (Option Nat)} {scope : Scope} {elt iter tg : Expr} {ifs : List Expr} {pos : Pos} {g : TG} {tt : TT} {te : TE} {wi : TI}
theorem comp_err {E' : XK} {use : Option (Value → Sem Unit)} {Qv : Value → Shared → Prop} {H3 : Hp} {s3 : Shared} {fp : List Addr} {D : Addr} {pins' : List (Addr × Obj)} {σ' : St} {H' : Hp} {s1 s' : Shared} {e : Value} (hfr : X.env.frame = some X.env.locals) (hstk : X.stack = X.env :: X.outer) (hx : PassesC X E')
    (I3 : Inv X pins σ H3 s3) (Ib : Inv X pins σ H' s1) (I' : Inv (compCx X N scope s3.heap.objs.size s3 H3 fp) pins' σ' H' s1) (hxe : CXE X.prog X.w X.stack H' s1 E' e s') :
    notedBy (model X.prog X.w) X.A (compCx X N scope s3.heap.objs.size s3 H3 fp).env (fun e s' => compPost (model X.prog X.w) X.A X.xe use Qv (.ref D) s3.heap.objs.size (.error e) s') e s' := by
  obtain ⟨a, C, t, B, H'', rfl, os, bare, un, hok, fr, hn, fl, b1, b3, e'⟩ := hxe
  have fl' : Heap.FlyingW B (X.env :: X.outer) a (.ref C) (.ref t) s'.heap := by rw [← hstk]; exact fl
  show wpAny _ X.A (noteFrame (.ref a) X.env) _ _ _
  refine wpAny_looks_onW (base := B) (env := X.env) (outer := X.outer) (by rw [← hstk]; exact I3.ok.frames) hfr fl' fun h4 held up => ?_
  obtain ⟨m, hns, _⟩ := I'.loc
  have hns : s1.heap.Ns s3.heap.objs.size m := hns
  obtain ⟨oC, es, ep, hoC, hdC, hr⟩ := id hns
  have hfree : H' s3.heap.objs.size = none := I'.free
  have nfr : s3.heap.objs.size ∉ frs X.stack := fun z => by
    obtain ⟨_, o, ho, _⟩ := I3.stack.mem z
    exact absurd (Heap.lt_size ho) (Nat.lt_irrefl _)
  have eC' := un.keep _ _ hoC hfree nfr (by simp)
  have hnC := un.free _ _ hoC hfree (by simp)
  obtain ⟨oB, eB⟩ := b3 _ _ hoC nfr
  have q1 := fl.1 _ _ eB
  rw [eC'] at q1
  cases q1
  have e4 : h4.get? s3.heap.objs.size = some oC := held.1 _ _ eB
  have ns4 : h4.Ns s3.heap.objs.size m := ⟨oC, es, ep, e4, hdC, hr⟩
  have aC : a ≠ s3.heap.objs.size := fun z => by rw [z, hoC] at fr; cases fr
  have main : ∃ m, h4.Ns s3.heap.objs.size m ∧ ∀ h', Heap.SameBut s3.heap.objs.size h4 h' → ∀ cenv : Env, cenv.locals = s3.heap.objs.size →
      wpAny (model X.prog X.w) X.A (PySem.passOn "comprehension.variables-let-go" (.ref a) cenv : Sem Value) (fun _ _ => False) X.xe { s' with heap := h' } := by
    refine ⟨m, ns4, fun h5 sb cenv _ => ?_⟩
    have same : ∀ b, b ≠ s3.heap.objs.size → h5.get? b = h4.get? b := fun b hb => sb.2 b hb
    have hkb5 : (hideAll B [s3.heap.objs.size]).StaysIn h5 := fun b o q => (same b (hide_ne q)).trans (held.1 b o (of_hideAll _ q))
    have hl5 : h5.FunFrames (hideAll B [s3.heap.objs.size]) X.stack := by
      rw [hstk]
      exact frames_hide eB same held.2.2.1
    obtain ⟨oe, vs, T, oT, ts, he, hcls, hd, h1, hnT, hTe, hT, hdT, h3⟩ := held.2.2.2
    have TC : T ≠ s3.heap.objs.size := fun z => by rw [z, eB] at hnT; cases hnT
    have ht5 : h5.TracedAtW (hideAll B [s3.heap.objs.size]) a (.ref C) (.ref t) (rawInt X.env.locals) := ⟨oe, vs, T, oT, ts, (same a aC).trans he, hcls, hd, h1, hide_none hnT, hTe, (same T TC).trans hT, hdT, h3⟩
    refine pass_any (s := { s' with heap := h5 }) hkb5 hl5 ht5 fun h6 fl6 k1 k2 k3 k4 => ?_
    refine hx pins σ H' s1 s3.heap.objs.size a C t B H'' s' h6 fl6 Ib I3.sz os bare un hok fr hn hnC fl b1 b3 e' k1 k2 k3 fun b hb o ho hnf => ?_
    obtain ⟨sl, e5⟩ := up b o ho hnf
    have bC : b ≠ s3.heap.objs.size := fun z => nfr (z ▸ hb)
    exact ⟨sl, k4 b _ ((same b bC).trans e5) hnf⟩
  cases use <;> exact main
theorem comp_coreE {E' : XK} {use : Option (Value → Sem Unit)} {Qv : Value → Shared → Prop} {H2 : Hp} {s2 : Shared} {it : Addr} {fp : List Addr} {tn : Nat → Heap → Prop} {J : It} {Q : VK} (hfr : X.env.frame = some X.env.locals) (hstk : X.stack = X.env :: X.outer) (hx : PassesC X E') (hc : X.calm = true) (ck : CompOk X N ix scope)
    (I2 : Inv X pins σ H2 s2) (T : Turn X.prog X.w X.K tg J fp it tn) (st : tn 0 s2.heap) (f2 : ∀ b ∈ fp, FpOk X pins H2 b)
    (hg : ∀ C s₀ H₀ fp, PG (compCx X N scope C s₀ H₀ fp) tg g) (htt : ∀ C s₀ H₀ fp, PTs (compCx X N scope C s₀ H₀ fp) ifs tt) (he : ∀ C s₀ H₀ fp, PE ((compCx X N scope C s₀ H₀ fp).wish (xcE X N scope C s₀ H₀ fp E')) elt te)
    (hw : ∀ D, H2 D = none → tCompL J g tt te D (capt ix σ) H2 Q)
    (hRR : ∀ (D C : Addr) (H' : Hp) (s' : Shared) (m : Str → Option Value), Inv X pins σ H' s' → s'.heap.Ns C m → H' C = none → C ≠ X.env.locals → X.s₀.heap.objs.size ≤ C → (∀ x c, X.env.cells.lookup x = some c → c ≠ C) → (∀ p ∈ X.pn ++ pins, p.1 ≠ C) →
      Q (.ref D) H' → compPost (model X.prog X.w) X.A X.xe use Qv (.ref D) C (.ok .next) s') :
    wpAny (model X.prog X.w) X.A (newList []) (fun acc s3 => wpAny (model X.prog X.w) X.A (newFunctionEnv scope X.env.globals (clOf X.env scope.names []) [] X.env.qual none .none (some X.env)) (fun cenv s4 =>
      codeAny (model X.prog X.w) X.A (.compStart (.ListComp elt [⟨tg, iter, ifs, 0⟩] scope pos) 0 (.ref it) acc { cenv with scope := relabel scope X.env }) (compPost (model X.prog X.w) X.A X.xe use Qv acc cenv.locals) s4) X.xe s3) X.xe s2 := by
  have ob := T.obj 0 _ st
  have lt2 : ∀ b ∈ fp, b < s2.heap.objs.size := fun b hb => by
    obtain ⟨o, e, _⟩ := ob b hb
    exact Heap.lt_size e
  have hD : H2 s2.heap.objs.size = none := I2.hok.fresh (Nat.le_refl _)
  have I3 : Inv X pins σ (upd H2 s2.heap.objs.size (.lst [])) { s2 with heap := s2.heap.push { cls := .type "list", dict := none, data := .seq ([] : List Value).toArray }, toks := s2.toks } := I2.lnew (ys := []) .nil (Nat.zero_le _)
  refine wpAny_newObj_type (wpAny_newFunctionEnv ck.nocell (by intro y hy; simp at hy) (fun h1 hns hsb => ?_) ck.kind)
  dsimp only at hns hsb ⊢
  generalize hs3 : ({ s2 with heap := s2.heap.push { cls := .type "list", dict := none, data := .seq ([] : List Value).toArray }, toks := s2.toks } : Shared) = s3 at I3
  have eh : s2.heap.push { cls := .type "list", dict := none, data := .seq ([] : List Value).toArray } = s3.heap := by rw [← hs3]
  have sz3 : s3.heap.objs.size = s2.heap.objs.size + 1 := by rw [← hs3]; exact Heap.size_push ..
  rw [eh] at hns hsb ⊢
  have f3 : ∀ b ∈ fp, FpOk X pins (upd H2 s2.heap.objs.size (.lst [])) b := fun b hb => by
    refine ⟨?_, (f2 b hb).2⟩
    rw [upd_ne (Nat.ne_of_lt (lt2 b hb))]
    exact (f2 b hb).1
  have lt3 : ∀ b ∈ fp, b < s3.heap.objs.size := fun b hb => by rw [sz3]; exact Nat.lt_succ_of_lt (lt2 b hb)
  have k1 : ∀ b o, s3.heap.get? b = some o → h1.get? b = some o := fun b o e => hsb.extBut b o (Nat.ne_of_lt (Heap.lt_size e)) (Heap.get?_push_of_some _ e)
  have st1 : tn 0 h1 := T.keep 0 _ _ st fun b hb o e => k1 b o (by rw [← eh]; exact Heap.get?_push_of_some _ e)
  obtain ⟨W, ⟨m0, w0⟩, turn⟩ := hw _ hD
  let X' := compCx X N scope s3.heap.objs.size s3 (upd H2 s2.heap.objs.size (.lst [])) fp
  have ok' : X'.Ok := compCx_ok I3 ck f3 lt3
  have stat : ∀ {H' : Hp}, (∀ b ∈ fp, H' b = none) → ∀ b ∈ fp, FpOk X' [] H' b := fun hn b hb =>
    ⟨hn b hb, (ok'.exf b hb).1, ok'.exfs b hb, .inl hb, (ok'.exf b hb).2, fun p hp => absurd (show p ∈ ([] : List (Addr × Obj)) from hp) (by simp)⟩
  have back : ∀ {σ' : St} {H' : Hp} {s' : Shared}, Inv X' [] σ' H' s' → Inv X pins σ H' s' := fun {σ' H' s'} J' => by
    refine I3.call' (ch := fp) J'.os J'.base J'.hok J'.bare fun b hb => ?_
    obtain ⟨q0, q1, q2, q3, q4, q5⟩ := f3 b hb
    exact ⟨q3, q1, q4, q5⟩
  have loop : ∀ s4 : Shared, s4 = { s3 with heap := h1, toks := s3.toks + ([] : List (Str × Value)).length } →
      codeAny (model X.prog X.w) X.A (.compLoop (.ListComp elt [⟨tg, iter, ifs, 0⟩] scope pos) 0 (.ref it) (.ref s2.heap.objs.size) X'.env) (compPost (model X.prog X.w) X.A X.xe use Qv (.ref s2.heap.objs.size) s3.heap.objs.size) s4 := by
    rintro s4 rfl
    refine comp_loopE (fun n s' => ∃ i σ' H', Inv X' [] σ' H' s' ∧ tn i s'.heap ∧ (∀ b ∈ fp, H' b = none) ∧ W i n σ' H') ?_ m0 ⟨0, capt ix σ, _, compCx_inv I3 ck f3 lt3 hns k1, st1, fun b hb => (f3 b hb).1, w0⟩
    rintro n s5 ⟨i, σ5, H5, I5, st5, fr5, w5⟩
    rcases turn i n σ5 H5 w5 with ⟨stop, q⟩ | ⟨go, step⟩
    · refine thn (T.done X' rfl rfl rfl hc i [] s5 σ5 H5 _ I5 (stat fr5) st5 stop) fun r s6 ⟨hr, I6⟩ => ?_
      subst hr
      obtain ⟨m6, hn6, _⟩ := I6.loc
      have J6 := back I6
      have low : X.env.locals < s3.heap.objs.size := I3.lt
      exact hRR _ _ H5 s6 m6 J6 hn6 I6.free (Nat.ne_of_gt low) I3.sz (fun x c e z => by
        obtain ⟨v, qc⟩ := I3.cell x c e
        exact absurd qc.lt (by rw [z]; exact Nat.lt_irrefl _)) (fun p hp z => absurd (Heap.lt_size (I3.pin p hp).1) (by rw [z]; exact Nat.lt_irrefl _)) q
    · refine thn (T.item X' rfl rfl rfl hc i [] s5 σ5 H5 _ I5 (stat fr5) st5 go) fun r s6 ⟨u, hr, h6⟩ => ?_
      subst hr
      refine thn h6 fun _ s7 ⟨x, H7, I7, r7, y7, st7, fr7⟩ => ?_
      have I7' := I7.pinned (stat fr7) (T.obj _ _ st7)
      refine thn (hg _ _ _ _ _ s7 σ5 H7 x u _ I7' r7 (step x H7 y7)) fun _ s8 ⟨σ8, H8, I8, q8⟩ => ?_
      refine thn (htt _ _ _ _ _ s8 σ8 H8 _ I8 q8) fun b s9 ⟨H9, I9, q9⟩ => ?_
      have again : ∀ {H : Hp} {s' : Shared}, Inv X' ([] ++ pinsAt fp s7.heap) σ8 H s' → (∃ m', m' < n ∧ W (i + 1) m' σ8 H) → ∃ m, m < n ∧ ∃ i σ' H', Inv X' [] σ' H' s' ∧ tn i s'.heap ∧ (∀ b ∈ fp, H' b = none) ∧ W i m σ' H' := fun {H s'} J ⟨m', hm, w'⟩ => by
        refine ⟨m', hm, i + 1, σ8, H, J.unpinned, T.keep _ _ _ st7 fun b hb o e => (J.pin (b, o) (List.mem_append_right _ (List.mem_append_right _ (mem_pinsAt hb e)))).1, fun b hb => ?_, w'⟩
        obtain ⟨o, e, d⟩ := T.obj _ _ st7 b hb
        exact (J.pin (b, o) (List.mem_append_right _ (List.mem_append_right _ (mem_pinsAt hb e)))).2.1
      cases b with
      | false =>
        rw [if_neg Bool.false_ne_true] at q9 ⊢
        exact again I9 q9
      | true =>
        rw [if_pos rfl] at q9 ⊢
        obtain ⟨Nx, hNx, q9⟩ := q9
        refine wpAny_mono (he _ _ _ _ _ s9 σ8 H9 _ (I9.wish _) q9) (fun z s10 ⟨y, H10, I10', r10, n10⟩ => ?_) fun e s10 hxc => ?_
        rotate_left
        · obtain ⟨pins', σ', H', s1, I', hxe⟩ := hxc
          exact comp_err hfr hstk hx I3 (back (Inv.unpin I')) I' hxe
        have I10 := I10'.unwish
        obtain ⟨ys, hD10, hz10, q10⟩ := hNx y H10 n10
        exact thn (mt_append (X := X') _ s10 σ8 H10 (.ref s2.heap.objs.size) [y] (.ref s2.heap.objs.size) [z] (fun _ H => ∃ m', m' < n ∧ W (i + 1) m' σ8 H) I10 rfl (.cons r10 .nil) ⟨_, ys, y, rfl, rfl, hD10, hz10, q10⟩) fun _ s11 ⟨v11, H11, I11, _, q11⟩ => again I11 q11
  exact codeAny_compStart_list (loop _ (by rw [← hs3])) (T.self _ 0 _ _ _ st1 (loop _ (by rw [← hs3])))
theorem ps_compE {E' : XK} {i : Nat} {y : Str} {py spos : Pos} (hfr : X.env.frame = some X.env.locals) (hstk : X.stack = X.env :: X.outer) (hx : PassesC X E') (hN : X.N.Nodup) (hi' : X.N[i]? = some y) (hy : X.env.scope.names.lookup y = some .local) (hc : X.calm = true) (ck : CompOk X N ix scope) (hi : PI X tg iter wi)
    (hg : ∀ C s₀ H₀ fp, PG (compCx X N scope C s₀ H₀ fp) tg g) (htt : ∀ C s₀ H₀ fp, PTs (compCx X N scope C s₀ H₀ fp) ifs tt) (he : ∀ C s₀ H₀ fp, PE ((compCx X N scope C s₀ H₀ fp).wish (xcE X N scope C s₀ H₀ fp E')) elt te)
    (hsw : swapsWith (.ListComp elt [⟨tg, iter, ifs, 0⟩] scope pos) (some (.Name y py)) spos.line X.env = pure true := by rfl)
    (hs : ∀ x, foldedSetIterable iter X.env x = pure x := by intro _; rfl) : PS X (.Assign [.Name y py] (.ListComp elt [⟨tg, iter, ifs, 0⟩] scope pos) spos) (tAsg (tComp wi ix g tt te) (gName i)) := by
  intro pins s σ H Dn I h
  rw [exec_Assign_Name_used _ _ _ _ hsw]
  refine wpAny_bind (wpAny_standAt (wpAny_bind ?_))
  show wpAny _ X.A (do let _ ← comprehension (.ListComp elt [⟨tg, iter, ifs, 0⟩] scope pos) scope X.env _ (newList []) false (eval iter X.env) (some (assign (.Name y py) X.env))) _ _ s
  refine wpAny_bind (wpAny_mono (wpAny_comprehension_free (use := some (assign (.Name y py) X.env)) (Q := fun _ s' => SP X pins Dn .next s') rfl hs (comp_closure I ck) ck.kind ck.names (thn (hi pins s σ H _ I h) fun v s1 h1 => thn h1 fun itv s2 h2 => ?_))
    (fun _ s' hq => wpAny_pure (wpAny_pure hq)) fun _ _ e => e)
  obtain ⟨it, fp, tn, J, H2, e, I2, T, st2, f2, hw⟩ := h2
  subst e
  refine comp_coreE (Q := fun v H1 => Dn.nx (σ.set i (some v)) H1) (use := some (assign (.Name y py) X.env)) (Qv := fun _ s' => SP X pins Dn .next s') hfr hstk hx hc ck I2 T st2 f2 hg htt he hw ?_
  intro D C H' s' m J' hn hfree hL hsz hcell hpin q
  show wpAny _ X.A (assign (.Name y py) X.env (.ref D)) _ _ _
  refine wpAny_assign_Name (store_ok2 J' hN hi' (.inl hy) (v := .ref D) rfl (fun s'' I'' hb => ?_) (.inr hy))
  obtain ⟨a, sb, ha⟩ := hb
  have neC : C ≠ a := by
    rcases ha with ha | ha
    · rw [ha]; exact hL
    · exact fun z => hcell _ _ ha z.symm
  refine ⟨m, hn.sameBut sb neC, fun h' hs' => ⟨_, H', I''.turned (t' := s''.toks) (fun b o hb e => hs'.extBut b o hb e) hfree hL (.inr hsz) hcell hpin, q⟩⟩
end
end L2
namespace L2
open PySem PySem.Spec PyProof.Rows
section
variable {X : Cx} {a : Expr} {t : TA} {p1 p2 p3 pos : Pos}
end
end L2
namespace L2
open PySem PySem.Spec PyProof.Rows PySem.W
def PassesS (CX : CXT) (X : Cx) (σ : St) (E : XK) : Prop := ∀ (pins : List (Addr × Obj)) (H : Hp) (s : Shared) (e : Value) (s' : Shared), Inv X pins σ H s → CX X.stack H s E e s' → X.xe e s'
def tCallS (sp : Sp) (Ex : St → XK) (t : TA) : TE := fun σ H Q => t σ H fun vs H1 => sp vs H1 Q (Ex σ)
section
variable {X : Cx} {k : Nat} {x : Str} {ps : List Str} {sp : Sp} {e : Expr} {es : List Expr} {t : TA} {p pos : Pos} {Ex : St → XK}
theorem pe_defXS (G : CalleeX X.prog X.w X.K X.mg X.base k x ps sp) (hx : ∀ σ, PassesS (CXE X.prog X.w) X σ (Ex σ)) (hr : Room k X.A) (hg : Gl X x) (ha : PA X (e :: es) t) (hdb : (x == ("__debug__" : Str)) = false := by decide)
    (he : starEach (e :: es) X.env = (false, eval e X.env) :: starEach es X.env := by rfl) (hpl : (backTo pos (starEach es X.env)).any (·.1) = false := by rfl) : PE X (.Call (.Name x p) (e :: es) [] pos) (tCallS sp Ex t) := by
  intro pins s σ H Q I h
  obtain ⟨f, fd, F, hm, hk, hb⟩ := G
  refine wpAny_Call_Name_kw (ld_glob I hg hm ?_ hdb)
  refine PySem.W.callWith_K (h₀ := X.base) I.ok.mod.kin hk (thn (ha pos pins s σ H _ I h) fun us s1 ⟨vs, H1, I1, r, q⟩ => ⟨I1.kIn, ?_⟩) he hpl
  have q' : sp (vs ++ []) H1 Q (Ex σ) := by rw [List.append_nil]; exact q
  have r2 : Vals (vs ++ []) (us ++ []) := r.append .nil
  have hl : (us ++ []).length = ps.length := by rw [← r2.length]; exact F.len _ _ _ _ q'
  refine wpAny_call (codeAny_mono (F.run X.A X.stack s1 H1 ⟨us, []⟩ (us ++ []) (vs ++ []) Q (Ex σ) hr I1.env0 (hb s1 us I1.kIn hl) r2 q') fun r s' hq => ?_)
  cases r with
  | error e => exact hx σ pins H1 s1 e s' I1 hq
  | ok fl =>
    cases fl with
    | ret u => exact I1.after hq
    | next => exact False.elim hq
    | brk => exact False.elim hq
    | cont => exact False.elim hq
end
def exOfS (K : Frag) (C0 : Addr) (i : Nat) (ts : TS) (D : Ends) : St → XK := fun σ' c _ H' =>
  ∃ C, c = .ref C ∧ exmOne K (.ref C) (.ref C0) = some true ∧ ∀ a : Addr, H' a = none → ts (D.gone i) (σ'.set i (some (.ref a))) (upd H' a (.ext (ExcO C a)))
def tTryS (K : Frag) (C0 : Addr) (i : Nat) (tb : (St → XK) → TS) (ts : TS) : TS := fun D σ H => tb (exOfS K C0 i ts D) D σ H
section
variable {X : Cx}
theorem ps_tryS {body suite : List Stmt} {b₀ : Stmt} {x n : Str} {i : Nat} {C0 : Addr} {np hpos pos : Pos} {tb : (St → XK) → TS} {ts : TS} (hfr : X.env.frame = some X.env.locals) (hstk : X.stack = X.env :: X.outer)
    (hN : X.N.Nodup) (hi : X.N[i]? = some n) (hlo : X.env.kindOf n = some .local) (hg : Gl X x) (hm : X.mg x = some (.ref C0))
    (hb : ∀ (pn : List (Addr × Obj)) (E' : Value → Shared → Prop) (Ex : St → XK), (∀ σ, PassesS (CXE X.prog X.w) (X.tr pn E') σ (Ex σ)) → PSs (X.tr pn E') body (tb Ex)) (hs : ∀ a, PSs (X.suite a) (b₀ :: suite) ts)
    (hd : (x == ("__debug__" : Str)) = false := by decide) :
    PS X (.Try body [.ExceptHandler (some (.Name x np)) (some n) (b₀ :: suite) hpos] [] [] pos) (tTryS X.K C0 i tb ts) := by
  intro pins s σ H D I h
  refine wpAny_Try_except ?_
  refine wpAny_mono (hb (X.pn ++ pins) _ _ (fun σ₂ pins₂ H₂ s₂ e s₃ I₂ hc => ?_) [] s σ H D (I.tr _) h) (fun f s₁ q => ?_) fun e s₁ q => q
  · obtain ⟨a, C, t, B, H', rfl, os, bare, un, hok, fr, hn, fl, b1, b3, C', eC, em, k⟩ := hc
    cases eC
    have I₃ : Inv X pins σ₂ H₂ s₂ := I₂.untr
    have un : Un (frs X.stack) [] H₂ H' s₂.heap s₃.heap := un
    have b3 : ∀ b o, s₂.heap.get? b = some o → b ∉ frs X.stack → ∃ o', B.get? b = some o' := b3
    have fl : Heap.FlyingW B X.stack a (.ref C) (.ref t) s₃.heap := fl
    have fl' : Heap.FlyingW B (X.env :: X.outer) a (.ref C) (.ref t) s₃.heap := by rw [← hstk]; exact fl
    refine wpAny_looks_onW (base := B) (outer := X.outer) (by rw [← hstk]; exact I₃.ok.frames) hfr fl' fun h₄ held₄ sm₄ => ?_
    refine wpAny_landsW held₄ fun h₅ fl₅ sm₅ => ?_
    have fl₅' : Heap.FlyingW B X.stack a (.ref C) (.ref t) h₅ := by rw [hstk]; exact fl₅
    have I₅ := (I₃.landed (tk := 0) os bare un hok fr hn fl b1 b3 (sm₄.trans sm₅) fl₅').suite a
    have ty : ExcO C a h₅ := by
      obtain ⟨oe, ws, he, hec, hed, _⟩ := fl₅.first
      exact ⟨oe, ws, he, hec, hed⟩
    refine wpAny_handleBy_cons (codeAny_handlers_test (ld_glob (X := X.suite a) I₅ hg hm ?_ hd)) (by intro q; cases q)
    refine (exm_one (K := X.K) (M := model X.prog X.w) I₅.kIn ty.ty em).here ?_
    refine codeAny_handlers_suite_as ?_
    refine lands_againW fl₅ fun h₆ fl₆ sm₆ => ?_
    have fl₆' : Heap.FlyingW B X.stack a (.ref C) (.ref t) h₆ := by rw [hstk]; exact fl₆
    have I₆ := (I₃.landed (tk := 0) os bare un hok fr hn fl b1 b3 ((sm₄.trans sm₅).trans sm₆) fl₆').suite a
    refine store_ok (X := X.suite a) I₆ hN hi (.inl hlo) (show RelV (.ref a) (.ref a) from rfl) (fun s₇ I₇ => ?_) (.inr hlo)
    refine wpAny_mono (hs a pins s₇ _ _ (D.gone i) I₇ (k a hn)) (fun f s₈ q => ?_) fun _ _ z => False.elim z
    have ok := I.ok
    cases f with
    | next => obtain ⟨σ', H1, J, q⟩ := q; exact (J.unsuite ok).gone hN hi hlo fun s₉ J => ⟨_, _, J, q⟩
    | brk => obtain ⟨σ', H1, J, q⟩ := q; exact (J.unsuite ok).gone hN hi hlo fun s₉ J => ⟨_, _, J, q⟩
    | cont => obtain ⟨σ', H1, J, q⟩ := q; exact (J.unsuite ok).gone hN hi hlo fun s₉ J => ⟨_, _, J, q⟩
    | ret u => obtain ⟨v, σ', H1, J, r, q⟩ := q; exact (J.unsuite ok).gone hN hi hlo fun s₉ J => ⟨v, _, _, J, r, q⟩
  · cases f with
    | next => obtain ⟨σ', H1, J, q⟩ := q; exact wpAny_execs_nil ⟨σ', H1, J.untr, q⟩
    | brk => obtain ⟨σ', H1, J, q⟩ := q; exact ⟨σ', H1, J.untr, q⟩
    | cont => obtain ⟨σ', H1, J, q⟩ := q; exact ⟨σ', H1, J.untr, q⟩
    | ret u => obtain ⟨v, σ', H1, J, r, q⟩ := q; exact ⟨v, σ', H1, J.untr, r, q⟩
end
end L2
namespace L2
open PySem PySem.Spec PyProof.Rows
section
variable {X : Cx} {K : PySem.W.Frag} {o e : Expr} {es : List Expr} {to : TE} {t : TA} {name : Str} {apos cpos : Pos} {T id : String} {r : V → List V → Hp → VK → Prop}
theorem pe_bmK (hK : X.K = K) (pa : PlainAttrs T) (slot : Slot T name id) (hty : typeOf (.builtin id) = pure (.type "method_descriptor")) (hm : MtR X id r) (ho : PE X o to) (ha : PA X (e :: es) t)
    (hbase : attributeBase o name X.env (eval o X.env) = eval o X.env := by rfl)
    (hfew : ((backTo cpos (starEach (e :: es) X.env)).all (fun x => !x.1) && (backToKw cpos (keywordEach [] X.env)).all (fun x => x.1.isSome)
      && decide ((e :: es).length + ([] : List Keyword).length + (if ([] : List Keyword).isEmpty then 0 else 1) < 30)) = true := by rfl)
    (hline : (apos.endLine == cpos.line) = true := by rfl) (hs : starEach (e :: es) X.env = (false, eval e X.env) :: starEach es X.env := by rfl) (hplain : (backTo cpos (starEach es X.env)).any (·.1) = false := by rfl) :
    PE X (.Call (.Attribute o name apos) (e :: es) [] cpos) (tBM K T r to t) := by
  subst hK
  exact pe_bm pa slot hty hm ho ha hbase hfew hline hs hplain
end
end L2
namespace L2
open PySem PySem.Spec PyProof.Rows
inductive AllStr : List Expr → List V → Prop
  | nil : AllStr [] []
  | cons {x : Str} {j} {pos : Pos} {es : List Expr} {vs : List V} : AllStr es vs → AllStr (.Constant (.str x) j pos :: es) (.str x :: vs)
def tVals (vs : List V) : TA := fun _ H Q => Q vs H
theorem pa_all {X : Cx} : ∀ {es : List Expr} {vs : List V}, AllStr es vs → PA X es (tVals vs)
  | _, _, .nil => pa_nil
  | _, _, .cons h => fun pos pins s σ H Q I q => pa_cons pe_str (pa_all h) rfl pos pins s σ H Q I q
end L2
namespace L2
open PySem PySem.Spec PyProof.Rows
theorem swaps_list (es : List Expr) (pos : Pos) (t : Option Expr) (l : Nat) (env : Env) : swapsWith (.List es pos) t l env = pure false := rfl
end L2
namespace L2
open PySem PySem.Spec PyProof.Rows
end L2
namespace K18
open PySem L2 SH
def top (i : Nat) : Stmt := PySem.Challenge.pw_strollhouse_k18_texts_refused.main.body.getD i (.Pass ⟨0, 0, 0, 0⟩)
abbrev s_is_row : Stmt := top 12
abbrev s_is_house : Stmt := top 13
abbrev s_read_row : Stmt := top 16
abbrev s_read : Stmt := top 17
abbrev s_law_cell_at : Stmt := top 19
abbrev s_law_next : Stmt := top 20
abbrev s_law_weight : Stmt := top 21
abbrev s_law_some_house : Stmt := top 22
abbrev s_law_even_house : Stmt := top 23
abbrev s_law_house : Stmt := top 24
abbrev s_law_rows_like : Stmt := top 25
abbrev s_law_which : Stmt := top 26
abbrev s_law_written : Stmt := top 27
abbrev s_law_changed : Stmt := top 28
abbrev s_law_asked : Stmt := top 29
abbrev s_law : Stmt := top 30
theorem sc_is_row : FnScope ["row", "rooms"] ["row", "rooms"] (defScope s_is_row) := ⟨rfl, rfl, rfl, by decide +kernel, rfl, by decide +kernel, by decide +kernel⟩
theorem sc_is_house : FnScope ["table", "rooms"] ["table"] (defScope s_is_house) := ⟨rfl, rfl, rfl, by decide +kernel, rfl, by decide +kernel, by decide +kernel⟩
theorem sc_read_row : FnScope ["line", "words"] ["line"] (defScope s_read_row) := ⟨rfl, rfl, rfl, by decide +kernel, rfl, by decide +kernel, by decide +kernel⟩
theorem sc_read : FnScope ["text", "table"] ["text"] (defScope s_read) := ⟨rfl, rfl, rfl, by decide +kernel, rfl, by decide +kernel, by decide +kernel⟩
theorem sc_law_cell_at : FnScope ["script", "k"] ["script", "k"] (defScope s_law_cell_at) := ⟨rfl, rfl, rfl, by decide +kernel, rfl, by decide +kernel, by decide +kernel⟩
theorem sc_law_next : FnScope ["script", "spot"] ["script", "spot"] (defScope s_law_next) := ⟨rfl, rfl, rfl, by decide +kernel, rfl, by decide +kernel, by decide +kernel⟩
theorem sc_law_weight : FnScope ["cell", "spare"] ["cell", "spare"] (defScope s_law_weight) := ⟨rfl, rfl, rfl, by decide +kernel, rfl, by decide +kernel, by decide +kernel⟩
theorem sc_law_some_house : FnScope ["script", "spot", "many", "spare", "table", "seed", "one", "row", "other"] ["script", "spot", "many"] (defScope s_law_some_house) := ⟨rfl, rfl, rfl, by decide +kernel, rfl, by decide +kernel, by decide +kernel⟩
theorem sc_law_even_house : FnScope ["script", "spot", "many", "table", "one", "other", "cell", "scaled", "row", "often"] ["script", "spot", "many"] (defScope s_law_even_house) := ⟨rfl, rfl, rfl, by decide +kernel, rfl, by decide +kernel, by decide +kernel⟩
theorem sc_law_house : FnScope ["script", "spot", "most", "cell", "many", "table", "one", "there"] ["script", "spot", "most"] (defScope s_law_house) := ⟨rfl, rfl, rfl, by decide +kernel, rfl, by decide +kernel, by decide +kernel⟩
theorem sc_law_rows_like : FnScope ["found", "due", "row"] ["found", "due"] (defScope s_law_rows_like) := ⟨rfl, rfl, rfl, by decide +kernel, rfl, by decide +kernel, by decide +kernel⟩
theorem sc_law_which : FnScope ["e", "low", "told"] ["e"] (defScope s_law_which) := ⟨rfl, rfl, rfl, by decide +kernel, rfl, by decide +kernel, by decide +kernel⟩
theorem sc_law_written : FnScope ["text", "table", "line", "words", "word", "row"] ["text"] (defScope s_law_written) := ⟨rfl, rfl, rfl, by decide +kernel, rfl, by decide +kernel, by decide +kernel⟩
theorem sc_law_changed : FnScope ["text", "cell", "at", "sign"] ["text", "cell"] (defScope s_law_changed) := ⟨rfl, rfl, rfl, by decide +kernel, rfl, by decide +kernel, by decide +kernel⟩
theorem sc_law_asked : FnScope ["text", "told", "e"] ["text"] (defScope s_law_asked) := ⟨rfl, rfl, rfl, by decide +kernel, rfl, by decide +kernel, by decide +kernel⟩
theorem sc_law : FnScope ["script", "table", "text", "cell", "turn", "some", "wide", "due", "found"] ["script"] (defScope s_law) := ⟨rfl, rfl, rfl, by decide +kernel, rfl, by decide +kernel, by decide +kernel⟩
structure Txt (mg : Str → Option Value) : Prop where
  g_len : mg "len" = none
  g_all : mg "all" = none
  g_sum : mg "sum" = none
  g_range : mg "range" = none
  g_list : mg "list" = none
  g_bool : mg "bool" = none
  g_int : mg "int" = none
  g_isinstance : mg "isinstance" = none
  g_str : mg "str" = none
  g_ValueError : mg "ValueError" = none
  c_MOST_ROOMS : ∃ t, mg "MOST_ROOMS" = some (.int 8 t)
  c_MOST_WEIGHT : ∃ t, mg "MOST_WEIGHT" = some (.int 9 t)
section
variable {P : Program} {w : World} {K : PySem.W.Frag} {mg : Str → Option Value} {base : Heap} {f : Addr} {fd : FuncData}
theorem c_cell_at (D : DefAt K mg "_law_cell_at" s_law_cell_at ["script", "k"] f fd) (T : Txt mg) : Callee P w K mg base 1 "_law_cell_at" ["script", "k"] (spCell K) := by
  refine D.ok sc_law_cell_at (fun vs H Q E h => ?_) (fun cdv A outer s H vs Q E hr h => ?_)
  · obtain ⟨a, ns, k, rfl, _⟩ := h
    rfl
  · obtain ⟨a, ns, k, rfl, hs, hk, kk⟩ := h
    refine ⟨_, (pss_cons (ps_if (pt_cmpR op_lt (pv 1) (pe_callB call_len_seq rfl T.g_len PySem.boot_len (pa_cons (pv 0) pa_nil)) (nomark _)) (pss_one (ps_ret (pe_ix ix_list (pv 0) (pv 1) (fun _ _ => rfl)))) pss_nil)
      (pss_one (ps_ret pe_int))), ?_⟩
    refine ⟨_, rfl, _, rfl, a, _, rfl, .inl hs, _, _, rfl, rfl, _, rfl, ?_⟩
    refine ite2 (fun hlt => ?_) (fun _ => ?_)
    · have hlt' : k < ((ns.map V.int).length : Int) := of_decide_eq_true hlt
      rw [List.length_map] at hlt'
      have hn : k.toNat < ns.length := by omega
      have e : (ns.map V.int)[k.toNat]? = some (.int ns[k.toNat]) := by
        rw [List.getElem?_map, List.getElem?_eq_getElem hn]
        rfl
      have e' := atI_nat e
      rw [Int.toNat_of_nonneg hk] at e'
      exact ⟨_, rfl, _, rfl, a, _, k, _, rfl, rfl, hs, e', kk _⟩
    · exact kk 0
theorem c_next (D : DefAt K mg "_law_next" s_law_next ["script", "spot"] f fd) (T : Txt mg) (G_law_cell_at : Callee P w K mg base 1 "_law_cell_at" ["script", "k"] (spCell K)) :
    Callee P w K mg base 2 "_law_next" ["script", "spot"] (spNext K) := by
  refine D.ok sc_law_next (fun vs H Q E h => ?_) (fun cdv A outer s H vs Q E hr h => ?_)
  · obtain ⟨a, p, ns, k, rfl, _⟩ := h
    rfl
  · obtain ⟨a, p, ns, k, rfl, hs, hp, hk, kk⟩ := h
    have B := (Bd.start hs hp hk).next
    refine ⟨_, (pss_cons (ps_asg (pe_op op_add (pe_ix ix_list (pv 1) pe_int (fun _ _ => rfl)) pe_int) (pg_sub (pv 1) pe_int set_list))
      (pss_one (ps_ret (pe_def G_law_cell_at (hr.mono (by decide)) rfl (pa_cons (pv 0) (pa_cons (pe_op op_sub (pe_ix ix_list (pv 1) pe_int (fun _ _ => rfl)) pe_int) pa_nil)))))), ?_⟩
    refine ⟨_, rfl, p, _, 0, _, rfl, rfl, SqL.of hp, rfl, _, _, rfl, rfl, ?_⟩
    refine ⟨_, rfl, p, _, 0, 0, rfl, rfl, hp, rfl, ?_⟩
    refine ⟨_, rfl, _, rfl, p, _, 0, _, rfl, rfl, SqL.of upd_same, rfl, _, _, rfl, rfl, ?_⟩
    refine ⟨a, ns, _, rfl, B.sc.seq, by omega, fun n => ?_⟩
    exact kk n
theorem c_weight (D : DefAt K mg "_law_weight" s_law_weight ["cell", "spare"] f fd) (T : Txt mg) : Callee P w K mg base 1 "_law_weight" ["cell", "spare"] spWeight := by
  refine D.ok sc_law_weight (fun vs H Q E h => ?_) (fun cdv A outer s H vs Q E hr h => ?_)
  · obtain ⟨c, x, rfl, _⟩ := h
    rfl
  · obtain ⟨c, x, rfl, kk⟩ := h
    refine ⟨_, (pss_cons (ps_if (pt_cmpR op_lt (pe_op op_mod (pv 0) pe_int) (pv 1) (nomark _)) (pss_one (ps_ret pe_int)) pss_nil)
      (pss_cons (ps_if (pt_cmpR op_eq (pe_op op_mod (pe_op op_fdiv (pv 0) pe_int) pe_int) pe_int (nomark _)) (pss_one (ps_ret pe_int)) pss_nil)
      (pss_one (ps_ret (pe_op op_add pe_int (pe_op op_mod (pe_op op_fdiv (pv 0) pe_int) pe_int)))))), ?_⟩
    refine ⟨_, rfl, _, _, rfl, rfl, (by show (0 : Int) < 7; decide), _, rfl, _, _, rfl, rfl, _, rfl, ?_⟩
    refine ite2 (fun _ => kk 0 (by decide) (by decide)) (fun _ => ?_)
    refine ⟨_, rfl, _, _, rfl, rfl, ⟨by decide, by decide⟩, _, _, rfl, rfl, (by show (0 : Int) < 3; decide), rfl, _, rfl, ?_⟩
    refine ite2 (fun _ => kk 1 (by decide) (by decide)) (fun _ => ?_)
    refine ⟨_, rfl, _, _, rfl, rfl, ⟨by decide, by decide⟩, _, _, rfl, rfl, (by show (0 : Int) < 9; decide), _, _, rfl, rfl, ?_⟩
    exact kk _ (by omega) (by omega)
def wtB (x : Int) : Bool := decide (0 ≤ x) && decide (x ≤ 9)
def rowB (m : Int) (row : List Int) : Bool := decide ((row.length : Int) = m) && (row.all wtB && decide (0 < row.sum))
def houseB (t : List (List Int)) : Bool := (decide (1 ≤ (t.length : Int)) && decide ((t.length : Int) ≤ 8)) && t.all (rowB t.length)
def spIsRow : Sp := fun vs H Q _ => ∃ (r : Addr) (row : List Int) (m : Int), vs = [.ref r, .int m] ∧ H r = some (.lst (row.map V.int)) ∧ row.length ≤ 1000 ∧ ∀ H', Same H H' → Q (.bl (rowB m row)) H'
def spIsHouse : Sp := fun vs H Q _ => ∃ (q : Addr) (rs : List Addr) (t : List (List Int)), vs = [.ref q] ∧ Tab H q rs t ∧ Small 1000 t ∧ ∀ H', Same H H' → Q (.bl (houseB t)) H'
theorem small_line {n : Nat} (h : n ≤ 1000) : n ≤ sizeLine := Nat.le_of_lt (small1000 h)
def chkV : V → V
  | .int x => .bl (wtB x)
  | _ => .non
theorem map_chk (row : List Int) : (((row.map V.int).filter fun _ => true).map chkV) = (row.map wtB).map V.bl := by
  induction row with
  | nil => rfl
  | cons x r ih =>
    simp only [List.map_cons, List.filter_cons, if_true] at ih ⊢
    rw [ih]
    rfl
theorem all_map_id (l : List Int) (f : Int → Bool) : (l.map f).all id = l.all f := by rw [List.all_map]; rfl
theorem c_is_row (D : DefAt K mg "is_row" s_is_row ["row", "rooms"] f fd) (T : Txt mg) : Callee P w K mg base 1 "is_row" ["row", "rooms"] spIsRow := by
  refine D.ok sc_is_row (fun vs H Q E h => ?_) (fun cdv A outer s H vs Q E hr h => ?_)
  · obtain ⟨r, row, m, rfl, _⟩ := h
    rfl
  · obtain ⟨r, row, m, rfl, hrow, hlen, kk⟩ := h
    have hs : SqL K H r (row.map V.int) := SqL.of hrow
    refine ⟨_, (pss_one (ps_ret (pe_and (pe_cmpR op_eq (pe_callB call_len_seq rfl T.g_len PySem.boot_len (pa_cons (pv 0) pa_nil)) (pv 1) (nomark _)) (pe_and (pe_callB (call_allB rfl) rfl T.g_all PyProof.Rows.boot_all (pa_cons (pe_comp (N := ["weight"]) (ix := [none]) rfl (CompOk.of (by rfl)) (pi_list (pv 0)) (fun _ _ _ _ => (pg_name (i := 0) (show List.Nodup (["weight"] : List Str) by decide +kernel) rfl (Or.inl rfl))) (fun _ _ _ _ => pts_nil) (fun _ _ _ _ => (pe_chain op_le op_le pe_int (pv 0) (pe_globI rfl T.c_MOST_WEIGHT)))) pa_nil)) (pe_one (pe_cmpR op_gt (pe_callB (call_sumI rfl) rfl T.g_sum PyProof.Rows.boot_sum (pa_cons (pv 0) pa_nil)) pe_int (nomark _))))))), ?_⟩
    refine ⟨_, rfl, r, _, rfl, .inl hs, _, rfl, rfl, _, rfl, ?_⟩
    refine ite2 (fun h1 => ?_) (fun h1 => ?_)
    · have e1 : (row.length : Int) = m := by
        have := V.int.inj (of_decide_eq_true h1)
        rwa [List.length_map] at this
      refine ⟨_, rfl, r, rfl, ⟨_, hs⟩, fun Dl hD => comp_pure (fun _ => true) chkV (by rw [List.length_map]; exact small_line hlen) hs hD (fun x _ ys R h => h) (fun x hx _ ys R h => ?_) ?_⟩
      · obtain ⟨y, _, rfl⟩ := List.mem_map.mp hx
        refine ⟨_, rfl, _, _, rfl, rfl, _, rfl, ?_⟩
        refine ite2 (fun h0 => ⟨_, _, rfl, rfl, ?_⟩) (fun h0 => ?_)
        · have e : wtB y = decide (y ≤ 9) := by unfold wtB; rw [h0]; rfl
          exact blq (h) e
        · have e : wtB y = false := by
            unfold wtB
            rw [Bool.eq_false_iff.mpr h0]
            rfl
          exact blq (h) e
      · rw [map_chk]
        refine ⟨Dl, row.map wtB, rfl, SqL.of upd_same, _, rfl, ?_⟩
        rw [all_map_id]
        have sm : Same H (upd H Dl (.lst ((row.map wtB).map V.bl))) := Same.upd_new hD
        refine ite2 (fun h2 => ?_) (fun h2 => ?_)
        · refine ⟨_, rfl, r, row, rfl, SqL.of (sm _ _ hrow), _, _, rfl, rfl, ?_⟩
          have e : rowB m row = decide (0 < row.sum) := by unfold rowB; rw [decide_eq_true e1, h2]; rfl
          exact blq (kk _ sm) e
        · have e : rowB m row = false := by unfold rowB; rw [Bool.eq_false_iff.mpr h2, Bool.false_and, Bool.and_false]
          exact blq (kk _ sm) e
    · have e : rowB m row = false := by
        unfold rowB
        rw [decide_eq_false, Bool.false_and]
        intro z
        refine h1 (decide_eq_true ?_)
        rw [List.length_map, z]
      exact blq (kk H (Same.refl H)) e
theorem c_is_house (D : DefAt K mg "is_house" s_is_house ["table"] f fd) (T : Txt mg) (G_is_row : Callee P w K mg base 1 "is_row" ["row", "rooms"] spIsRow) : Callee P w K mg base 2 "is_house" ["table"] spIsHouse := by
  refine D.ok sc_is_house (fun vs H Q E h => ?_) (fun cdv A outer s H vs Q E hr h => ?_)
  · obtain ⟨q, rs, t, rfl, _⟩ := h
    rfl
  · obtain ⟨q, rs, t, rfl, tab, sm, kk⟩ := h
    have hl : rs.length = t.length := tab.len
    have hq : SqL K H q (rs.map V.ref) := SqL.of tab.top
    have hlm : (rs.map V.ref).length = t.length := by rw [List.length_map]; exact hl
    refine ⟨_, (pss_cons (ps_set (i := 1) sc_is_house.nd rfl (Or.inr rfl) (pe_callB call_len_seq rfl T.g_len PySem.boot_len (pa_cons (pv 0) pa_nil)))
      (pss_one (ps_ret (pe_and (pe_chain op_le op_le pe_int (pv 1) (pe_globI rfl T.c_MOST_ROOMS)) (pe_one (pe_callB (call_allB rfl) rfl T.g_all PyProof.Rows.boot_all (pa_cons (pe_comp (N := ["row", "rooms"]) (ix := [none, some 1]) rfl (CompOk.of (by rfl)) (pi_list (pv 0)) (fun _ _ _ _ => (pg_name (i := 0) (show List.Nodup (["row", "rooms"] : List Str) by decide +kernel) rfl (Or.inl rfl))) (fun _ _ _ _ => pts_nil) (fun _ _ _ _ => (pe_def G_is_row (hr.mono (by decide)) rfl (pa_cons (pv 0) (pa_cons (pv 1) pa_nil))))) pa_nil))))))), ?_⟩
    refine ⟨_, rfl, q, _, rfl, .inl hq, ?_⟩
    refine ⟨_, rfl, _, _, rfl, rfl, _, rfl, ?_⟩
    rw [hlm]
    refine ite2 (fun h1 => ⟨_, _, rfl, rfl, ?_⟩) (fun h1 => ?_)
    · refine ⟨_, rfl, ?_⟩
      refine ite2 (fun h2 => ?_) (fun h2 => ?_)
      · refine ⟨_, rfl, q, rfl, ⟨_, hq⟩, fun Dl hD => comp_list (xs := rs.map V.ref) (fun i ys H' => ys = (t.take i).map (fun row => V.bl (rowB t.length row)) ∧ Same H H' ∧ H' Dl = some (.lst ys))
          (by rw [hlm]; exact small_line sm.1) ⟨by simp, Same.upd_new hD, upd_same⟩ (fun i ys H' hi ⟨e, s1, e2⟩ => ⟨s1.seq hq, by rw [e, List.length_map, List.length_take]; omega⟩) ?_ ?_⟩
        · rintro i x ys H' hx ⟨e, s1, e2⟩
          obtain ⟨r, hr', rfl⟩ : ∃ r, rs[i]? = some r ∧ x = V.ref r := by
            rw [List.getElem?_map] at hx
            cases z : rs[i]? with
            | none => rw [z] at hx; cases hx
            | some r => rw [z] at hx; exact ⟨r, rfl, (Option.some.inj hx).symm⟩
          obtain ⟨row, h3, h4⟩ := pr_get tab.rows hr'
          refine ⟨_, rfl, _, rfl, r, row, _, rfl, s1 _ _ h4, sm.2 row (List.mem_of_getElem? h3), fun H4 s4 => ⟨s4 _ _ e2, ?_, ?_, upd_same⟩⟩
          · rw [e, List.take_add_one, h3]
            simp
          · intro b o hb
            have hb' : b ≠ Dl := ne_of_none hb hD
            rw [upd_ne hb']
            exact s4 _ _ (s1 _ _ hb)
        · rintro ys H' ⟨e, s1, e2⟩
          rw [hlm, List.take_length] at e
          have e' : ys = (t.map (rowB t.length)).map V.bl := by rw [e, List.map_map]; rfl
          subst e'
          refine ⟨Dl, t.map (rowB t.length), rfl, SqL.of e2, ?_⟩
          have ev : houseB t = (t.map (rowB t.length)).all id := by
            unfold houseB
            rw [h1, h2, List.all_map]
            rfl
          exact blq (kk _ s1) ev
      · have ev : houseB t = false := by unfold houseB; rw [Bool.eq_false_iff.mpr h2, Bool.and_false, Bool.false_and]
        exact blq (kk _ (Same.refl H)) ev
    · refine ⟨_, rfl, iteF ?_⟩
      have ev : houseB t = false := by unfold houseB; rw [Bool.eq_false_iff.mpr h1, Bool.false_and, Bool.false_and]
      exact blq (kk _ (Same.refl H)) ev
theorem sum_pos' : ∀ {l : List Int}, (∀ x ∈ l, 0 ≤ x) → 0 ≤ l.sum ∧ ((∃ x ∈ l, x ≠ 0) → 0 < l.sum)
  | [], _ => ⟨Int.le_refl 0, fun ⟨_, h, _⟩ => absurd h (by simp)⟩
  | x :: l, h => by
    obtain ⟨h1, h2⟩ := sum_pos' (l := l) fun y hy => h y (List.mem_cons_of_mem _ hy)
    have hx := h x List.mem_cons_self
    rw [List.sum_cons]
    refine ⟨by omega, fun ⟨y, hy, y0⟩ => ?_⟩
    rcases List.mem_cons.mp hy with rfl | hy
    · omega
    · have := h2 ⟨y, hy, y0⟩
      omega
theorem c_some_house (D : DefAt K mg "_law_some_house" s_law_some_house ["script", "spot", "many"] f fd) (T : Txt mg) (G_law_next : Callee P w K mg base 2 "_law_next" ["script", "spot"] (spNext K))
    (G_law_weight : Callee P w K mg base 1 "_law_weight" ["cell", "spare"] spWeight) : Callee P w K mg base 3 "_law_some_house" ["script", "spot", "many"] (spMake K) := by
  refine D.ok sc_law_some_house (fun vs H Q E h => ?_) (fun cdv A outer s H vs Q E hr h => ?_)
  · obtain ⟨a, p, ns, k, m, rfl, _⟩ := h
    rfl
  · obtain ⟨a, p, ns, k, m', rfl, hs, hp, hk, m1, m8, kk⟩ := h
    obtain ⟨m, rfl⟩ := Int.eq_ofNat_of_zero_le (show 0 ≤ m' by omega)
    have B0 := Bd.start hs hp hk
    refine ⟨_, (pss_cons (ps_set (i := 3) sc_law_some_house.nd rfl (Or.inl rfl) (pe_op op_mod (pe_def G_law_next (hr.mono (by decide)) rfl (pa_cons (pv 0) (pa_cons (pv 1) pa_nil))) pe_int))
      (pss_cons (ps_set (i := 4) sc_law_some_house.nd rfl (Or.inl rfl) (pe_lst pa_nil))
      (pss_cons (ps_set (i := 5) sc_law_some_house.nd rfl (Or.inl rfl) pe_int)
      (pss_cons (ps_for PassesOwn.never rfl (pi_range1 rfl T.g_range (pa_cons (pv 2) pa_nil)) (pg_name (i := 6) sc_law_some_house.nd rfl (Or.inl rfl))
      (pss_cons (ps_set (i := 7) sc_law_some_house.nd rfl (Or.inl rfl) (pe_lst pa_nil))
      (pss_cons (ps_for PassesOwn.never rfl (pi_range1 rfl T.g_range (pa_cons (pv 2) pa_nil)) (pg_name (i := 8) sc_law_some_house.nd rfl (Or.inl rfl))
      (pss_cons (ps_set (i := 5) sc_law_some_house.nd rfl (Or.inl rfl) (pe_op op_fdiv (pv 5) pe_int))
      (pss_cons (ps_if (pt_cmpR op_eq (pe_op op_mod (pe_op op_add (pe_op op_mul (pv 2) (pv 6)) (pv 8)) pe_int) pe_int (nomark _)) (pss_one (ps_set (i := 5) sc_law_some_house.nd rfl (Or.inl rfl) (pe_op op_add (pe_def G_law_next (hr.mono (by decide)) rfl (pa_cons (pv 0) (pa_cons (pv 1) pa_nil))) (pe_op op_mul pe_int (pe_op op_add (pe_op op_mul (pv 2) (pv 6)) (pv 8)))))) pss_nil)
      (pss_one (ps_expr (pe_bm PySem.F.plainAttrs_list PySem.F.slot_list_append PySem.F.type_list_append mt_append (pv 7) (pa_cons (pe_def G_law_weight (hr.mono (by decide)) rfl (pa_cons (pv 5) (pa_cons (pv 3) pa_nil))) pa_nil)))))))
      (pss_cons (ps_if (pt_cmpR op_eq (pe_callB (call_sumI rfl) rfl T.g_sum PyProof.Rows.boot_sum (pa_cons (pv 7) pa_nil)) pe_int (nomark _)) (pss_one (ps_asg (pe_op op_add pe_int (pe_op op_mod (pe_def G_law_next (hr.mono (by decide)) rfl (pa_cons (pv 0) (pa_cons (pv 1) pa_nil))) pe_int)) (pg_sub (pv 7) (pe_op op_mod (pe_def G_law_next (hr.mono (by decide)) rfl (pa_cons (pv 0) (pa_cons (pv 1) pa_nil))) (pv 2)) set_list))) pss_nil)
      (pss_one (ps_expr (pe_bm PySem.F.plainAttrs_list PySem.F.slot_list_append PySem.F.type_list_append mt_append (pv 4) (pa_cons (pv 7) pa_nil))))))))
      (pss_one (ps_ret (pv 4))))))), ?_⟩
    refine ⟨_, rfl, _, rfl, a, p, ns, k, rfl, hs, hp, hk, fun n0 => ⟨_, _, rfl, rfl, (by show (0 : Int) < 6; decide), Nat.zero_le _, fun q hq => ?_⟩⟩
    have B1 := B0.next
    have B2 := B1.new (o := .lst []) hq
    have O2 : Own H (upd (upd H p (.lst [.int (k + 1)])) q (.lst [])) q [] [] := ⟨⟨upd_same, .nil, List.nodup_nil⟩, B1.old hq, fun r hr => absurd hr (by simp)⟩
    refine ⟨_, rfl, _, rfl, by omega, by omega, for_range (lo := 0) (n := m) (fun i σ H' => ∃ (k' : Int) (rs : List Addr) (t : List (List Int)) (sd : Int) (o1 o2 o3 : Option V),
      σ = [some (.ref a), some (.ref p), some (.int m), some (.int (n0 % 6)), some (.ref q), some (.int sd), o1, o2, o3] ∧ Bd K H a ns p H' k' ∧ Own H H' q rs t ∧ t.length = i ∧ ∀ row ∈ t, GoodRow m row)
      ⟨_, [], [], 0, none, none, none, rfl, B2, O2, rfl, by simp⟩ ?_ ?_⟩
    · rintro i σ H' hi ⟨k', rs, t, sd, o1, o2, o3, rfl, B, O, hl, hg⟩
      refine ⟨Nat.zero_le _, fun r hr' => ?_⟩
      have r0 := B.old hr'
      obtain ⟨nrs, nrq⟩ := O.notIn hr'
      refine ⟨_, rfl, _, rfl, by omega, by omega, for_range (lo := 0) (n := m) (fun j σ H2 => ∃ (k2 : Int) (ws : List Int) (sd2 : Int) (o4 : Option V),
        σ = [some (.ref a), some (.ref p), some (.int m), some (.int (n0 % 6)), some (.ref q), some (.int sd2), some (.int (0 + (i : Nat))), some (.ref r), o4] ∧ Bd K H a ns p H2 k2 ∧ Own H H2 q rs t ∧
        H2 r = some (.lst (ws.map V.int)) ∧ ws.length = j ∧ ∀ x ∈ ws, 0 ≤ x ∧ x ≤ 9) ⟨_, [], sd, o3, rfl, B.new hr', O.new hr', upd_same, rfl, by simp⟩ ?_ ?_⟩
      · rintro j σ H2 hj ⟨k2, ws, sd2, o4, rfl, B2, O2, hrow, hlj, hw⟩
        refine ⟨_, rfl, _, _, rfl, rfl, ⟨by decide, by decide⟩, ?_⟩
        refine ⟨_, rfl, _, rfl, _, _, rfl, rfl, .inl ⟨by omega, by omega⟩, _, rfl, _, _, rfl, rfl, _, _, rfl, rfl, (by show (0 : Int) < 2; decide), rfl, _, rfl, ?_⟩
        refine ite2 (fun _ => ?_) (fun _ => ?_)
        · refine ⟨_, rfl, _, rfl, a, p, ns, k2, rfl, B2.sc, B2.spot, B2.k0, fun n1 => ?_⟩
          have hrow' : upd H2 p (.lst [.int (k2 + 1)]) r = some (.lst (ws.map V.int)) := by rw [upd_ne (B2.ne r0)]; exact hrow
          refine ⟨_, rfl, _, rfl, _, _, rfl, rfl, .inl ⟨by omega, by omega⟩, _, rfl, _, _, rfl, rfl, _, _, rfl, rfl, .inl ⟨by decide, by decide⟩, _, _, rfl, rfl, ?_⟩
          refine ⟨_, rfl, .inl ⟨rfl, _, SqL.of hrow'⟩, _, rfl, _, rfl, _, _, rfl, fun x x0 x9 => ⟨r, _, _, rfl, rfl, hrow', small1000 (by rw [List.length_map]; omega), ?_⟩⟩
          refine ⟨_, ws ++ [x], _, _, rfl, B2.next.own r0, (Own.spot B2 O2).mine nrs nrq, ?_, by rw [List.length_append, hlj]; rfl, fun y hy => ?_⟩
          · rw [upd_same, List.map_append]; rfl
          · rcases List.mem_append.mp hy with hy | hy
            · exact hw y hy
            · rw [List.mem_singleton.mp hy]; exact ⟨x0, x9⟩
        · refine ⟨_, rfl, .inl ⟨rfl, _, SqL.of hrow⟩, _, rfl, _, rfl, _, _, rfl, fun x x0 x9 => ⟨r, _, _, rfl, rfl, hrow, small1000 (by rw [List.length_map]; omega), ?_⟩⟩
          refine ⟨_, ws ++ [x], _, _, rfl, B2.own r0, O2.mine nrs nrq, ?_, by rw [List.length_append, hlj]; rfl, fun y hy => ?_⟩
          · rw [upd_same, List.map_append]; rfl
          · rcases List.mem_append.mp hy with hy | hy
            · exact hw y hy
            · rw [List.mem_singleton.mp hy]; exact ⟨x0, x9⟩
      · rintro σ H2 ⟨k2, ws, sd2, o4, rfl, B2, O2, hrow, hlm, hw⟩
        have push : ∀ {H3 : Hp} {k3 : Int} {ws3 : List Int}, Bd K H a ns p H3 k3 → Own H H3 q rs t → H3 r = some (.lst (ws3.map V.int)) → GoodRow m ws3 →
            (Bd K H a ns p (upd H3 q (.lst (rs.map V.ref ++ [.ref r]))) k3 ∧ Own H (upd H3 q (.lst (rs.map V.ref ++ [.ref r]))) q (rs ++ [r]) (t ++ [ws3]) ∧ (t ++ [ws3]).length = i + 1 ∧ ∀ row ∈ t ++ [ws3], GoodRow m row) := by
          intro H3 k3 ws3 B3 O3 e3 g3
          have e : rs.map V.ref ++ [.ref r] = (rs ++ [r]).map V.ref := by rw [List.map_append]; rfl
          rw [e]
          refine ⟨B3.own O3.nq, O3.push e3 r0 nrs nrq, by rw [List.length_append, hl]; rfl, fun row hrw => ?_⟩
          rcases List.mem_append.mp hrw with h | h
          · exact hg row h
          · rw [List.mem_singleton.mp h]; exact g3
        have tl : rs.length < 1000 := by rw [O.tab.len]; omega
        refine ⟨_, rfl, r, ws, rfl, SqL.of hrow, rfl, _, rfl, ?_⟩
        refine ite2 (fun _ => ?_) (fun hsum => ?_)
        · -- row[next % many] = 1 + next % 9
          refine ⟨_, rfl, _, rfl, a, p, ns, k2, rfl, B2.sc, B2.spot, B2.k0, fun n1 => ⟨_, _, rfl, rfl, (by show (0 : Int) < 9; decide), _, _, rfl, rfl, ?_⟩⟩
          refine ⟨_, rfl, _, rfl, _, rfl, a, p, ns, k2 + 1, rfl, B2.next.sc, B2.next.spot, B2.next.k0, fun n2 => ⟨_, rfl, _, _, rfl, rfl, (by show (0 : Int) < m; omega), ?_⟩⟩
          have B4 := B2.next.next
          have O4 := Own.spot (o := .lst [.int (k2 + 1 + 1)]) B2.next (Own.spot (o := .lst [.int (k2 + 1)]) B2 O2)
          have hrow4 : upd (upd H2 p (.lst [.int (k2 + 1)])) p (.lst [.int (k2 + 1 + 1)]) r = some (.lst (ws.map V.int)) := by rw [upd_ne (B2.ne r0), upd_ne (B2.ne r0)]; exact hrow
          have b1 : 0 ≤ n2 % (m : Int) := Int.emod_nonneg _ (by omega)
          have b2 : n2 % (m : Int) < m := Int.emod_lt_of_pos _ (by omega)
          refine ⟨r, _, _, _, rfl, rfl, hrow4, ixN_of b1 (by rw [List.length_map]; omega), ?_⟩
          rw [SH.set_map]
          have B5 := B4.own (o := .lst ((ws.set (n2 % (m : Int)).toNat (1 + n1 % 9)).map V.int)) r0
          have O5 := O4.mine (o := .lst ((ws.set (n2 % (m : Int)).toNat (1 + n1 % 9)).map V.int)) nrs nrq
          refine ⟨_, rfl, .inl ⟨rfl, _, O5.sq⟩, _, rfl, q, _, _, rfl, rfl, O5.tab.top, small1000 (by rw [List.length_map]; omega), ?_⟩
          obtain ⟨z1, z2, z3, z4⟩ := push B5 O5 upd_same (GoodRow.set hlm hw (by omega) (by omega) (by omega))
          exact ⟨_, _, _, _, _, _, _, rfl, z1, z2, z3, z4⟩
        · have g : GoodRow m ws := ⟨hlm, hw, nonzero_of_sum fun z => hsum (by rw [z]; rfl)⟩
          refine ⟨_, rfl, .inl ⟨rfl, _, O2.sq⟩, _, rfl, q, _, _, rfl, rfl, O2.tab.top, small1000 (by rw [List.length_map]; omega), ?_⟩
          obtain ⟨z1, z2, z3, z4⟩ := push B2 O2 hrow g
          exact ⟨_, _, _, _, _, _, _, rfl, z1, z2, z3, z4⟩
    · rintro σ H' ⟨k', rs, t, sd, o1, o2, o3, rfl, B, O, hl, hg⟩
      exact ⟨_, rfl, kk H' q rs t k' B O ⟨by omega, by omega, fun row h => hl ▸ hg row h⟩ (by rw [hl])⟩
theorem c_even_house (D : DefAt K mg "_law_even_house" s_law_even_house ["script", "spot", "many"] f fd) (T : Txt mg) (G_law_next : Callee P w K mg base 2 "_law_next" ["script", "spot"] (spNext K)) :
    Callee P w K mg base 3 "_law_even_house" ["script", "spot", "many"] (spMake K) := by
  refine D.ok sc_law_even_house (fun vs H Q E h => ?_) (fun cdv A outer s H vs Q E hr h => ?_)
  · obtain ⟨a, p, ns, k, m, rfl, _⟩ := h
    rfl
  · obtain ⟨a, p, ns, k, m', rfl, hs, hp, hk, m1, m8, kk⟩ := h
    obtain ⟨m, rfl⟩ := Int.eq_ofNat_of_zero_le (show 0 ≤ m' by omega)
    have B0 := Bd.start hs hp hk
    have ml : m ≤ sizeLine := small_line (by omega)
    refine ⟨_, (pss_cons (ps_comp (i := 3) (N := ["one", "many"]) (ix := [none, some 2]) sc_law_even_house.nd rfl rfl rfl (CompOk.of (by rfl)) (pi_range1 rfl T.g_range (pa_cons (pv 2) pa_nil)) (fun _ _ _ _ => (pg_name (i := 0) (show List.Nodup (["one", "many"] : List Str) by decide +kernel) rfl (Or.inl rfl))) (fun _ _ _ _ => pts_nil) (fun _ _ _ _ => (pe_comp (N := ["other"]) (ix := [none]) rfl (CompOk.of (by rfl)) (pi_range1 rfl T.g_range (pa_cons (pv 1) pa_nil)) (fun _ _ _ _ => (pg_name (i := 0) (show List.Nodup (["other"] : List Str) by decide +kernel) rfl (Or.inl rfl))) (fun _ _ _ _ => pts_nil) (fun _ _ _ _ => pe_int))))
      (pss_cons (ps_for PassesOwn.never rfl (pi_range1 rfl T.g_range (pa_cons (pv 2) pa_nil)) (pg_name (i := 4) sc_law_even_house.nd rfl (Or.inl rfl))
      (pss_cons (ps_for PassesOwn.never rfl (pi_range1 rfl T.g_range (pa_cons (pe_op op_add (pv 4) pe_int) pa_nil)) (pg_name (i := 5) sc_law_even_house.nd rfl (Or.inl rfl))
      (pss_cons (ps_set (i := 6) sc_law_even_house.nd rfl (Or.inl rfl) (pe_op op_add (pe_def G_law_next (hr.mono (by decide)) rfl (pa_cons (pv 0) (pa_cons (pv 1) pa_nil))) (pe_op op_mul pe_int (pe_op op_add (pe_op op_mul (pv 2) (pv 4)) (pv 5)))))
      (pss_cons (ps_asg (pe_ix ix_list (pe_lst (pa_cons pe_int (pa_cons pe_int (pa_cons pe_int (pa_cons pe_int (pa_cons pe_int pa_nil)))))) (pe_op op_mod (pv 6) pe_int) (fun _ _ => rfl)) (pg_sub (pe_ix ix_list (pv 3) (pv 4) (fun _ _ => rfl)) (pv 5) set_list))
      (pss_one (ps_asg (pe_ix ix_list (pe_ix ix_list (pv 3) (pv 4) (fun _ _ => rfl)) (pv 5) (fun _ _ => rfl)) (pg_sub (pe_ix ix_list (pv 3) (pv 5) (fun _ _ => rfl)) (pv 4) set_list))))))
      (pss_one (ps_if (PW.pt (pw_and (pt_cmpR op_gt (pv 4) pe_int (nomark _)) (pw_and1 (pt_cmpR op_eq (pe_callB (call_sumI rfl) rfl T.g_sum PyProof.Rows.boot_sum (pa_cons (pe_slice sl_list (pe_ix ix_list (pv 3) (pv 4) (fun _ _ => rfl)) po_none (po_some (pv 4))) pa_nil)) pe_int (nomark _))))) (pss_cons (ps_asg pe_int (pg_sub (pe_ix ix_list (pv 3) (pv 4) (fun _ _ => rfl)) (pe_op op_sub (pv 4) pe_int) set_list))
      (pss_one (ps_asg pe_int (pg_sub (pe_ix ix_list (pv 3) (pe_op op_sub (pv 4) pe_int) (fun _ _ => rfl)) (pv 4) set_list)))) pss_nil))))
      (pss_cons (ps_if (pt_cmpR op_eq (pe_callB (call_sumI rfl) rfl T.g_sum PyProof.Rows.boot_sum (pa_cons (pe_ix ix_list (pv 3) pe_int (fun _ _ => rfl)) pa_nil)) pe_int (nomark _)) (pss_one (ps_asg pe_int (pg_sub (pe_ix ix_list (pv 3) pe_int (fun _ _ => rfl)) pe_int set_list))) pss_nil)
      (pss_cons (ps_set (i := 7) sc_law_even_house.nd rfl (Or.inl rfl) (pe_lst pa_nil))
      (pss_cons (ps_for PassesOwn.never rfl (pi_list (pv 3)) (pg_name (i := 8) sc_law_even_house.nd rfl (Or.inl rfl))
      (pss_cons (ps_set (i := 9) sc_law_even_house.nd rfl (Or.inr rfl) (pe_op op_add pe_int (pe_op op_mod (pe_def G_law_next (hr.mono (by decide)) rfl (pa_cons (pv 0) (pa_cons (pv 1) pa_nil))) pe_int)))
      (pss_one (ps_expr (pe_bm PySem.F.plainAttrs_list PySem.F.slot_list_append PySem.F.type_list_append mt_append (pv 7) (pa_cons (pe_comp (N := ["weight", "often"]) (ix := [none, some 9]) rfl (CompOk.of (by rfl)) (pi_list (pv 8)) (fun _ _ _ _ => (pg_name (i := 0) (show List.Nodup (["weight", "often"] : List Str) by decide +kernel) rfl (Or.inl rfl))) (fun _ _ _ _ => pts_nil) (fun _ _ _ _ => (pe_op op_mul (pv 0) (pv 1)))) pa_nil))))))
      (pss_one (ps_ret (pv 7)))))))), ?_⟩
    refine ⟨_, rfl, _, rfl, by omega, by omega, fun q hq => comp_range (n := m) (fun i ys H' => ∃ rs : List Addr, ys = rs.map V.ref ∧ Same H H' ∧ H' q = some (.lst ys) ∧ rs.Nodup ∧ rs.length = i ∧
        ∀ r ∈ rs, H r = none ∧ r ≠ q ∧ H' r = some (.lst ((List.replicate m (0 : Int)).map V.int))) ml ⟨[], rfl, Same.upd_new hq, upd_same, List.nodup_nil, rfl, by simp⟩
        (fun i ys H' _ ⟨rs, e, _, _, _, hl, _⟩ => by rw [e, List.length_map, hl]; exact Nat.le_refl _) ?_ ?_⟩
    · rintro i ys H' hi ⟨rs, rfl, s1, e1, nd, hl, hrs⟩
      refine ⟨_, rfl, _, rfl, by omega, by omega, fun r hr' => comp_range (n := m) (fun j zs H2 => zs = (List.replicate j (0 : Int)).map V.int ∧ H2 = upd H' r (.lst zs)) ml ⟨rfl, rfl⟩
        (fun j zs H2 _ ⟨e, _⟩ => by rw [e, List.length_map, List.length_replicate]; exact Nat.le_refl _) ?_ ?_⟩
      · rintro j zs H2 hj ⟨rfl, rfl⟩
        refine ⟨upd_same, ?_, by rw [upd_upd]⟩
        rw [List.replicate_succ', List.map_append]
        rfl
      · rintro zs H2 ⟨rfl, rfl⟩
        have nq : q ≠ r := fun z => by rw [← z, e1] at hr'; cases hr'
        have nrs : r ∉ rs := fun z => by rw [(hrs r z).2.2] at hr'; cases hr'
        have hr0 : H r = none := s1.free hr'
        refine ⟨by rw [upd_ne nq]; exact e1, rs ++ [r], by rw [List.map_append]; rfl, ?_, upd_same, ?_, by rw [List.length_append, hl]; rfl, fun x hx => ?_⟩
        · intro b o hb
          rw [upd_ne (ne_of_none hb hq), upd_ne (ne_of_none hb hr0)]
          exact s1 _ _ hb
        · exact List.nodup_append.mpr ⟨nd, by simp, fun a ha b hb => by
            rw [List.mem_singleton.mp hb]
            exact fun z => nrs (z ▸ ha)⟩
        · rcases List.mem_append.mp hx with h | h
          · obtain ⟨h1, h2, h3⟩ := hrs x h
            refine ⟨h1, h2, ?_⟩
            rw [upd_ne h2, upd_ne (show x ≠ r from fun z => nrs (z ▸ h))]
            exact h3
          · rw [List.mem_singleton.mp h]
            exact ⟨hr0, Ne.symm nq, by rw [upd_ne (Ne.symm nq), upd_same]⟩
    rintro ys H1 ⟨rs, rfl, s1, e1, nd, hl, hrs⟩
    have nqr : ∀ {b : Addr} {o : HO}, H b = some o → H1 b = some o := fun h => s1 _ _ h
    have B1 : Bd K H a ns p H1 k := ⟨hs, ⟨_, hp⟩, Ext.same s1 _, s1 _ _ hp, hk⟩
    have pr : Paired (IsRow H1) rs (List.replicate m (List.replicate m (0 : Int))) := by
      have key : ∀ (l : List Addr), (∀ r ∈ l, H1 r = some (.lst ((List.replicate m (0 : Int)).map V.int))) → Paired (IsRow H1) l (List.replicate l.length (List.replicate m (0 : Int))) := by
        intro l
        induction l with
        | nil => intro _; exact .nil
        | cons x l ih => intro h; exact .cons (h x List.mem_cons_self) (ih fun y hy => h y (List.mem_cons_of_mem _ hy))
      have kr := key rs fun r h => (hrs r h).2.2
      rwa [hl] at kr
    have O1 : Own H H1 q rs (List.replicate m (List.replicate m (0 : Int))) := ⟨⟨e1, pr, nd⟩, hq, fun r h => (hrs r h).1⟩
    have S1 : Sq m (List.replicate m (List.replicate m (0 : Int))) := ⟨by simp, fun row h => by
      rw [(List.mem_replicate.mp h).2]
      refine ⟨by simp, fun x hx => ?_⟩
      rw [(List.mem_replicate.mp hx).2]
      exact ⟨by decide, by decide⟩⟩
    refine ⟨_, rfl, _, rfl, by omega, by omega, for_range (lo := 0) (n := m) (fun i σ H' => ∃ (k' : Int) (t : List (List Int)) (o1 o2 o3 : Option V),
      σ = [some (.ref a), some (.ref p), some (.int m), some (.ref q), o1, o2, o3, none, none, none] ∧ Bd K H a ns p H' k' ∧ Own H H' q rs t ∧ Sq m t ∧ NZ i t)
      ⟨_, _, none, none, none, rfl, B1, O1, S1, fun i' _ h => absurd h (Nat.not_lt_zero _)⟩ ?_ ?_⟩
    · rintro i σ H' hi ⟨k', t, o1, o2, o3, rfl, B, O, S, Z⟩
      refine ⟨_, rfl, _, _, rfl, rfl, _, rfl, by omega, by omega, for_range (lo := 0) (n := (0 + (i : Nat) + 1 : Int).toNat) (fun j σ H' => ∃ (k' : Int) (t : List (List Int)) (o2 o3 : Option V),
        σ = [some (.ref a), some (.ref p), some (.int m), some (.ref q), some (.int (0 + (i : Nat))), o2, o3, none, none, none] ∧ Bd K H a ns p H' k' ∧ Own H H' q rs t ∧ Sq m t ∧ NZ i t)
        ⟨_, _, _, _, rfl, B, O, S, Z⟩ ?_ ?_⟩
      · clear k' t o2 o3 B O S Z H'
        rintro j σ H' hj ⟨k', t, o2, o3, rfl, B, O, S, Z⟩
        refine ⟨_, rfl, _, rfl, a, p, ns, k', rfl, B.sc, B.spot, B.k0, fun n1 => ?_⟩
        refine ⟨_, rfl, _, rfl, _, _, rfl, rfl, .inl ⟨by omega, by omega⟩, _, rfl, _, _, rfl, rfl, _, _, rfl, rfl, .inl ⟨by decide, by decide⟩, _, _, rfl, rfl, ?_⟩
        have B2 := B.next
        have O2 := Own.spot (o := .lst [.int (k' + 1)]) B O
        refine ⟨by decide, fun l hl' => ?_⟩
        have B3 := B2.new (o := .lst [.int 0, .int 1, .int 2, .int 3, .int 1]) hl'
        have O3 := O2.new (o := .lst [.int 0, .int 1, .int 2, .int 3, .int 1]) hl'
        refine ⟨_, rfl, _, _, rfl, rfl, (by show (0 : Int) < 5; decide), ?_⟩
        obtain ⟨v, hv, v0, v3⟩ : ∃ v : Int, atI [V.int 0, V.int 1, V.int 2, V.int 3, V.int 1] ((n1 + 7919 * ((m : Int) * (0 + (i : Nat)) + (0 + (j : Nat)))) % 5) = some (.int v) ∧ 0 ≤ v ∧ v ≤ 3 := by
          have c0 : 0 ≤ (n1 + 7919 * ((m : Int) * (0 + (i : Nat)) + (0 + (j : Nat)))) % 5 := Int.emod_nonneg _ (by decide)
          have c1 : (n1 + 7919 * ((m : Int) * (0 + (i : Nat)) + (0 + (j : Nat)))) % 5 < 5 := Int.emod_lt_of_pos _ (by decide)
          generalize (n1 + 7919 * ((m : Int) * (0 + (i : Nat)) + (0 + (j : Nat)))) % 5 = c5 at c0 c1 ⊢
          have : c5 = 0 ∨ c5 = 1 ∨ c5 = 2 ∨ c5 = 3 ∨ c5 = 4 := by omega
          rcases this with h | h | h | h | h
          · exact ⟨0, by rw [h]; rfl, by decide, by decide⟩
          · exact ⟨1, by rw [h]; rfl, by decide, by decide⟩
          · exact ⟨2, by rw [h]; rfl, by decide, by decide⟩
          · exact ⟨3, by rw [h]; rfl, by decide, by decide⟩
          · exact ⟨1, by rw [h]; rfl, by decide, by decide⟩
        refine ⟨l, _, _, _, rfl, rfl, SqL.of upd_same, hv, ?_⟩
        obtain ⟨r, row, q1, q2, q3, q4, q5⟩ := O3.at (i := i) (by rw [S.len]; exact hi)
        have rl := (S.rows row (List.mem_of_getElem? q2)).1
        refine ⟨_, rfl, _, rfl, q, _, _, _, rfl, rfl, O3.sq, atI_pos (by omega) (show (rs.map V.ref)[(0 + (i : Nat) : Int).toNat]? = some (.ref r) by rw [show (0 + (i : Nat) : Int).toNat = i by omega]; exact q3), ?_⟩
        refine ⟨_, rfl, r, _, _, _, rfl, rfl, q4, ixN_of (by omega) (by rw [List.length_map]; omega), ?_⟩
        rw [SH.set_map, show (0 + (j : Nat) : Int).toNat = j by omega]
        have B4 := B3.own (o := .lst ((row.set j v).map V.int)) q5
        have O4 := O3.row (row := row.set j v) q1
        have S4 := S.set (j := j) (v := v) q2 v0 v3
        have Z4 := Z.set (j := j) (v := v) q2 (.inl (Nat.le_refl _))
        obtain ⟨r1, row1, u1, u2, u3, u4, u5⟩ := O4.at (i := i) (by rw [S4.len]; exact hi)
        have rl1 := (S4.rows row1 (List.mem_of_getElem? u2))
        refine ⟨_, rfl, _, rfl, q, _, _, _, rfl, rfl, O4.sq, atI_pos (by omega) (show (rs.map V.ref)[(0 + (i : Nat) : Int).toNat]? = some (.ref r1) by rw [show (0 + (i : Nat) : Int).toNat = i by omega]; exact u3), ?_⟩
        have hj1 : j < row1.length := by omega
        obtain ⟨x, hx⟩ : ∃ x, row1[j]? = some x := ⟨_, List.getElem?_eq_getElem hj1⟩
        have xb := rl1.2 x (List.mem_of_getElem? hx)
        refine ⟨_, rfl, r1, _, _, _, rfl, rfl, SqL.of u4, atI_pos (by omega) (show (row1.map V.int)[(0 + (j : Nat) : Int).toNat]? = some (.int x) by rw [show (0 + (j : Nat) : Int).toNat = j by omega, List.getElem?_map, hx]; rfl), ?_⟩
        obtain ⟨r2, row2, w1, w2, w3, w4, w5⟩ := O4.at (i := j) (by rw [S4.len]; omega)
        have rl2 := (S4.rows row2 (List.mem_of_getElem? w2)).1
        refine ⟨_, rfl, _, rfl, q, _, _, _, rfl, rfl, O4.sq, atI_pos (by omega) (show (rs.map V.ref)[(0 + (j : Nat) : Int).toNat]? = some (.ref r2) by rw [show (0 + (j : Nat) : Int).toNat = j by omega]; exact w3), ?_⟩
        refine ⟨_, rfl, r2, _, _, _, rfl, rfl, w4, ixN_of (by omega) (by rw [List.length_map]; omega), ?_⟩
        rw [SH.set_map, show (0 + (i : Nat) : Int).toNat = i by omega]
        exact ⟨_, _, _, _, rfl, B4.own w5, O4.row w1, S4.set w2 xb.1 xb.2, Z4.set w2 (.inr (.inl (Nat.le_refl _)))⟩
      · clear k' t o2 o3 B O S Z H'
        rintro σ H' ⟨k', t, o2, o3, rfl, B, O, S, Z⟩
        refine ⟨_, rfl, _, _, rfl, rfl, _, rfl, ?_⟩
        refine ite2 (fun hi0 => ?_) (fun hi0 => ?_)
        · have i1 : 0 < i := by
            have := of_decide_eq_true hi0
            omega
          obtain ⟨r, row, q1, q2, q3, q4, q5⟩ := O.at (i := i) (by rw [S.len]; exact hi)
          have rl := S.rows row (List.mem_of_getElem? q2)
          have ati : atI (rs.map V.ref) (0 + (i : Nat) : Int) = some (.ref r) := atI_pos (by omega) (by rw [show (0 + (i : Nat) : Int).toNat = i by omega]; exact q3)
          refine ⟨_, rfl, _, rfl, q, _, _, _, rfl, rfl, O.sq, ati, _, rfl, _, rfl, r, _, rfl, SqL.of q4, fun l hl' => ?_⟩
          have ec : cutV (row.map V.int) none (some (0 + (i : Nat) : Int)) = (row.take i).map V.int := by
            rw [show (0 + (i : Nat) : Int) = ((i : Nat) : Int) by omega, cut_take, List.map_take]
          rw [ec]
          have B2 := B.new (o := .lst ((row.take i).map V.int)) hl'
          have O2 := O.new (o := .lst ((row.take i).map V.int)) hl'
          refine ⟨l, _, rfl, SqL.of upd_same, rfl, _, rfl, ?_⟩
          refine ite2 (fun _ => ?_) (fun hsum => ?_)
          · -- table[one][one - 1] = 1; table[one - 1][one] = 1
            obtain ⟨r1, row1, u1, u2, u3, u4, u5⟩ := O2.at (i := i) (by rw [S.len]; exact hi)
            have rl1 := (S.rows row1 (List.mem_of_getElem? u2)).1
            refine ⟨_, rfl, _, rfl, q, _, _, _, rfl, rfl, O2.sq, atI_pos (by omega) (show (rs.map V.ref)[(0 + (i : Nat) : Int).toNat]? = some (.ref r1) by rw [show (0 + (i : Nat) : Int).toNat = i by omega]; exact u3), ?_⟩
            refine ⟨_, rfl, _, _, rfl, rfl, r1, _, _, _, rfl, rfl, u4, ixN_of (by omega) (by rw [List.length_map]; omega), ?_⟩
            rw [SH.set_map, show (0 + (i : Nat) - 1 : Int).toNat = i - 1 by omega]
            have B3 := B2.own (o := .lst ((row1.set (i - 1) 1).map V.int)) u5
            have O3 := O2.row (row := row1.set (i - 1) 1) u1
            have S3 := S.set (j := i - 1) (v := 1) u2 (by decide) (by decide)
            have Z3 : NZ (i + 1) (t.set i (row1.set (i - 1) 1)) := by
              intro i' h1 h2
              by_cases e : i' = i
              · subst e
                refine ⟨i' - 1, by omega, ?_⟩
                rw [mat_set u2, if_pos ⟨rfl, rfl, by omega⟩]
                decide
              · exact (Z.set (j := i - 1) (v := 1) u2 (.inl (Nat.le_refl _))) i' h1 (by omega)
            obtain ⟨r2, row2, w1, w2, w3, w4, w5⟩ := O3.at (i := i - 1) (by rw [S3.len]; omega)
            have rl2 := (S3.rows row2 (List.mem_of_getElem? w2)).1
            refine ⟨_, rfl, _, rfl, _, _, rfl, rfl, q, _, _, _, rfl, rfl, O3.sq, atI_pos (by omega) (show (rs.map V.ref)[(0 + (i : Nat) - 1 : Int).toNat]? = some (.ref r2) by rw [show (0 + (i : Nat) - 1 : Int).toNat = i - 1 by omega]; exact w3), ?_⟩
            refine ⟨_, rfl, r2, _, _, _, rfl, rfl, w4, ixN_of (by omega) (by rw [List.length_map]; omega), ?_⟩
            rw [SH.set_map, show (0 + (i : Nat) : Int).toNat = i by omega]
            exact ⟨_, _, _, _, _, rfl, B3.own w5, O3.row w1, S3.set w2 (by decide) (by decide), Z3.set w2 (.inr (.inr (.inr (by decide))))⟩
          · have Z3 : NZ (i + 1) t := by
              intro i' h1 h2
              by_cases e : i' = i
              · subst e
                obtain ⟨x, hx, x0⟩ := nonzero_of_sum (l := row.take i') fun z => hsum (by rw [z]; rfl)
                obtain ⟨j', hj', e'⟩ := List.getElem_of_mem hx
                rw [List.length_take] at hj'
                rw [List.getElem_take] at e'
                refine ⟨j', by omega, ?_⟩
                rw [mat_of q2 (show row[j']? = some x by rw [List.getElem?_eq_getElem (by omega), e'])]
                exact x0
              · exact Z i' h1 (by omega)
            exact ⟨_, _, _, _, _, rfl, B2, O2, S, Z3⟩
        · have Z3 : NZ (i + 1) t := by
            intro i' h1 h2
            have : ¬ 0 < (0 + (i : Nat) : Int) := fun z => hi0 (decide_eq_true z)
            omega
          refine iteF ?_
          exact ⟨_, _, _, _, _, rfl, B, O, S, Z3⟩
    · rintro σ H' ⟨k', t, o1, o2, o3, rfl, B, O, S, Z⟩
      obtain ⟨r, row, q1, q2, q3, q4, q5⟩ := O.at (i := 0) (by rw [S.len]; omega)
      have rl := S.rows row (List.mem_of_getElem? q2)
      have at0 : atI (rs.map V.ref) 0 = some (.ref r) := atI_pos (by decide) q3
      refine ⟨_, rfl, q, _, _, _, rfl, rfl, O.sq, at0, r, row, rfl, SqL.of q4, rfl, _, rfl, ?_⟩
      refine ite2 (fun _ => ?_) (fun hsum => ?_)
      · refine ⟨_, rfl, q, _, _, _, rfl, rfl, O.sq, at0, r, _, _, _, rfl, rfl, q4, ixN_of (by decide) (by rw [List.length_map]; omega), ?_⟩
        rw [SH.set_map, show (0 : Int).toNat = 0 from rfl]
        have B5 := B.own (o := .lst ((row.set 0 1).map V.int)) q5
        have O5 := O.row (row := row.set 0 1) q1
        have S5 := S.set (j := 0) (v := 1) q2 (by decide) (by decide)
        have Z5 := Z.set (j := 0) (v := 1) q2 (.inr (.inr (.inl rfl)))
        generalize ht5 : t.set 0 (row.set 0 1) = t5 at O5 S5 Z5
        have nz5 : ∀ i, i < m → ∃ j, mat t5 i j ≠ 0 := by
          intro i hi
          by_cases e : i = 0
          · subst e
            refine ⟨0, ?_⟩
            rw [← ht5, mat_set q2, if_pos ⟨rfl, rfl, by omega⟩]
            decide
          · obtain ⟨j, _, h⟩ := Z5 i (by omega) hi
            exact ⟨j, h⟩
        refine ⟨Nat.zero_le _, fun q2 hq2 => ?_⟩
        have h20 := B5.old hq2
        obtain ⟨n2rs, n2q⟩ := O5.notIn hq2
        have O6 := O5.new (o := .lst []) hq2
        refine ⟨_, rfl, q, rfl, ⟨_, O6.sq⟩, for_list (K := K) (a := q) (xs := rs.map V.ref) (fun i σ H' => ∃ (k' : Int) (rs2 : List Addr) (t2 : List (List Int)) (o8 o9 : Option V),
          σ = [some (.ref a), some (.ref p), some (.int m), some (.ref q), o1, o2, o3, some (.ref q2), o8, o9] ∧ Bd K H a ns p H' k' ∧ Own H H' q rs t5 ∧ Own H H' q2 rs2 t2 ∧ q2 ∉ rs ∧ t2.length = i ∧ ∀ row ∈ t2, GoodRow m row)
          ⟨_, [], [], none, none, rfl, B5.new hq2, O6, ⟨⟨upd_same, .nil, List.nodup_nil⟩, h20, fun r hr => absurd hr (by simp)⟩, n2rs, rfl, by simp⟩ (fun i σ H' _ ⟨_, _, _, _, _, _, _, O, _⟩ => O.sq) ?_ ?_⟩
        · rintro i x σ H' hx ⟨k7, rs2, t2, o8, o9, rfl, B7, O7, OO, n7, hl2, hg⟩
          obtain ⟨r7, hr7, rfl⟩ := ref_at hx
          obtain ⟨row7, e7, e8⟩ := pr_get O7.tab.rows hr7
          have i7 : i < m := by
            have := (List.getElem?_eq_some_iff.mp e7).1
            rw [S5.len] at this
            exact this
          have rw7 := S5.rows row7 (List.mem_of_getElem? e7)
          refine ⟨_, rfl, _, rfl, a, p, ns, k7, rfl, B7.sc, B7.spot, B7.k0, fun n1 => ⟨_, _, rfl, rfl, (by show (0 : Int) < 3; decide), _, _, rfl, rfl, ?_⟩⟩
          have B8 := B7.next
          have O8 := Own.spot (o := .lst [.int (k7 + 1)]) B7 O7
          have OO8 := Own.spot (o := .lst [.int (k7 + 1)]) B7 OO
          have e9 : upd H' p (.lst [.int (k7 + 1)]) r7 = some (.lst (row7.map V.int)) := by
            rw [upd_ne (B7.ne (O7.nr _ (List.mem_of_getElem? hr7)))]
            exact e8
          have f1 : 1 ≤ 1 + n1 % 3 := by omega
          have f3 : 1 + n1 % 3 ≤ 3 := by omega
          refine ⟨_, rfl, .inl ⟨rfl, _, OO8.sq⟩, _, rfl, r7, rfl, ⟨_, SqL.of e9⟩, fun d hd => comp_pure (fun _ => true) (scaleV (1 + n1 % 3)) (by rw [List.length_map, rw7.1]; exact ml) (SqL.of e9) hd (fun x _ ys R h => h) (fun x hx _ ys R h => ?_) ?_⟩
          · obtain ⟨y, hy, rfl⟩ := List.mem_map.mp hx
            have yb := rw7.2 y hy
            exact ⟨_, rfl, _, rfl, _, _, rfl, rfl, .inl ⟨by omega, by omega⟩, h⟩
          · rw [map_scale]
            have d0 := B8.old hd
            obtain ⟨nd1, nd2⟩ := O8.notIn hd
            obtain ⟨nd3, nd4⟩ := OO8.notIn hd
            have OO9 := OO8.new (o := .lst ((row7.map (· * (1 + n1 % 3))).map V.int)) hd
            have O9 := O8.new (o := .lst ((row7.map (· * (1 + n1 % 3))).map V.int)) hd
            have B9 := B8.new (o := .lst ((row7.map (· * (1 + n1 % 3))).map V.int)) hd
            have tl : rs2.length < 1000 := by rw [OO.tab.len]; omega
            refine ⟨q2, _, _, rfl, rfl, OO9.tab.top, small1000 (by rw [List.length_map]; omega), ?_⟩
            have e : rs2.map V.ref ++ [.ref d] = (rs2 ++ [d]).map V.ref := by rw [List.map_append]; rfl
            rw [e]
            refine ⟨_, _, _, _, _, rfl, B9.own h20, O9.mine n7 n2q, OO9.push upd_same d0 nd3 nd4, n7, by rw [List.length_append, hl2]; rfl, fun row hrw => ?_⟩
            rcases List.mem_append.mp hrw with h | h
            · exact hg row h
            · rw [List.mem_singleton.mp h]
              obtain ⟨j, hj⟩ := nz5 i i7
              exact good_scaled rw7.1 rw7.2 (mat_mem e7 hj) f1 f3
        · rintro σ H' ⟨k7, rs2, t2, o8, o9, rfl, B7, O7, OO, n7, hl2, hg⟩
          rw [List.length_map, O7.tab.len, S5.len] at hl2
          exact ⟨_, rfl, kk H' q2 rs2 t2 k7 B7 OO ⟨by omega, by omega, fun row h => hl2 ▸ hg row h⟩ (by rw [hl2])⟩
      · have B5 := B
        have O5 := O
        have S5 := S
        have nz5 : ∀ i, i < m → ∃ j, mat t i j ≠ 0 := by
          intro i hi
          by_cases e : i = 0
          · subst e
            obtain ⟨x, hx, x0⟩ := nonzero_of_sum (l := row) fun z => hsum (by rw [z]; rfl)
            obtain ⟨j, hj⟩ := List.getElem?_of_mem hx
            exact ⟨j, by rw [mat_of q2 hj]; exact x0⟩
          · obtain ⟨j, _, h⟩ := Z i (by omega) hi
            exact ⟨j, h⟩
        generalize ht5 : t = t5 at O5 S5 nz5
        refine ⟨Nat.zero_le _, fun q2 hq2 => ?_⟩
        have h20 := B5.old hq2
        obtain ⟨n2rs, n2q⟩ := O5.notIn hq2
        have O6 := O5.new (o := .lst []) hq2
        refine ⟨_, rfl, q, rfl, ⟨_, O6.sq⟩, for_list (K := K) (a := q) (xs := rs.map V.ref) (fun i σ H' => ∃ (k' : Int) (rs2 : List Addr) (t2 : List (List Int)) (o8 o9 : Option V),
          σ = [some (.ref a), some (.ref p), some (.int m), some (.ref q), o1, o2, o3, some (.ref q2), o8, o9] ∧ Bd K H a ns p H' k' ∧ Own H H' q rs t5 ∧ Own H H' q2 rs2 t2 ∧ q2 ∉ rs ∧ t2.length = i ∧ ∀ row ∈ t2, GoodRow m row)
          ⟨_, [], [], none, none, rfl, B5.new hq2, O6, ⟨⟨upd_same, .nil, List.nodup_nil⟩, h20, fun r hr => absurd hr (by simp)⟩, n2rs, rfl, by simp⟩ (fun i σ H' _ ⟨_, _, _, _, _, _, _, O, _⟩ => O.sq) ?_ ?_⟩
        · rintro i x σ H' hx ⟨k7, rs2, t2, o8, o9, rfl, B7, O7, OO, n7, hl2, hg⟩
          obtain ⟨r7, hr7, rfl⟩ := ref_at hx
          obtain ⟨row7, e7, e8⟩ := pr_get O7.tab.rows hr7
          have i7 : i < m := by
            have := (List.getElem?_eq_some_iff.mp e7).1
            rw [S5.len] at this
            exact this
          have rw7 := S5.rows row7 (List.mem_of_getElem? e7)
          refine ⟨_, rfl, _, rfl, a, p, ns, k7, rfl, B7.sc, B7.spot, B7.k0, fun n1 => ⟨_, _, rfl, rfl, (by show (0 : Int) < 3; decide), _, _, rfl, rfl, ?_⟩⟩
          have B8 := B7.next
          have O8 := Own.spot (o := .lst [.int (k7 + 1)]) B7 O7
          have OO8 := Own.spot (o := .lst [.int (k7 + 1)]) B7 OO
          have e9 : upd H' p (.lst [.int (k7 + 1)]) r7 = some (.lst (row7.map V.int)) := by
            rw [upd_ne (B7.ne (O7.nr _ (List.mem_of_getElem? hr7)))]
            exact e8
          have f1 : 1 ≤ 1 + n1 % 3 := by omega
          have f3 : 1 + n1 % 3 ≤ 3 := by omega
          refine ⟨_, rfl, .inl ⟨rfl, _, OO8.sq⟩, _, rfl, r7, rfl, ⟨_, SqL.of e9⟩, fun d hd => comp_pure (fun _ => true) (scaleV (1 + n1 % 3)) (by rw [List.length_map, rw7.1]; exact ml) (SqL.of e9) hd (fun x _ ys R h => h) (fun x hx _ ys R h => ?_) ?_⟩
          · obtain ⟨y, hy, rfl⟩ := List.mem_map.mp hx
            have yb := rw7.2 y hy
            exact ⟨_, rfl, _, rfl, _, _, rfl, rfl, .inl ⟨by omega, by omega⟩, h⟩
          · rw [map_scale]
            have d0 := B8.old hd
            obtain ⟨nd1, nd2⟩ := O8.notIn hd
            obtain ⟨nd3, nd4⟩ := OO8.notIn hd
            have OO9 := OO8.new (o := .lst ((row7.map (· * (1 + n1 % 3))).map V.int)) hd
            have O9 := O8.new (o := .lst ((row7.map (· * (1 + n1 % 3))).map V.int)) hd
            have B9 := B8.new (o := .lst ((row7.map (· * (1 + n1 % 3))).map V.int)) hd
            have tl : rs2.length < 1000 := by rw [OO.tab.len]; omega
            refine ⟨q2, _, _, rfl, rfl, OO9.tab.top, small1000 (by rw [List.length_map]; omega), ?_⟩
            have e : rs2.map V.ref ++ [.ref d] = (rs2 ++ [d]).map V.ref := by rw [List.map_append]; rfl
            rw [e]
            refine ⟨_, _, _, _, _, rfl, B9.own h20, O9.mine n7 n2q, OO9.push upd_same d0 nd3 nd4, n7, by rw [List.length_append, hl2]; rfl, fun row hrw => ?_⟩
            rcases List.mem_append.mp hrw with h | h
            · exact hg row h
            · rw [List.mem_singleton.mp h]
              obtain ⟨j, hj⟩ := nz5 i i7
              exact good_scaled rw7.1 rw7.2 (mat_mem e7 hj) f1 f3
        · rintro σ H' ⟨k7, rs2, t2, o8, o9, rfl, B7, O7, OO, n7, hl2, hg⟩
          rw [List.length_map, O7.tab.len, S5.len] at hl2
          exact ⟨_, rfl, kk H' q2 rs2 t2 k7 B7 OO ⟨by omega, by omega, fun row h => hl2 ▸ hg row h⟩ (by rw [hl2])⟩
theorem c_house (D : DefAt K mg "_law_house" s_law_house ["script", "spot", "most"] f fd) (T : Txt mg) (G_law_next : Callee P w K mg base 2 "_law_next" ["script", "spot"] (spNext K))
    (G_law_some_house : Callee P w K mg base 3 "_law_some_house" ["script", "spot", "many"] (spMake K)) (G_law_even_house : Callee P w K mg base 3 "_law_even_house" ["script", "spot", "many"] (spMake K)) :
    Callee P w K mg base 4 "_law_house" ["script", "spot", "most"] (spHouse K) := by
  refine D.ok sc_law_house (fun vs H Q E h => ?_) (fun cdv A outer s H vs Q E hr h => ?_)
  · obtain ⟨a, p, ns, k, m, rfl, _⟩ := h
    rfl
  · obtain ⟨a, p, ns, k, m, rfl, hs, hp, hk, m1, m8, kk⟩ := h
    have B1 := (Bd.start hs hp hk).next
    refine ⟨_, (pss_cons (ps_set (i := 3) sc_law_house.nd rfl (Or.inl rfl) (pe_def G_law_next (hr.mono (by decide)) rfl (pa_cons (pv 0) (pa_cons (pv 1) pa_nil))))
      (pss_cons (ps_set (i := 4) sc_law_house.nd rfl (Or.inl rfl) (pe_op op_add pe_int (pe_op op_mod (pv 3) (pv 2))))
      (pss_cons (ps_if (pt_cmpR op_eq (pe_op op_mod (pe_op op_fdiv (pv 3) pe_int) pe_int) pe_int (nomark _)) (pss_one (ps_ret (pe_def G_law_even_house (hr.mono (by decide)) rfl (pa_cons (pv 0) (pa_cons (pv 1) (pa_cons (pv 4) pa_nil)))))) pss_nil)
      (pss_cons (ps_set (i := 5) sc_law_house.nd rfl (Or.inl rfl) (pe_def G_law_some_house (hr.mono (by decide)) rfl (pa_cons (pv 0) (pa_cons (pv 1) (pa_cons (pv 4) pa_nil)))))
      (pss_cons (ps_if (pt_cmpR op_eq (pe_op op_mod (pe_op op_fdiv (pv 3) pe_int) pe_int) pe_int (nomark _)) (pss_one (ps_for PassesOwn.never rfl (pi_range1 rfl T.g_range (pa_cons (pv 4) pa_nil)) (pg_name (i := 6) sc_law_house.nd rfl (Or.inl rfl))
      (pss_cons (ps_set (i := 7) sc_law_house.nd rfl (Or.inl rfl) (pe_op op_mod (pe_op op_add (pv 6) pe_int) (pv 4)))
      (pss_one (ps_asg (pe_op op_add pe_int (pe_op op_mod (pe_op op_add (pe_ix ix_list (pe_ix ix_list (pv 5) (pv 6) (fun _ _ => rfl)) (pv 7) (fun _ _ => rfl)) pe_int) pe_int)) (pg_sub (pe_ix ix_list (pv 5) (pv 6) (fun _ _ => rfl)) (pv 7) set_list)))))) pss_nil)
      (pss_one (ps_ret (pv 5)))))))), ?_⟩
    refine ⟨_, rfl, _, rfl, a, p, ns, k, rfl, hs, hp, hk, fun c => ?_⟩
    refine ⟨_, rfl, _, rfl, _, _, rfl, rfl, (by show (0 : Int) < m; omega), _, _, rfl, rfl, ?_⟩
    have b1 : 0 ≤ c % m := Int.emod_nonneg _ (by omega)
    have b2 : c % m < m := Int.emod_lt_of_pos _ (by omega)
    let mm : Int := 1 + c % m
    have mm1 : 1 ≤ mm := by show 1 ≤ 1 + c % m; omega
    have mm2 : mm ≤ m := by show 1 + c % m ≤ m; omega
    refine ⟨_, rfl, _, _, rfl, rfl, ⟨by decide, by decide⟩, _, _, rfl, rfl, (by show (0 : Int) < 4; decide), rfl, _, rfl, ?_⟩
    refine ite2 (fun _ => ?_) (fun _ => ?_)
    · refine ⟨_, rfl, _, rfl, _, rfl, a, p, ns, k + 1, mm, rfl, B1.sc, B1.spot, B1.k0, by omega, by omega, fun H' q rs t k' B O hH hl => ?_⟩
      exact kk H' q rs t k' (B1.trans B) (Own.trans B1 O) hH (by omega)
    · refine ⟨_, rfl, _, rfl, _, rfl, a, p, ns, k + 1, mm, rfl, B1.sc, B1.spot, B1.k0, by omega, by omega, fun H' q rs t k' B O hH hl => ?_⟩
      have B2 := B1.trans B
      have O2 := Own.trans B1 O
      refine ⟨_, rfl, _, _, rfl, rfl, ⟨by decide, by decide⟩, _, _, rfl, rfl, (by show (0 : Int) < 3; decide), rfl, _, rfl, ?_⟩
      refine ite2 (fun _ => ?_) (fun _ => ?_)
      · refine ⟨_, rfl, _, rfl, by omega, by omega, for_range (lo := 0) (n := mm.toNat) (fun i σ H2 => ∃ (k2 : Int) (t2 : List (List Int)) (o6 o7 : Option V),
          σ = [some (.ref a), some (.ref p), some (.int m), some (.int c), some (.int mm), some (.ref q), o6, o7] ∧ Bd K H a ns p H2 k2 ∧ Own H H2 q rs t2 ∧ House t2 ∧ (t2.length : Int) = mm)
          ⟨_, _, none, none, rfl, B2, O2, hH, hl⟩ ?_ ?_⟩
        · rintro i σ H2 hi ⟨k2, t2, o6, o7, rfl, B3, O3, hH2, hl2⟩
          refine ⟨_, rfl, _, _, rfl, rfl, _, rfl, _, _, rfl, rfl, (by show (0 : Int) < mm; omega), ?_⟩
          let th : Int := (0 + (i : Nat) + 1) % mm
          have d1 : 0 ≤ th := Int.emod_nonneg _ (by omega)
          have d2 : th < mm := Int.emod_lt_of_pos _ (by omega)
          obtain ⟨r, row, q1, q2, q3, q4, q5⟩ := O3.at (i := i) (by omega)
          have g := hH2.rows row (List.mem_of_getElem? q2)
          have ati : atI (rs.map V.ref) (0 + (i : Nat) : Int) = some (.ref r) := atI_pos (by omega) (by rw [off0]; exact q3)
          have hj : th.toNat < row.length := by rw [g.len]; omega
          have atj : atI (row.map V.int) th = some (.int row[th.toNat]) := atI_pos d1 (by rw [List.getElem?_map, List.getElem?_eq_getElem hj]; rfl)
          refine ⟨_, rfl, _, rfl, q, _, _, _, rfl, rfl, O3.sq, ati, _, rfl, r, _, _, _, rfl, rfl, SqL.of q4, atj, _, _, rfl, rfl, _, _, rfl, rfl, (by show (0 : Int) < 9; decide), _, _, rfl, rfl, ?_⟩
          refine ⟨_, rfl, _, rfl, q, _, _, _, rfl, rfl, O3.sq, ati, _, rfl, r, _, _, _, rfl, rfl, q4, ixN_of d1 (by rw [List.length_map]; omega), ?_⟩
          rw [SH.set_map]
          exact ⟨_, _, _, _, rfl, B3.own q5, O3.row q1, hH2.set q2 hj (by omega) (by omega), by rw [List.length_set]; exact hl2⟩
        · rintro σ H2 ⟨k2, t2, o6, o7, rfl, B3, O3, hH2, hl2⟩
          exact ⟨_, rfl, kk H2 q rs t2 k2 B3 O3 hH2 (by omega)⟩
      · exact ⟨_, rfl, kk H' q rs t k' B2 O2 hH (by omega)⟩
theorem house_true {t : List (List Int)} (h : House t) : houseB t = true := by
  have rows : t.all (rowB t.length) = true := List.all_eq_true.mpr fun row hr => by
    have g := h.rows row hr
    have wt : row.all wtB = true := List.all_eq_true.mpr fun x hx => by
      have := g.wts x hx
      unfold wtB
      rw [decide_eq_true this.1, decide_eq_true this.2]
      rfl
    unfold rowB
    rw [wt, decide_eq_true (by rw [g.len]), decide_eq_true ((sum_pos' fun x hx => (g.wts x hx).1).2 g.some')]
    rfl
  have h1 := h.lo
  have h2 := h.hi
  unfold houseB
  rw [rows, decide_eq_true (by omega), decide_eq_true (by omega)]
  rfl
theorem notT {A B : Prop} (h : B) : if (!true) = true then A else B := h
theorem map_true' : ∀ l : List V, ((l.filter fun _ => true).map fun _ => V.bl true) = (l.map fun _ => true).map V.bl
  | [] => rfl
  | r :: l => by
    have ih := map_true' l
    simp only [List.map_cons, List.filter_cons, if_true] at ih ⊢
    rw [ih]
def spRowsLike : Sp := fun vs H Q _ => ∃ (p q : Addr) (rs rs' : List Addr) (t : List (List Int)), vs = [.ref p, .ref q] ∧ Tab H p rs t ∧ Tab H q rs' t ∧ t.length ≤ 100 ∧ (∀ row ∈ t, row.length ≤ 100) ∧ ∀ H', Same H H' → Q (.bl true) H'
theorem c_law_rows_like (D : DefAt K mg "_law_rows_like" s_law_rows_like ["found", "due"] f fd) (T : Txt mg) : Callee P w K mg base 1 "_law_rows_like" ["found", "due"] spRowsLike := by
  refine D.ok sc_law_rows_like (fun vs H Q E h => ?_) (fun cdv A outer s H vs Q E hr h => ?_)
  · obtain ⟨p, q, rs, rs', t, rfl, _⟩ := h
    rfl
  · obtain ⟨p, q, rs, rs', t, rfl, tab, tab', t1, t2, kk⟩ := h
    have hlm : (rs.map V.ref).length = t.length := by rw [List.length_map]; exact tab.len
    have hlq : (rs'.map V.ref).length = t.length := by rw [List.length_map]; exact tab'.len
    refine ⟨_, (pss_cons (ps_if (PW.pt (pw_or (pt_not (pt_val (pe_callB call_isi rfl T.g_isinstance PyProof.Rows.boot_isinstance (pa_cons (pv 0) (pa_cons (pe_bltn (v := .ty "list") rfl T.g_list PyProof.Rows.boot_list rfl) pa_nil))))) (pw_or1 (pt_cmpR op_ne (pe_callB call_len_seq rfl T.g_len PySem.boot_len (pa_cons (pv 0) pa_nil)) (pe_callB call_len_seq rfl T.g_len PySem.boot_len (pa_cons (pv 1) pa_nil)) (nomark _))))) (pss_one (ps_ret pe_bl)) pss_nil)
      (pss_cons (ps_for PassesOwn.never rfl (pi_list (pv 0)) (pg_name (i := 2) sc_law_rows_like.nd rfl (Or.inl rfl))
      (pss_cons (ps_if (pt_not (pt_val (pe_callB call_isi rfl T.g_isinstance PyProof.Rows.boot_isinstance (pa_cons (pv 2) (pa_cons (pe_bltn (v := .ty "list") rfl T.g_list PyProof.Rows.boot_list rfl) pa_nil))))) (pss_one (ps_ret pe_bl)) pss_nil)
      (pss_one (ps_if (pt_not (pt_val (pe_callB (call_allB rfl) rfl T.g_all PyProof.Rows.boot_all (pa_cons (pe_comp (N := ["one"]) (ix := [none]) rfl (CompOk.of (by rfl)) (pi_list (pv 2)) (fun _ _ _ _ => (pg_name (i := 0) (show List.Nodup (["one"] : List Str) by decide +kernel) rfl (Or.inl rfl))) (fun _ _ _ _ => pts_nil) (fun _ _ _ _ => (pe_and (pe_callB (call_isiK (K := K) rfl) rfl T.g_isinstance PyProof.Rows.boot_isinstance (pa_cons (pv 0) (pa_cons (pe_bltn (v := .ty "int") rfl T.g_int PyProof.Rows.boot_int rfl) pa_nil))) (pe_one (pe_not (pe_callB (call_isiK (K := K) rfl) rfl T.g_isinstance PyProof.Rows.boot_isinstance (pa_cons (pv 0) (pa_cons (pe_bltn (v := .ty "bool") rfl T.g_bool PyProof.Rows.boot_bool rfl) pa_nil)))))))) pa_nil)))) (pss_one (ps_ret pe_bl)) pss_nil))))
      (pss_one (ps_ret (pe_cmpR (op_eqD hr) (pv 0) (pv 1) (nomark _)))))), ?_⟩
    refine ⟨_, rfl, _, _, "list", true, rfl, .lst tab.top, kit_same K _, _, rfl, notT ?_⟩
    refine ⟨_, rfl, p, _, rfl, .inl (SqL.of tab.top), _, rfl, q, _, rfl, .inl (SqL.of tab'.top), rfl, _, rfl, iteNS (by rw [hlm, hlq]) ?_⟩
    refine ⟨_, rfl, p, rfl, ⟨_, SqL.of tab.top⟩, for_list (K := K) (a := p) (xs := rs.map V.ref) (fun i σ H' => ∃ o : Option V, σ = [some (.ref p), some (.ref q), o] ∧ Same H H') ⟨none, rfl, Same.refl H⟩ (fun i σ H' _ ⟨_, _, e⟩ => e.seq (SqL.of tab.top)) ?_ ?_⟩
    · rintro i x σ H' hx ⟨o, rfl, s1⟩
      obtain ⟨r, hr', rfl⟩ := ref_at hx
      obtain ⟨row, hrow, e0⟩ := pr_get tab.rows hr'
      have e : H' r = some (.lst (row.map V.int)) := s1 _ _ e0
      have rl := t2 row (List.mem_of_getElem? hrow)
      refine ⟨_, rfl, _, _, "list", true, rfl, .lst e, kit_same K _, _, rfl, notT ?_⟩
      refine ⟨_, rfl, r, rfl, ⟨_, SqL.of e⟩, fun d hd => comp_pure (fun _ => true) (fun _ => .bl true) (by rw [List.length_map]; exact small_line (by omega)) (SqL.of e) hd (fun x _ ys R h => h) (fun x hx _ ys R h => ?_) ?_⟩
      · obtain ⟨n, _, rfl⟩ := List.mem_map.mp hx
        exact ⟨_, rfl, _, _, "int", true, rfl, .int n, kit_same K _, _, rfl, _, rfl, _, _, "bool", false, rfl, .int n, kit_int_bool K, _, rfl, h⟩
      · rw [map_true']
        refine ⟨d, (row.map V.int).map fun _ => true, rfl, SqL.of upd_same, _, rfl, ?_⟩
        have ea : (((row.map V.int).map fun _ => true).all id) = true := by
          rw [List.all_map, List.all_eq_true]
          intro x _
          rfl
        rw [ea]
        exact notT ⟨_, rfl, s1.new (s1.free hd)⟩
    · rintro σ H' ⟨o, rfl, s1⟩
      refine ⟨_, rfl, _, rfl, tabD t, tabD t, (tab.same s1).rd, (tab'.same s1).rd, shaped_tab _, shaped_tab _, ?_⟩
      rw [eqv_tab, decide_eq_true rfl]
      exact kk H' s1
def figsV : List V := [.str "0", .str "1", .str "2", .str "3", .str "4", .str "5", .str "6", .str "7", .str "8", .str "9"]
theorem fig_int : ∀ n : Nat, n < 10 → PySem.intText? (fig n) = some ((n : Nat) : Int) := by decide +kernel
theorem blank_eq : (" " : Str) = ⟨#[32]⟩ := by decide +kernel
theorem line_eq : ("\n" : Str) = ⟨#[10]⟩ := by decide +kernel
theorem strq {Q : VK} {a b : Str} {H : Hp} (h : Q (.str a) H) (e : a = b) : Q (.str b) H := e ▸ h
def figV : V → V
  | .int k => .str (fig k.toNat)
  | _ => .non
theorem map_fig (row : List Nat) : ((((cs row).map V.int).filter fun _ => true).map figV) = (row.map fig).map V.str := by
  unfold cs
  rw [filt_true, List.map_map, List.map_map, List.map_map]
  rfl
theorem fig_len (row : List Nat) : ((row.map fig).map (·.length)).sum = row.length := by
  induction row with
  | nil => rfl
  | cons n r ih => rw [List.map_cons, List.map_cons, List.sum_cons, ih, List.length_cons]; show 1 + _ = _; omega
theorem log_small {n : Nat} (h : n < 10) : ((n : Nat) : Int).natAbs.log2 < 1920 := by
  rw [Int.natAbs_natCast]
  exact Nat.lt_of_le_of_lt (Nat.log2_le_self n) (by omega)
structure Fgs (t : NT) : Prop where
  lo : 1 ≤ t.length
  hi : t.length ≤ 8
  rows : ∀ row ∈ t, row.length = t.length ∧ ∀ n ∈ row, n < 10
theorem NHouse.fgs {t : NT} (h : NHouse t) : Fgs t := ⟨h.lo, h.hi, fun row hr => ⟨(h.rows row hr).1, fun n hn => by have := (h.rows row hr).2.1 n hn; omega⟩⟩
theorem lines_len {t : NT} (h : Fgs t) : ((t.map lineOf).map (·.length)).sum ≤ 16 * t.length := by
  have key : ∀ l : NT, (∀ row ∈ l, row.length ≤ 8) → ((l.map lineOf).map (·.length)).sum ≤ 16 * l.length := by
    intro l
    induction l with
    | nil => intro _; exact Nat.le_refl _
    | cons r l ih =>
      intro h
      have h1 := line_len r
      have h2 := h r List.mem_cons_self
      have := ih fun x hx => h x (List.mem_cons_of_mem _ hx)
      rw [List.map_cons, List.map_cons, List.sum_cons, List.length_cons]
      omega
  exact key t fun row hr => by
    have := (h.rows row hr).1
    have := h.hi
    omega
def unfV : V → V
  | .str x => .int ((PySem.intText? x).getD 0)
  | _ => .non
theorem map_unf : ∀ row : List Nat, (∀ n ∈ row, n < 10) → ((((row.map fig).map V.str).filter fun _ => true).map unfV) = (cs row).map V.int
  | [], _ => rfl
  | n :: r, h => by
    have ih := map_unf r fun x hx => h x (List.mem_cons_of_mem _ hx)
    have e := fig_int n (h n List.mem_cons_self)
    simp only [List.map_cons, List.filter_cons, if_true] at ih ⊢
    rw [ih]
    show V.int ((PySem.intText? (fig n)).getD 0) :: _ = _
    rw [e]
    rfl
theorem str_at {ls : List Str} {i : Nat} {x : V} (h : (ls.map V.str)[i]? = some x) : ∃ l, ls[i]? = some l ∧ x = .str l := by
  rw [List.getElem?_map] at h
  cases z : ls[i]? with
  | none => rw [z] at h; cases h
  | some r => rw [z] at h; exact ⟨r, rfl, (Option.some.inj h).symm⟩
theorem figs_eq : figsV = (List.range 10).map fun n => V.str (fig n) := by decide +kernel
theorem fig_iff (w : Str) : inV (.str w) figsV = true ↔ isFig w := by
  unfold inV
  rw [figs_eq, List.any_map, List.any_eq_true]
  constructor
  · rintro ⟨n, hn, e⟩
    exact ⟨n, List.mem_range.mp hn, (eq_of_beq (show (fig n == w) = true from e)).symm⟩
  · rintro ⟨n, hn, e⟩
    exact ⟨n, List.mem_range.mpr hn, (show (fig n == w) = true from by rw [e]; exact beq_self_eq_true _)⟩
theorem house_iff {t : NT} (h : ∀ row ∈ t, ∀ n ∈ row, n < 10) : houseB (up t) = true ↔ NHouse t := by
  constructor
  · intro e
    unfold houseB at e
    rw [Bool.and_eq_true, Bool.and_eq_true, List.all_eq_true, decide_eq_true_iff, decide_eq_true_iff, up_len] at e
    obtain ⟨⟨h1, h2⟩, h3⟩ := e
    refine ⟨by omega, by omega, fun row hr => ?_⟩
    have := h3 (cs row) (List.mem_map_of_mem hr)
    unfold rowB at this
    rw [Bool.and_eq_true, Bool.and_eq_true, decide_eq_true_iff, decide_eq_true_iff, cs_sum] at this
    obtain ⟨a, _, b⟩ := this
    have e : (cs row).length = row.length := by unfold cs; rw [List.length_map]
    refine ⟨by omega, fun n hn => by have := h row hr n hn; omega, by omega⟩
  · intro hh
    exact house_true (up_house hh)
structure Adr where
  StrollError : Addr
  NoHouse : Addr
  NoRoom : Addr
  NoCount : Addr
  NoShares : Addr
  NotBack : Addr
  Parted : Addr
  NoNote : Addr
  FIGURES : Addr
structure Clz (K : PySem.W.Frag) (mg : Str → Option Value) (z : Adr) : Prop where
  x_StrollError : mg "StrollError" = some (.ref z.StrollError)
  x_NoHouse : mg "NoHouse" = some (.ref z.NoHouse)
  x_NoRoom : mg "NoRoom" = some (.ref z.NoRoom)
  x_NoCount : mg "NoCount" = some (.ref z.NoCount)
  x_NoShares : mg "NoShares" = some (.ref z.NoShares)
  x_NotBack : mg "NotBack" = some (.ref z.NotBack)
  x_Parted : mg "Parted" = some (.ref z.Parted)
  x_NoNote : mg "NoNote" = some (.ref z.NoNote)
  r_NoNote : PySem.W.excIn K z.NoNote [.type "ValueError", .type "Exception", .type "BaseException", .type "object"] "ValueError.__new__" = true
  ga : PySem.W.findIn K (.ref z.NoNote) "__getattribute__" = some (some (.builtin "BaseException.__getattribute__"))
  gt : PySem.W.findIn K (.ref z.NoNote) "__getattr__" = some none
  ca : PySem.W.findIn K (.ref z.NoNote) "__class__" = some (some (.builtin "object.__class__"))
  mo : PySem.W.mroIn K z.NoNote (.type "object") = some true
  mb : PySem.W.mroIn K z.NoNote (.type "BaseException") = some true
  hn : PySem.W.specialIn K (.builtin "object.__class__") "__get__" = some (some (.builtin "getset_descriptor.__get__"))
  tk : PySem.W.takesIn K (.builtin "object.__class__") = some true
  ex : PySem.W.exmOne K (.ref z.NoNote) (.ref z.StrollError) = some true
  i_NoCount : PySem.W.kitOne K (.ref z.NoNote) (.ref z.NoCount) = some false
  i_NoHouse : PySem.W.kitOne K (.ref z.NoNote) (.ref z.NoHouse) = some false
  i_NoNote : PySem.W.kitOne K (.ref z.NoNote) (.ref z.NoNote) = some true
  i_NoRoom : PySem.W.kitOne K (.ref z.NoNote) (.ref z.NoRoom) = some false
  i_NoShares : PySem.W.kitOne K (.ref z.NoNote) (.ref z.NoShares) = some false
  i_NotBack : PySem.W.kitOne K (.ref z.NoNote) (.ref z.NotBack) = some false
  i_Parted : PySem.W.kitOne K (.ref z.NoNote) (.ref z.Parted) = some false
  i_ValueError : PySem.W.kitOne K (.ref z.NoNote) (.type "ValueError") = some true
  x_FIGURES : mg "FIGURES" = some (.ref z.FIGURES)
  t_FIGURES : ∀ H, SqT K H z.FIGURES figsV
theorem Clz.exc {z : Adr} (Z : Clz K mg z) : ExcK K z.NoNote := ⟨Z.ga, Z.gt, Z.ca, Z.mo, Z.mb, (by
  obtain ⟨cd, h, _⟩ := Option.bind_eq_some_iff.mp Z.mo
  rw [h]; rfl), Z.hn, Z.tk⟩
theorem n_law_which (D : DefAt K mg "_law_which" s_law_which ["e"] f fd) (T : Txt mg) {z : Adr} (Z : Clz K mg z) : CalleeN P w K mg base 1 "_law_which" ["e"] (spWhich z.NoNote "note") := by
  refine D.okN sc_law_which (fun vs H Q E h => ?_) (fun cdv A outer s H vs Q E hr h => ?_)
  · obtain ⟨a, rfl, _⟩ := h
    rfl
  · obtain ⟨a, rfl, ha, kk⟩ := h
    refine ⟨_, (pss_cons (ps_set (i := 1) sc_law_which.nd rfl (Or.inl rfl) (pe_lst (pa_cons (pe_callB call_isX rfl T.g_isinstance PyProof.Rows.boot_isinstance (pa_cons (pv 0) (pa_cons (pe_globR rfl Z.x_NoCount) pa_nil))) (pa_cons (pe_callB call_isX rfl T.g_isinstance PyProof.Rows.boot_isinstance (pa_cons (pv 0) (pa_cons (pe_globR rfl Z.x_NoHouse) pa_nil))) (pa_cons (pe_callB call_isX rfl T.g_isinstance PyProof.Rows.boot_isinstance (pa_cons (pv 0) (pa_cons (pe_globR rfl Z.x_NoNote) pa_nil))) (pa_cons (pe_callB call_isX rfl T.g_isinstance PyProof.Rows.boot_isinstance (pa_cons (pv 0) (pa_cons (pe_globR rfl Z.x_NoRoom) pa_nil))) pa_nil))))))
      (pss_cons (ps_set (i := 2) sc_law_which.nd rfl (Or.inl rfl) (pe_op op_cat (pv 1) (pe_lst (pa_cons (pe_callB call_isX rfl T.g_isinstance PyProof.Rows.boot_isinstance (pa_cons (pv 0) (pa_cons (pe_globR rfl Z.x_NoShares) pa_nil))) (pa_cons (pe_callB call_isX rfl T.g_isinstance PyProof.Rows.boot_isinstance (pa_cons (pv 0) (pa_cons (pe_globR rfl Z.x_NotBack) pa_nil))) (pa_cons (pe_callB call_isX rfl T.g_isinstance PyProof.Rows.boot_isinstance (pa_cons (pv 0) (pa_cons (pe_globR rfl Z.x_Parted) pa_nil))) pa_nil))))))
      (pss_cons (ps_if (PW.pt (pw_or (pt_not (pt_val (pe_callB call_isX rfl T.g_isinstance PyProof.Rows.boot_isinstance (pa_cons (pv 0) (pa_cons (pe_bltn (v := .ty "ValueError") rfl T.g_ValueError PyProof.Rows.Boot.«ValueError» rfl) pa_nil))))) (pw_or1 (pt_cmpR op_ne (pe_bm PySem.F.plainAttrs_list PySem.F.slot_list_count PySem.F.type_list_count mt_countB (pv 2) (pa_cons pe_bl pa_nil)) pe_int (nomark _))))) (pss_one (ps_ret pe_str)) pss_nil)
      (pss_one (ps_ret (pe_ix ix_list (pe_lst (pa_cons pe_str (pa_cons pe_str (pa_cons pe_str (pa_cons pe_str (pa_cons pe_str (pa_cons pe_str (pa_cons pe_str pa_nil)))))))) (pe_bm PySem.F.plainAttrs_list PySem.F.slot_list_index PySem.F.type_list_index mt_indexB (pv 2) (pa_cons pe_bl pa_nil)) (fun _ _ => rfl))))))), ?_⟩
    have X0 := Z.exc
    refine ⟨_, rfl, a, _, _, _, rfl, ha, Z.exc, ⟨_, .inl ⟨rfl, Z.i_NoCount⟩⟩, _, rfl, a, _, _, _, rfl, ha, Z.exc, ⟨_, .inl ⟨rfl, Z.i_NoHouse⟩⟩, _, rfl, a, _, _, _, rfl, ha, Z.exc, ⟨_, .inl ⟨rfl, Z.i_NoNote⟩⟩, _, rfl, a, _, _, _, rfl, ha, Z.exc, ⟨_, .inl ⟨rfl, Z.i_NoRoom⟩⟩, small_line (by decide), fun lo hlo => ?_⟩
    have s1 : Same H (upd H lo (.lst [.bl false, .bl false, .bl true, .bl false])) := Same.upd_new hlo
    have ha1 := s1 _ _ ha
    refine ⟨_, rfl, _, rfl, a, _, _, _, rfl, ha1, Z.exc, ⟨_, .inl ⟨rfl, Z.i_NoShares⟩⟩, _, rfl, a, _, _, _, rfl, ha1, Z.exc, ⟨_, .inl ⟨rfl, Z.i_NotBack⟩⟩, _, rfl, a, _, _, _, rfl, ha1, Z.exc, ⟨_, .inl ⟨rfl, Z.i_Parted⟩⟩, small_line (by decide), fun l2 hl2 => ?_⟩
    have s2 : Same (upd H lo (.lst [.bl false, .bl false, .bl true, .bl false])) (upd (upd H lo (.lst [.bl false, .bl false, .bl true, .bl false])) l2 (.lst [.bl false, .bl false, .bl false])) := Same.upd_new hl2
    refine ⟨lo, l2, _, _, rfl, rfl, s2 _ _ upd_same, upd_same, small_line (by decide), fun p hp => ?_⟩
    have s3 := Same.upd_new (o := .lst ([.bl false, .bl false, .bl true, .bl false] ++ [.bl false, .bl false, .bl false])) hp
    have sA := (s1.trans s2).trans s3
    have ha3 := sA _ _ ha
    have tl : SqL K (upd (upd (upd H lo (.lst [.bl false, .bl false, .bl true, .bl false])) l2 (.lst [.bl false, .bl false, .bl false])) p (.lst ([.bl false, .bl false, .bl true, .bl false] ++ [.bl false, .bl false, .bl false]))) p ([false, false, true, false, false, false, false].map V.bl) := SqL.of upd_same
    refine ⟨_, rfl, a, _, _, _, rfl, ha3, Z.exc, ⟨p, .inr ⟨_, rfl, Z.i_ValueError⟩⟩, _, rfl, notT ?_⟩
    refine ⟨_, rfl, .inl ⟨rfl, _, tl⟩, p, _, true, rfl, rfl, tl, rfl, _, rfl, iteNS rfl ?_⟩
    refine ⟨small_line (by decide), fun p4 hp4 => ?_⟩
    have s4 := Same.upd_new (o := .lst [.str "count", .str "house", .str "note", .str "room", .str "shares", .str "back", .str "parted"]) hp4
    refine ⟨_, rfl, .inl ⟨rfl, _, s4.seq tl⟩, p, _, true, 2, rfl, rfl, s4.seq tl, by decide, rfl, by decide, p4, _, 2, _, rfl, rfl, SqL.of upd_same, rfl, kk _ (sA.trans s4)⟩
def spReadRowX (C : Addr) : Sp := fun vs H Q E => ∃ line : Str, vs = [.str line] ∧ line.length ≤ 900 ∧ (∀ row, FigRow line row → ∀ (H' : Hp) (d : Addr), Same H H' → NL H' d row → H d = none → Q (.ref d) H') ∧ ((¬ ∃ row, FigRow line row) → ∀ H', Same H H' → E (.ref C) none H')
theorem map_in (ws : List Str) : (((ws.map V.str).filter fun _ => true).map fun v => V.bl (inV v figsV)) = (ws.map fun w => inV (.str w) figsV).map V.bl := by
  rw [filt_true, List.map_map, List.map_map]
  rfl
theorem notF {A B : Prop} (h : A) : if (!false) = true then A else B := h
theorem x_read_row (D : DefAt K mg "read_row" s_read_row ["line"] f fd) (T : Txt mg) {z : Adr} (Z : Clz K mg z) : CalleeX P w K mg base 1 "read_row" ["line"] (spReadRowX z.NoNote) := by
  refine D.okX sc_read_row (fun vs H Q E h => ?_) (fun cdv A outer s H vs Q E hr h => ?_)
  · obtain ⟨line, rfl, _⟩ := h
    rfl
  · obtain ⟨line, rfl, ll, good, bad⟩ := h
    refine ⟨_, (pss_cons (ps_set (i := 1) sc_read_row.nd rfl (Or.inl rfl) (pe_bm PySem.F.plainAttrs_str PySem.F.slot_str_split PySem.F.type_str_split mt_split (pv 0) (pa_cons pe_str pa_nil)))
      (pss_cons (ps_if (pt_not (pt_val (pe_callB (call_allB rfl) rfl T.g_all PyProof.Rows.boot_all (pa_cons (pe_comp (N := ["word"]) (ix := [none]) rfl (CompOk.of (by rfl)) (pi_list (pv 1)) (fun _ _ _ _ => (pg_name (i := 0) (show List.Nodup (["word"] : List Str) by decide +kernel) rfl (Or.inl rfl))) (fun _ _ _ _ => pts_nil) (fun _ _ _ _ => (pe_cmpR (op_in_seqK (K := K) rfl) (pv 0) (pe_globR rfl Z.x_FIGURES) rfl))) pa_nil)))) (pss_one (ps_raise cx_leaves rfl rfl Z.x_NoNote Z.r_NoNote (pa_cons pe_str pa_nil))) pss_nil)
      (pss_one (ps_ret (pe_comp (N := ["word"]) (ix := [none]) rfl (CompOk.of (by rfl)) (pi_list (pv 1)) (fun _ _ _ _ => (pg_name (i := 0) (show List.Nodup (["word"] : List Str) by decide +kernel) rfl (Or.inl rfl))) (fun _ _ _ _ => pts_nil) (fun _ _ _ _ => (pe_callTy call_intS rfl T.g_int PyProof.Rows.boot_int (pa_cons (pv 0) pa_nil)))))))), ?_⟩
    refine ⟨_, rfl, rfl, _, _, rfl, rfl, (by rw [blank_eq]; rfl), (by omega), fun W hW => ?_⟩
    have sw := (split_small line 32).1
    rw [← blank_eq] at sw
    have rw_ : ∀ row, FigRow line row ↔ (Txt.split line (" " : Str) = row.map fig ∧ ∀ n ∈ row, n < 10) := fun row => by rw [blank_eq]; exact Iff.rfl
    generalize Txt.split line (" " : Str) = ws at sw rw_ ⊢
    have s1 : Same H (upd H W (.lst (ws.map V.str))) := Same.upd_new hW
    have e1 : upd H W (.lst (ws.map V.str)) W = some (.lst (ws.map V.str)) := upd_same
    generalize upd H W (.lst (ws.map V.str)) = H1 at s1 e1 ⊢
    have hl : (ws.map V.str).length ≤ sizeLine := by rw [List.length_map]; exact small_line (by omega)
    refine ⟨_, rfl, W, rfl, ⟨_, SqL.of e1⟩, fun Dl hD => comp_pure (fun _ => true) (fun v => .bl (inV v figsV)) hl (SqL.of e1) hD (fun x _ ys R h => h) (fun x hx _ ys R h => ?_) ?_⟩
    · obtain ⟨w', _, rfl⟩ := List.mem_map.mp hx
      exact ⟨_, rfl, _, _, rfl, .inr (Z.t_FIGURES _), rfl, rfl, h⟩
    rw [map_in]
    have s2 : Same H1 (upd H1 Dl (.lst ((ws.map fun w => inV (.str w) figsV).map V.bl))) := Same.upd_new hD
    have eD : upd H1 Dl (.lst ((ws.map fun w => inV (.str w) figsV).map V.bl)) Dl = _ := upd_same
    have e2 := s2 _ _ e1
    generalize upd H1 Dl (.lst ((ws.map fun w => inV (.str w) figsV).map V.bl)) = H2 at s2 eD e2 ⊢
    have s12 := s1.trans s2
    refine ⟨Dl, _, rfl, SqL.of eD, _, rfl, ?_⟩
    cases hall : ((ws.map fun w => inV (.str w) figsV).all id) with
    | false =>
      refine notF ⟨small_line (by decide), bad (fun ⟨row, hrow⟩ => ?_) H2 s12⟩
      have h1 := ((rw_ row).mp hrow).1
      have h2 := ((rw_ row).mp hrow).2
      have : ((ws.map fun w => inV (.str w) figsV).all id) = true := by
        rw [List.all_map, List.all_eq_true, h1]
        intro w' hw'
        obtain ⟨n, hn, rfl⟩ := List.mem_map.mp hw'
        exact (fig_iff _).mpr ⟨n, h2 n hn, rfl⟩
      rw [hall] at this
      cases this
    | true =>
      refine notT ?_
      have hf : ∀ w ∈ ws, isFig w := fun w' hw' => by
        rw [List.all_map, List.all_eq_true] at hall
        exact (fig_iff w').mp (hall w' hw')
      obtain ⟨row, er, r9⟩ := words_row ws hf
      have fr : FigRow line row := (rw_ row).mpr ⟨er, r9⟩
      subst er
      refine ⟨_, rfl, W, rfl, ⟨_, SqL.of e2⟩, fun F hF => comp_pure (fun _ => true) unfV hl (SqL.of e2) hF (fun x _ ys R h => h) (fun x hx _ ys R h => ?_) ?_⟩
      · obtain ⟨k, hk, rfl⟩ := List.mem_map.mp hx
        obtain ⟨n, hn, rfl⟩ := List.mem_map.mp hk
        have e := fig_int n (r9 n hn)
        refine ⟨_, rfl, fig n, (n : Int), rfl, e, (by show 1 ≤ 640; decide), ?_⟩
        have h' : R (.int ((PySem.intText? (fig n)).getD 0)) _ := h
        rw [e] at h'
        exact h'
      · rw [map_unf row r9]
        exact good row fr _ F (s12.trans (Same.upd_new hF)) upd_same (s12.free hF)
def spReadX (C : Addr) : Sp := fun vs H Q E => ∃ text : Str, vs = [.str text] ∧ text.length ≤ 900 ∧ (∀ t, FigText text t → NHouse t → ∀ (H' : Hp) (d : Addr) (rs : List Addr), Same H H' → Tab H' d rs (up t) → Q (.ref d) H') ∧ ((¬ ∃ t, FigText text t ∧ NHouse t) → ∀ H', Same H H' → E (.ref C) none H')
theorem x_read (D : DefAt K mg "read" s_read ["text"] f fd) (T : Txt mg) {z : Adr} (Z : Clz K mg z) (X_read_row : CalleeX P w K mg base 1 "read_row" ["line"] (spReadRowX z.NoNote)) (G_is_house : Callee P w K mg base 2 "is_house" ["table"] spIsHouse) : CalleeX P w K mg base 3 "read" ["text"] (spReadX z.NoNote) := by
  refine D.okX sc_read (fun vs H Q E h => ?_) (fun cdv A outer s H vs Q E hr h => ?_)
  · obtain ⟨t, rfl, _⟩ := h
    rfl
  · obtain ⟨text, rfl, tl, good, bad⟩ := h
    refine ⟨_, (pss_cons (ps_compE (E' := E) (i := 1) (N := ["line"]) (ix := [none]) rfl rfl (cx_passesC fun _ _ _ h => h) sc_read.nd rfl rfl rfl (CompOk.of (by rfl)) (pi_list (pe_bm PySem.F.plainAttrs_str PySem.F.slot_str_split PySem.F.type_str_split mt_split (pv 0) (pa_cons pe_str pa_nil))) (fun _ _ _ _ => (pg_name (i := 0) (show List.Nodup (["line"] : List Str) by decide +kernel) rfl (Or.inl rfl))) (fun _ _ _ _ => pts_nil) (fun _ _ _ _ => (pe_defX X_read_row xc_passes (hr.mono (by decide)) rfl (pa_cons (pv 0) pa_nil))))
      (pss_cons (ps_if (pt_not (pt_val (pe_def G_is_house (hr.mono (by decide)) rfl (pa_cons (pv 1) pa_nil)))) (pss_one (ps_raise cx_leaves rfl rfl Z.x_NoNote Z.r_NoNote (pa_cons pe_str pa_nil))) pss_nil)
      (pss_one (ps_ret (pv 1))))), ?_⟩
    refine ⟨_, rfl, rfl, _, _, rfl, rfl, (by rw [line_eq]; rfl), (by omega), fun W hW => ?_⟩
    obtain ⟨sw, sw2⟩ := split_small text 10
    rw [← line_eq] at sw sw2
    have ft : ∀ t, FigText text t ↔ Paired FigRow (Txt.split text ("\n" : Str)) t := fun t => by rw [line_eq]; exact Iff.rfl
    generalize Txt.split text ("\n" : Str) = ls at sw sw2 ft ⊢
    have s1 : Same H (upd H W (.lst (ls.map V.str))) := Same.upd_new hW
    have e1 : upd H W (.lst (ls.map V.str)) W = some (.lst (ls.map V.str)) := upd_same
    generalize upd H W (.lst (ls.map V.str)) = H1 at s1 e1 ⊢
    have hl : (ls.map V.str).length = ls.length := List.length_map _
    refine ⟨W, rfl, ⟨_, SqL.of e1⟩, fun F hF => comp_list (xs := ls.map V.str) (fun i ys H' => ∃ (qs : List Addr) (t : NT), ys = qs.map V.ref ∧ qs.length = i ∧ Same H1 H' ∧ Tab H' F qs (up t) ∧ Paired FigRow (ls.take i) t) (by rw [hl]; exact small_line (by omega))
      ⟨[], [], rfl, rfl, Same.upd_new hF, ⟨upd_same, .nil, List.nodup_nil⟩, .nil⟩ (fun i ys H' hi ⟨qs, t, e, ql, s2, _⟩ => ⟨s2.seq (SqL.of e1), by rw [e, List.length_map, ql]; exact Nat.le_refl _⟩) ?_ ?_⟩
    · rintro i x ys H' hx ⟨qs, t, rfl, ql, s2, tb, pt⟩
      obtain ⟨l, hl', rfl⟩ := str_at hx
      have l900 := sw2 l (List.mem_of_getElem? hl')
      refine ⟨_, rfl, l, rfl, by omega, fun row fr H4 d s4 nl hd => ?_, fun no H4 s4 => ?_⟩
      · have tb4 := tb.same s4
        have n1 : d ∉ qs := fun z => by
          obtain ⟨row, _, e⟩ := tb.there z
          rw [hd] at e
          cases e
        have n2 : d ≠ F := fun z => by
          have := tb.top
          rw [← z, hd] at this
          cases this
        refine ⟨tb4.top, qs ++ [d], t ++ [row], by rw [List.map_append]; rfl, by rw [List.length_append, ql]; rfl, (s2.trans s4).new hF, ?_, pr_snoc pt hl' fr⟩
        have := tb4.push (row := cs row) nl n1 n2
        rw [List.map_append] at this
        unfold up at this ⊢
        rw [List.map_append]
        exact this
      · refine bad (fun ⟨t', f', _⟩ => no ?_) H4 (s1.trans (s2.trans s4))
        obtain ⟨row, _, e⟩ := pr_get ((ft t').mp f') hl'
        exact ⟨row, e⟩
    · rintro ys H' ⟨qs, t, rfl, ql, s2, tb, pt⟩
      rw [hl, List.take_length] at pt
      have fT : FigText text t := (ft t).mpr pt
      obtain ⟨t1, t2, t3⟩ := fT.small
      have sm : Small 1000 (up t) := ⟨by rw [up_len]; omega, fun row hr => by
        obtain ⟨r, hr', rfl⟩ := List.mem_map.mp hr
        have := (t3 r hr').1
        have e : (cs r).length = r.length := by unfold cs; rw [List.length_map]
        omega⟩
      have hi := house_iff (t := t) fun row hr => (t3 row hr).2
      refine ⟨_, rfl, F, qs, up t, rfl, tb, sm, fun H5 s5 => ⟨_, rfl, ?_⟩⟩
      have s05 := s1.trans (s2.trans s5)
      cases hb : houseB (up t) with
      | true => exact notT ⟨_, rfl, good t fT (hi.mp hb) H5 F qs s05 (tb.same s5)⟩
      | false =>
        refine notF ⟨small_line (by decide), bad (fun ⟨t', f', h'⟩ => ?_) H5 s05⟩
        have := f'.one fT
        subst this
        rw [hi.mpr h'] at hb
        cases hb
def spWritten : Sp := fun vs H Q _ => ∃ text : Str, vs = [.str text] ∧ text.length ≤ 900 ∧ (∀ t, FigText text t → NHouse t → ∀ (H' : Hp) (d : Addr) (rs : List Addr), Same H H' → Tab H' d rs (up t) → Q (.ref d) H') ∧ ((¬ ∃ t, FigText text t ∧ NHouse t) → ∀ H', Same H H' → Q .non H')
theorem iteS {c A B : Prop} [Decidable c] (hc : ¬ c) (h : A) : if (!decide c) = true then A else B := by
  rw [decide_eq_false hc]
  exact h
theorem iteT' {b : Bool} {A B : Prop} (e : b = true) (h : A) : if b = true then A else B := by
  rw [if_pos e]
  exact h
theorem iteF' {b : Bool} {A B : Prop} (e : b = false) (h : B) : if b = true then A else B := by
  rw [if_neg (by rw [e]; exact Bool.false_ne_true)]
  exact h
theorem c_law_written (D : DefAt K mg "_law_written" s_law_written ["text"] f fd) (T : Txt mg) : Callee P w K mg base 1 "_law_written" ["text"] spWritten := by
  refine D.ok sc_law_written (fun vs H Q E h => ?_) (fun cdv A outer s H vs Q E hr h => ?_)
  · obtain ⟨t, rfl, _⟩ := h
    rfl
  · obtain ⟨text, rfl, tl, good, bad⟩ := h
    refine ⟨_, (pss_cons (ps_set (i := 1) sc_law_written.nd rfl (Or.inl rfl) (pe_lst pa_nil))
      (pss_cons (ps_for PassesOwn.never rfl (pi_list (pe_bm PySem.F.plainAttrs_str PySem.F.slot_str_split PySem.F.type_str_split mt_split (pv 0) (pa_cons pe_str pa_nil))) (pg_name (i := 2) sc_law_written.nd rfl (Or.inl rfl))
      (pss_cons (ps_set (i := 3) sc_law_written.nd rfl (Or.inl rfl) (pe_bm PySem.F.plainAttrs_str PySem.F.slot_str_split PySem.F.type_str_split mt_split (pv 2) (pa_cons pe_str pa_nil)))
      (pss_cons (ps_for PassesOwn.never rfl (pi_list (pv 3)) (pg_name (i := 4) sc_law_written.nd rfl (Or.inl rfl))
      (pss_one (ps_if (pt_cmpR (op_notIn_seq) (pv 4) (pe_lst (pa_all (.cons (.cons (.cons (.cons (.cons (.cons (.cons (.cons (.cons (.cons .nil)))))))))))) rfl) (pss_one (ps_ret pe_non)) pss_nil)))
      (pss_one (ps_expr (pe_bm PySem.F.plainAttrs_list PySem.F.slot_list_append PySem.F.type_list_append mt_append (pv 1) (pa_cons (pe_comp (N := ["word"]) (ix := [none]) rfl (CompOk.of (by rfl)) (pi_list (pv 3)) (fun _ _ _ _ => (pg_name (i := 0) (show List.Nodup (["word"] : List Str) by decide +kernel) rfl (Or.inl rfl))) (fun _ _ _ _ => pts_nil) (fun _ _ _ _ => (pe_bmK (K := K) rfl PySem.F.plainAttrs_str PySem.F.slot_str_index PySem.F.type_str_index mt_indexS pe_str (pa_cons (pv 0) pa_nil)))) pa_nil)))))))
      (pss_cons (ps_if (pt_cmpR op_gt (pe_callB call_len_seq rfl T.g_len PySem.boot_len (pa_cons (pv 1) pa_nil)) pe_int (nomark _)) (pss_one (ps_ret pe_non)) pss_nil)
      (pss_cons (ps_for PassesOwn.never rfl (pi_list (pv 1)) (pg_name (i := 5) sc_law_written.nd rfl (Or.inl rfl))
      (pss_one (ps_if (PW.pt (pw_or (pt_cmpR op_ne (pe_callB call_len_seq rfl T.g_len PySem.boot_len (pa_cons (pv 5) pa_nil)) (pe_callB call_len_seq rfl T.g_len PySem.boot_len (pa_cons (pv 1) pa_nil)) (nomark _)) (pw_or1 (pt_cmpR op_eq (pe_callB (call_sumI rfl) rfl T.g_sum PyProof.Rows.boot_sum (pa_cons (pv 5) pa_nil)) pe_int (nomark _))))) (pss_one (ps_ret pe_non)) pss_nil)))
      (pss_one (ps_ret (pv 1))))))), ?_⟩
    refine ⟨Nat.zero_le _, fun T0 hT0 => ?_⟩
    refine ⟨_, rfl, rfl, _, _, rfl, rfl, (by rw [line_eq]; rfl), (by omega), fun W hW => ?_⟩
    obtain ⟨sw, sw2⟩ := split_small text 10
    rw [← line_eq] at sw sw2
    have ft : ∀ t, FigText text t ↔ Paired FigRow (Txt.split text ("\n" : Str)) t := fun t => by rw [line_eq]; exact Iff.rfl
    generalize Txt.split text ("\n" : Str) = ls at sw sw2 ft ⊢
    have WT : W ≠ T0 := fun z => by rw [z, upd_same] at hW; cases hW
    have s1 : Same H (upd (upd H T0 (.lst [])) W (.lst (ls.map V.str))) := (Same.upd_new hT0).trans (Same.upd_new hW)
    have e1 : upd (upd H T0 (.lst [])) W (.lst (ls.map V.str)) W = some (.lst (ls.map V.str)) := upd_same
    have t1 : Tab (upd (upd H T0 (.lst [])) W (.lst (ls.map V.str))) T0 [] (up []) := ⟨by rw [upd_ne (Ne.symm WT)]; exact upd_same, .nil, List.nodup_nil⟩
    generalize upd (upd H T0 (.lst [])) W (.lst (ls.map V.str)) = H1 at s1 e1 t1 ⊢
    have hl : (ls.map V.str).length = ls.length := List.length_map _
    refine ⟨W, rfl, ⟨_, SqL.of e1⟩, for_list (K := K) (a := W) (xs := ls.map V.str) (fun i σ H' => ∃ (o2 o3 o4 : Option V) (qs : List Addr) (t : NT), σ = [some (.str text), some (.ref T0), o2, o3, o4, none] ∧ Same H H' ∧ H' W = some (.lst (ls.map V.str)) ∧ qs.length = i ∧ Tab H' T0 qs (up t) ∧ Paired FigRow (ls.take i) t)
      ⟨none, none, none, [], [], rfl, s1, e1, rfl, t1, .nil⟩ (fun i σ H' _ ⟨_, _, _, _, _, _, _, e, _⟩ => SqL.of e) ?_ ?_⟩
    · rintro i x σ H2 hx ⟨o2, o3, o4, qs, t, rfl, s2, eW, ql, tb, pt⟩
      obtain ⟨l, hl', rfl⟩ := str_at hx
      have l900 := sw2 l (List.mem_of_getElem? hl')
      have il : i < ls.length := (List.getElem?_eq_some_iff.mp hl').1
      refine ⟨_, rfl, rfl, _, _, rfl, rfl, (by rw [blank_eq]; rfl), (by omega), fun W2 hW2 => ?_⟩
      have swl := (split_small l 32).1
      rw [← blank_eq] at swl
      have rw_ : ∀ row, FigRow l row ↔ (Txt.split l (" " : Str) = row.map fig ∧ ∀ n ∈ row, n < 10) := fun row => by rw [blank_eq]; exact Iff.rfl
      generalize Txt.split l (" " : Str) = ws at swl rw_ ⊢
      have s3 : Same H2 (upd H2 W2 (.lst (ws.map V.str))) := Same.upd_new hW2
      have e3 : upd H2 W2 (.lst (ws.map V.str)) W2 = some (.lst (ws.map V.str)) := upd_same
      have n2 : W2 ≠ T0 := fun z => by rw [z, tb.top] at hW2; cases hW2
      generalize upd H2 W2 (.lst (ws.map V.str)) = H3 at s3 e3 ⊢
      have hlw : (ws.map V.str).length = ws.length := List.length_map _
      refine ⟨_, rfl, W2, rfl, ⟨_, SqL.of e3⟩, for_list (K := K) (a := W2) (xs := ws.map V.str) (fun j σ H' => ∃ o4 : Option V, σ = [some (.str text), some (.ref T0), some (.str l), some (.ref W2), o4, none] ∧ Same H3 H' ∧ ∀ m v, m < j → ws[m]? = some v → isFig v)
        ⟨o4, rfl, Same.refl H3, fun m v h => absurd h (Nat.not_lt_zero m)⟩ (fun j σ H' _ ⟨_, _, s4, _⟩ => s4.seq (SqL.of e3)) ?_ ?_⟩
      · rintro j y σ H4 hy ⟨o4, rfl, s4, hf⟩
        obtain ⟨v, hv, rfl⟩ := str_at hy
        refine ⟨_, rfl, small_line (by show 10 ≤ 1000; decide), fun L hL => ?_⟩
        have s5 : Same H4 (upd H4 L (.lst figsV)) := Same.upd_new hL
        refine ⟨L, figsV, rfl, .inl (SqL.of upd_same), rfl, rfl, _, rfl, ?_⟩
        show if (!inV (.str v) figsV) = true then _ else _
        cases hin : inV (.str v) figsV with
        | false =>
          refine notF (bad (fun ⟨t', f', _⟩ => ?_) _ (s2.trans (s3.trans (s4.trans s5))))
          obtain ⟨row, _, fr⟩ := pr_get ((ft t').mp f') hl'
          have h1 := (rw_ row).mp fr
          rw [h1.1] at hv
          obtain ⟨n, hn, e⟩ := List.mem_map.mp (List.mem_of_getElem? hv)
          have := (fig_iff v).mpr ⟨n, h1.2 n hn, e.symm⟩
          rw [hin] at this
          cases this
        | true =>
          refine notT ⟨_, rfl, s4.trans s5, fun m u hm hu => ?_⟩
          by_cases z : m = j
          · rw [z, hv] at hu
            cases hu
            exact (fig_iff v).mp hin
          · exact hf m u (by omega) hu
      · rintro σ H4 ⟨o4, rfl, s4, hf⟩
        rw [hlw] at hf
        obtain ⟨row, er, r9⟩ := words_row ws fun v hv => by
          obtain ⟨m, hm⟩ := List.getElem?_of_mem hv
          exact hf m v (List.getElem?_eq_some_iff.mp hm).1 hm
        have fr : FigRow l row := (rw_ row).mpr ⟨er, r9⟩
        subst er
        have s24 := s3.trans s4
        have e4 := s4 _ _ e3
        have tb4 := tb.same s24
        refine ⟨_, rfl, .inl ⟨rfl, _, SqL.of tb4.top⟩, _, rfl, W2, rfl, ⟨_, SqL.of e4⟩, fun F hF => comp_pure (fun _ => true) unfV (by rw [hlw]; exact small_line (by omega)) (SqL.of e4) hF (fun x _ ys R h => h) (fun x hx _ ys R h => ?_) ?_⟩
        · obtain ⟨k, hk, rfl⟩ := List.mem_map.mp hx
          obtain ⟨n, hn, rfl⟩ := List.mem_map.mp hk
          have e := fig_int n (r9 n hn)
          refine ⟨rfl, _, rfl, _, fig n, n, [], rfl, rfl, fig_at n (r9 n hn), ?_⟩
          have h' : R (.int ((PySem.intText? (fig n)).getD 0)) _ := h
          rw [e] at h'
          exact h'
        · rw [map_unf row r9]
          have s5 : Same H4 (upd H4 F (.lst ((cs row).map V.int))) := Same.upd_new hF
          have eF : upd H4 F (.lst ((cs row).map V.int)) F = _ := upd_same
          have tb5 := tb4.same s5
          have n1 : F ∉ qs := fun z => by
            obtain ⟨row, _, e⟩ := tb4.there z
            rw [hF] at e
            cases e
          have n3 : F ≠ T0 := fun z => by
            have := tb4.top
            rw [← z, hF] at this
            cases this
          generalize upd H4 F (.lst ((cs row).map V.int)) = H5 at s5 eF tb5 ⊢
          have s25 := s24.trans s5
          refine ⟨T0, _, _, rfl, rfl, tb5.top, small1000 (by rw [List.length_map, ql]; omega), ?_⟩
          refine ⟨_, _, _, qs ++ [F], t ++ [row], rfl, (s2.trans s25).new hT0, ?_, by rw [List.length_append, ql]; rfl, ?_, pr_snoc pt hl' fr⟩
          · rw [upd_ne WT]
            exact s25 _ _ eW
          · have := tb5.push (row := cs row) eF n1 n3
            rw [List.map_append] at this
            unfold up at this ⊢
            rw [List.map_append]
            exact this
    rintro σ H2 ⟨o2, o3, o4, qs, t, rfl, s2, eW, ql, tb, pt⟩
    rw [hl, List.take_length] at pt
    rw [hl] at ql
    have fT : FigText text t := (ft t).mpr pt
    obtain ⟨t1', t2, t3⟩ := fT.small
    have qt : qs.length = t.length := by rw [tb.len, up_len]
    have qm : (qs.map V.ref).length = t.length := by rw [List.length_map, qt]
    refine ⟨_, rfl, T0, _, rfl, .inl (SqL.of tb.top), _, _, rfl, rfl, _, rfl, ?_⟩
    refine ite2 (fun hgt => ?_) (fun hle => ?_)
    · refine bad (fun ⟨t', f', h'⟩ => ?_) H2 s2
      have := f'.one fT
      subst this
      have h1 : (8 : Int) < ((qs.map V.ref).length : Int) := of_decide_eq_true hgt
      have := h'.hi
      rw [qm] at h1
      omega
    have t8 : t.length ≤ 8 := by
      have h1 : ¬ (8 : Int) < ((qs.map V.ref).length : Int) := fun z => hle (decide_eq_true z)
      rw [qm] at h1
      omega
    refine ⟨_, rfl, T0, rfl, ⟨_, SqL.of tb.top⟩, for_list (K := K) (a := T0) (xs := qs.map V.ref) (fun i σ H' => ∃ o5 : Option V, σ = [some (.str text), some (.ref T0), o2, o3, o4, o5] ∧ H' = H2 ∧ ∀ m r, m < i → t[m]? = some r → r.length = t.length ∧ 0 < r.sum)
      ⟨none, rfl, rfl, fun m r h => absurd h (Nat.not_lt_zero m)⟩ (fun i σ H' _ ⟨_, _, e, _⟩ => by rw [e]; exact SqL.of tb.top) ?_ ?_⟩
    · rintro i y σ H' hy ⟨o5, rfl, rfl, hf⟩
      obtain ⟨ra, hra, rfl⟩ := ref_at hy
      obtain ⟨row, hrow', er0⟩ := pr_get tb.rows hra
      unfold up at hrow'
      rw [List.getElem?_map] at hrow'
      obtain ⟨r, hrow, rfl⟩ := Option.map_eq_some_iff.mp hrow'
      have er : H' ra = some (.lst ((cs r).map V.int)) := er0
      have rl : ((cs r).map V.int).length = r.length := cs_len r
      have isBad : ∀ P : Prop, (NHouse t → False) → Q .non H' := fun _ hn => bad (fun ⟨t', f', h'⟩ => by
        have := f'.one fT
        subst this
        exact hn h') H' s2
      refine ⟨_, rfl, ra, _, rfl, .inl (SqL.of er), _, rfl, T0, _, rfl, .inl (SqL.of tb.top), rfl, _, rfl, ?_⟩
      by_cases hlen : r.length = t.length
      · refine iteNS (by rw [rl, qm, hlen]) ?_
        refine ⟨_, rfl, ra, _, rfl, SqL.of er, rfl, _, rfl, ?_⟩
        by_cases hs : r.sum = 0
        · refine iteT' (decide_eq_true (by rw [cs_sum, hs]; rfl)) ?_
          refine isBad True fun h' => ?_
          have := (h'.rows r (List.mem_of_getElem? hrow)).2.2
          omega
        · refine iteF' (decide_eq_false (fun z => hs (by
            have := V.int.inj z
            rw [cs_sum] at this
            omega))) ?_
          refine ⟨_, rfl, rfl, fun m r' hm hr' => ?_⟩
          by_cases z : m = i
          · rw [z, hrow] at hr'
            cases hr'
            exact ⟨hlen, by omega⟩
          · exact hf m r' (by omega) hr'
      · refine iteS (fun z => hlen ?_) ?_
        · have := V.int.inj z
          rw [rl, qm] at this
          omega
        · refine isBad True fun h' => hlen ?_
          exact (h'.rows r (List.mem_of_getElem? hrow)).1
    · rintro σ H' ⟨o5, rfl, rfl, hf⟩
      rw [qm] at hf
      refine ⟨_, rfl, good t fT ⟨t1', t8, fun r hr => ?_⟩ H' T0 qs s2 tb⟩
      obtain ⟨m, hm⟩ := List.getElem?_of_mem hr
      obtain ⟨a, b⟩ := hf m r (List.getElem?_eq_some_iff.mp hm).1 hm
      exact ⟨a, fun n hn => by have := (t3 r hr).2 n hn; omega, b⟩
def spChanged : Sp := fun vs H Q _ => ∃ (text : Str) (cell : Int), vs = [.str text, .int cell] ∧ 0 ≤ cell ∧ text.length ≤ 400 ∧ ∀ text' : Str, text'.length ≤ 2 * text.length + 1 → Q (.str text') H
theorem sign_at : ∀ n : Nat, n < 18 → ∃ c, ("0123456789 \n\t-+_x." : Str).cps.toList[n]? = some c := by
  intro n hn
  have h : ("0123456789 \n\t-+_x." : Str).cps.toList.length = 18 := by decide +kernel
  exact ⟨_, List.getElem?_eq_getElem (by omega)⟩
theorem slice_le' (a : Str) (lo hi : Option Int) : (Txt.slice a lo hi).length ≤ a.length := Txt.slice_le a lo hi
theorem c_law_changed (D : DefAt K mg "_law_changed" s_law_changed ["text", "cell"] f fd) (T : Txt mg) : Callee P w K mg base 1 "_law_changed" ["text", "cell"] spChanged := by
  refine D.ok sc_law_changed (fun vs H Q E h => ?_) (fun cdv A outer s H vs Q E hr h => ?_)
  · obtain ⟨t, c, rfl, _⟩ := h
    rfl
  · obtain ⟨text, cell, rfl, c0, tl, kk⟩ := h
    have ls : ∀ n, n ≤ 1000 → n ≤ sizeLine := fun n h => small_line h
    refine ⟨_, (pss_cons (ps_set (i := 2) sc_law_changed.nd rfl (Or.inl rfl) (pe_op op_mod (pe_op op_fdiv (pv 1) pe_int) (pe_op op_add (pe_callB call_len_str rfl T.g_len PySem.boot_len (pa_cons (pv 0) pa_nil)) pe_int)))
      (pss_cons (ps_set (i := 3) sc_law_changed.nd rfl (Or.inl rfl) (pe_ix ix_str pe_str (pe_op op_mod (pe_op op_fdiv (pv 1) pe_int) pe_int) (fun _ _ => rfl)))
      (pss_cons (ps_if (pt_cmpR op_eq (pe_op op_mod (pv 1) pe_int) pe_int (nomark _)) (pss_one (ps_ret (pe_op op_add_str (pe_slice sl_str (pv 0) po_none (po_some (pv 2))) (pe_slice sl_str (pv 0) (po_some (pe_op op_add (pv 2) pe_int)) po_none)))) pss_nil)
      (pss_cons (ps_if (pt_cmpR op_eq (pe_op op_mod (pv 1) pe_int) pe_int (nomark _)) (pss_one (ps_ret (pe_op op_add_str (pe_op op_add_str (pe_slice sl_str (pv 0) po_none (po_some (pv 2))) (pv 3)) (pe_slice sl_str (pv 0) (po_some (pv 2)) po_none)))) pss_nil)
      (pss_one (ps_ret (pe_op op_add_str (pe_op op_add_str (pe_slice sl_str (pv 0) po_none (po_some (pv 2))) (pv 3)) (pe_slice sl_str (pv 0) (po_some (pe_op op_add (pv 2) pe_int)) po_none)))))))), ?_⟩
    refine ⟨_, rfl, _, _, rfl, rfl, ⟨by decide, by decide⟩, _, rfl, text, rfl, ls _ (by omega), _, _, rfl, rfl, _, _, rfl, rfl, (by show (0 : Int) < (text.length : Int) + 1; omega), ?_⟩
    have d0 : 0 ≤ cell / 2048 % 18 := Int.emod_nonneg _ (by decide)
    have d1 : cell / 2048 % 18 < 18 := Int.emod_lt_of_pos _ (by decide)
    obtain ⟨c, hc⟩ := sign_at (cell / 2048 % 18).toNat (by omega)
    refine ⟨_, rfl, _, _, rfl, rfl, ⟨by decide, by decide⟩, _, _, rfl, rfl, (by show (0 : Int) < 18; decide), _, _, c, rfl, rfl, (by decide +kernel), atI_pos d0 hc, ?_⟩
    refine ⟨_, rfl, _, _, rfl, rfl, (by show (0 : Int) < 4; decide), rfl, _, rfl, ?_⟩
    refine ite2 (fun _ => ?_) (fun _ => ?_)
    · refine ⟨_, rfl, _, rfl, _, rfl, text, rfl, by omega, _, rfl, _, rfl, _, _, rfl, rfl, _, rfl, text, rfl, by omega, _, _, rfl, rfl, ?_, ?_⟩
      · exact ls _ (by have := slice_le' text none (some (cell / 4 % ((text.length : Int) + 1))); have := slice_le' text (some (cell / 4 % ((text.length : Int) + 1) + 1)) none; omega)
      · refine kk _ ?_
        rw [Str.length_append]
        have := slice_le' text none (some (cell / 4 % ((text.length : Int) + 1)))
        have := slice_le' text (some (cell / 4 % ((text.length : Int) + 1) + 1)) none
        omega
    · refine ⟨_, rfl, _, _, rfl, rfl, (by show (0 : Int) < 4; decide), rfl, _, rfl, ?_⟩
      refine ite2 (fun _ => ?_) (fun _ => ?_)
      · refine ⟨_, rfl, _, rfl, _, rfl, text, rfl, by omega, _, rfl, _, _, rfl, rfl, ?_, _, rfl, _, rfl, _, rfl, text, rfl, by omega, _, _, rfl, rfl, ?_, ?_⟩
        · exact ls _ (by have := slice_le' text none (some (cell / 4 % ((text.length : Int) + 1))); show _ + 1 ≤ 1000; omega)
        · rw [Str.length_append]
          exact ls _ (by have := slice_le' text none (some (cell / 4 % ((text.length : Int) + 1))); have := slice_le' text (some (cell / 4 % ((text.length : Int) + 1))) none; show _ + 1 + _ ≤ 1000; omega)
        · refine kk _ ?_
          rw [Str.length_append, Str.length_append]
          have := slice_le' text none (some (cell / 4 % ((text.length : Int) + 1)))
          have := slice_le' text (some (cell / 4 % ((text.length : Int) + 1))) none
          show _ + 1 + _ ≤ _
          omega
      · refine ⟨_, rfl, _, rfl, _, rfl, text, rfl, by omega, _, rfl, _, _, rfl, rfl, ?_, _, rfl, _, rfl, _, _, rfl, rfl, _, rfl, text, rfl, by omega, _, _, rfl, rfl, ?_, ?_⟩
        · exact ls _ (by have := slice_le' text none (some (cell / 4 % ((text.length : Int) + 1))); show _ + 1 ≤ 1000; omega)
        · rw [Str.length_append]
          exact ls _ (by have := slice_le' text none (some (cell / 4 % ((text.length : Int) + 1))); have := slice_le' text (some (cell / 4 % ((text.length : Int) + 1) + 1)) none; show _ + 1 + _ ≤ 1000; omega)
        · refine kk _ ?_
          rw [Str.length_append, Str.length_append]
          have := slice_le' text none (some (cell / 4 % ((text.length : Int) + 1)))
          have := slice_le' text (some (cell / 4 % ((text.length : Int) + 1) + 1)) none
          show _ + 1 + _ ≤ _
          omega
def spAsked : Sp := fun vs H Q _ => ∃ text : Str, vs = [.str text] ∧ text.length ≤ 900 ∧ (∀ t, FigText text t → NHouse t → ∀ (H' : Hp) (d : Addr) (rs : List Addr), Same H H' → Tab H' d rs (up t) → Q (.ref d) H') ∧ ((¬ ∃ t, FigText text t ∧ NHouse t) → ∀ H', Same H H' → Q (.str "note") H')
theorem c_law_asked (D : DefAt K mg "_law_asked" s_law_asked ["text"] f fd) (T : Txt mg) {z : Adr} (Z : Clz K mg z) (X_read : CalleeX P w K mg base 3 "read" ["text"] (spReadX z.NoNote)) (N_law_which : CalleeN P w K mg base 1 "_law_which" ["e"] (spWhich z.NoNote "note")) : Callee P w K mg base 4 "_law_asked" ["text"] spAsked := by
  refine D.ok sc_law_asked (fun vs H Q E h => ?_) (fun cdv A outer s H vs Q E hr h => ?_)
  · obtain ⟨t, rfl, _⟩ := h
    rfl
  · obtain ⟨text, rfl, tl, good, bad⟩ := h
    refine ⟨_, (pss_cons (ps_set (i := 1) sc_law_asked.nd rfl (Or.inl rfl) pe_non)
      (pss_cons (ps_tryS (i := 2) rfl rfl sc_law_asked.nd rfl rfl rfl Z.x_StrollError (fun _ _ _ hx => (pss_one (ps_set (i := 1) sc_law_asked.nd rfl (Or.inl rfl) (pe_defXS X_read hx (hr.mono (by decide)) rfl (pa_cons (pv 0) pa_nil)))))
      (fun _ => (pss_one (ps_set (i := 1) sc_law_asked.nd rfl (Or.inl rfl) (pe_defN N_law_which ((Room.n (hr.mono (by decide))).mark _) rfl (pa_cons (pv 2) pa_nil))))))
      (pss_one (ps_ret (pv 1))))), ?_⟩
    refine ⟨_, rfl, text, rfl, tl, fun t f' h' H1 d rs s1 tb => ⟨_, rfl, good t f' h' H1 d rs s1 tb⟩, fun no H1 s1 => ?_⟩
    refine ⟨_, rfl, Z.ex, fun e he => ?_⟩
    have s2 : Same H1 (upd H1 e (.ext (ExcO z.NoNote e))) := Same.upd_new he
    refine ⟨_, rfl, e, rfl, upd_same, fun H6 s6 => ?_⟩
    exact ⟨_, rfl, bad no H6 (s1.trans (s2.trans s6))⟩
theorem row_at {H : Hp} {p : Addr} {rs : List Addr} {t : NT} {i : Nat} {r : Addr} (tab : Tab H p rs (up t)) (h : rs[i]? = some r) : ∃ row, t[i]? = some row ∧ H r = some (.lst ((cs row).map V.int)) := by
  obtain ⟨row, h1, h2⟩ := pr_get tab.rows h
  obtain ⟨n, h3, rfl⟩ := up_at h1
  exact ⟨n, h3, h2⟩
theorem tab_len {H : Hp} {p : Addr} {rs : List Addr} {t : NT} (tab : Tab H p rs (up t)) : (rs.map V.ref).length = t.length := by rw [List.length_map, tab.len, up_len]
theorem join_small {c B : Nat} {ws : List Str} (h : ∀ w ∈ ws, w.length ≤ B) : (Txt.join ⟨#[c]⟩ ws).length ≤ ws.length * (B + 1) ∧ (ws.map (·.length)).sum ≤ ws.length * B := by
  constructor
  · rw [cps_len, tjoin, join_cps]
    have := joinL_len (c := c) (B := B) (p := ws.map fun t => t.cps.toList) fun a ha => by
      obtain ⟨t, ht, rfl⟩ := List.mem_map.mp ha
      rw [← cps_len]
      exact h t ht
    rw [List.length_map] at this
    exact this
  · induction ws with
    | nil => exact Nat.zero_le _
    | cons w ws ih =>
      have h1 := h w List.mem_cons_self
      have h2 := ih fun x hx => h x (List.mem_cons_of_mem _ hx)
      rw [List.map_cons, List.sum_cons, List.length_cons, Nat.add_mul]
      omega
def some14 : List Str := ["", "\n", "0", "1", " ", "1 1\n1", "1\n1", "1 0\n0 0", "10", "1\n", "\n1", "01", "1 1\n1 1 ", "1 1\n\n1 1"]
theorem some14_len : ∀ w ∈ some14, w.length ≤ 900 := by decide +kernel
theorem some_at {l : List Str} (h : ∀ w ∈ l, w.length ≤ 900) {i : Int} (i0 : 0 ≤ i) (i1 : i < l.length) : ∃ w : Str, w.length ≤ 900 ∧ atI (l.map V.str) i = some (.str w) := by
  have hl : i.toNat < l.length := by omega
  exact ⟨l[i.toNat], h _ (List.getElem_mem _), atI_pos i0 (by rw [List.getElem?_map, List.getElem?_eq_getElem hl]; rfl)⟩
theorem shaped_note : SeqAt.shaped (.str "note") = true := by
  unfold SeqAt.shaped
  simp [PyData.canLay0, PyData.depth]
  try decide +kernel
def spLaw (K : PySem.W.Frag) : Sp := fun vs H Q _ => ∃ (a : Addr) (ns : List Int), vs = [.ref a] ∧ Scr K H a ns ∧ ∀ H', Q (.bl true) H'
theorem ok_law (D : DefAt K mg "law" s_law ["script"] f fd) (T : Txt mg) (G_law_house : Callee P w K mg base 4 "_law_house" ["script", "spot", "most"] (spHouse K)) (G_law_cell_at : Callee P w K mg base 1 "_law_cell_at" ["script", "k"] (spCell K)) (G_law_changed : Callee P w K mg base 1 "_law_changed" ["text", "cell"] spChanged)
    (G_law_written : Callee P w K mg base 1 "_law_written" ["text"] spWritten) (G_law_asked : Callee P w K mg base 4 "_law_asked" ["text"] spAsked) (G_law_rows_like : Callee P w K mg base 1 "_law_rows_like" ["found", "due"] spRowsLike) : FnOk P w K mg base CX0 9 f fd ["script"] (spLaw K) := by
  refine D.fn.ok sc_law (fun vs H Q E h => ?_) (fun cdv A outer s H vs Q E hr h => ?_)
  · obtain ⟨a, ns, rfl, _⟩ := h
    rfl
  · obtain ⟨a, ns, rfl, hs, kk⟩ := h
    have endE : ∃ te, PSs (cxOf CX0 P w K mg base ["script", "table", "text", "cell", "turn", "some", "wide", "due", "found"] "law" (defScope s_law) f cdv A outer s H E).nox ((defBody s_law).drop 5) te ∧
        ∀ (H7 : Hp) (q : Addr) (tx : Str) (c : Int) (o4 o5 o6 : Option V), tx.length ≤ 900 → te { nx := fun _ H' => Q .non H', rt := Q } [some (.ref a), some (.ref q), some (.str tx), some (.int c), o4, o5, o6, none, none] H7 := by
      refine ⟨_, (pss_cons (ps_set (i := 7) sc_law.nd rfl (Or.inl rfl) (pe_def G_law_written (hr.mono (by decide)) rfl (pa_cons (pv 2) pa_nil)))
      (pss_cons (ps_set (i := 8) sc_law.nd rfl (Or.inl rfl) (pe_def G_law_asked (hr.mono (by decide)) rfl (pa_cons (pv 2) pa_nil)))
      (pss_cons (ps_if (pt_cmpR op_isN (pv 7) pe_non (nomark _)) (pss_one (ps_ret (pe_and (pe_cmpR (op_eqD hr) (pv 8) pe_str (nomark _)) (pe_one (pe_cmpR (op_eqD hr) (pe_def G_law_asked (hr.mono (by decide)) rfl (pa_cons (pv 2) pa_nil)) pe_str (nomark _)))))) pss_nil)
      (pss_one (ps_ret (pe_and (pe_def G_law_rows_like (hr.mono (by decide)) rfl (pa_cons (pv 8) (pa_cons (pv 7) pa_nil))) (pe_one (pe_cmpR (op_eqD hr) (pe_def G_law_asked (hr.mono (by decide)) rfl (pa_cons (pv 2) pa_nil)) (pv 7) (nomark _))))))))), fun H7 q tx c o4 o5 o6 htx => ?_⟩
      refine ⟨_, rfl, _, rfl, htx, fun u fu hu H8 d8 rs8 s8 tb8 => ?_, fun no H8 s8 => ?_⟩
      · have ul := fu.small
        have u8 := hu.hi
        refine ⟨_, rfl, _, rfl, htx, fun u2 fu2 hu2 H9 d9 rs9 s9 tb9 => ?_, fun no => absurd ⟨u, fu, hu⟩ no⟩
        have eu := fu2.one fu
        subst eu
        refine ⟨_, rfl, rfl, _, rfl, iteF ?_⟩
        refine ⟨_, rfl, _, rfl, d9, d8, rs9, rs8, up u2, rfl, tb9, tb8.same s9, by rw [up_len]; omega, fun row hr => ?_, fun H10 s10 => ?_⟩
        · obtain ⟨n, hn, rfl⟩ := List.mem_map.mp hr
          have := (hu.rows n hn).1
          have e : (cs n).length = n.length := by unfold cs; rw [List.length_map]
          omega
        refine ⟨_, rfl, iteT ⟨_, rfl, _, rfl, htx, fun u3 fu3 hu3 H11 d11 rs11 s11 tb11 => ?_, fun no => absurd ⟨u2, fu2, hu2⟩ no⟩⟩
        have eu3 := fu3.one fu2
        subst eu3
        refine ⟨_, rfl, tabD (up u3), tabD (up u3), tb11.rd, (tb8.same (s9.trans (s10.trans s11))).rd, shaped_tab _, shaped_tab _, ?_⟩
        rw [eqv_tab, decide_eq_true rfl]
        exact kk _
      · refine ⟨_, rfl, _, rfl, htx, fun u2 fu2 hu2 => absurd ⟨u2, fu2, hu2⟩ no, fun _ H9 s9 => ?_⟩
        refine ⟨_, rfl, rfl, _, rfl, iteT ?_⟩
        refine ⟨_, rfl, .str "note", .str "note", .str _, .str _, shaped_note, shaped_note, _, rfl, iteT' (by decide +kernel) ⟨_, rfl, _, rfl, htx, fun u2 fu2 hu2 => absurd ⟨u2, fu2, hu2⟩ no, fun _ H10 s10 => ?_⟩⟩
        exact ⟨.str "note", .str "note", .str _, .str _, shaped_note, shaped_note, blq (kk _) (by decide +kernel)⟩
    obtain ⟨te, pte, rte⟩ := endE
    refine' ⟨_, ?sx, ?_⟩
    case' sx => refine' pss_cons ?s0 ?sr0
    case' sr0 => refine' pss_cons ?s1 ?sr1
    case' sr1 => refine' pss_cons ?s2 ?sr2
    case' sr2 => refine' pss_cons ?s3 ?sr3
    case' sr3 => refine' pss_cons ?s4 ?sr4
    case sr4 => exact pte
    case s0 => exact (ps_set (i := 1) sc_law.nd rfl (Or.inl rfl) (pe_def G_law_house (hr.mono (by decide)) rfl (pa_cons (pv 0) (pa_cons (pe_lst (pa_cons pe_int pa_nil)) (pa_cons pe_int pa_nil)))))
    case s1 => exact (ps_set (i := 2) sc_law.nd rfl (Or.inl rfl) (pe_bm PySem.F.plainAttrs_str PySem.F.slot_str_join PySem.F.type_str_join (mt_join) pe_str (pa_cons (pe_comp (N := ["row"]) (ix := [none]) rfl (CompOk.of (by rfl)) (pi_list (pv 1)) (fun _ _ _ _ => (pg_name (i := 0) (show List.Nodup (["row"] : List Str) by decide +kernel) rfl (Or.inl rfl))) (fun _ _ _ _ => pts_nil) (fun _ _ _ _ => (pe_bmK (K := K) rfl PySem.F.plainAttrs_str PySem.F.slot_str_join PySem.F.type_str_join (mt_joinK (K := K) rfl) pe_str (pa_cons (pe_comp (N := ["weight"]) (ix := [none]) rfl (CompOk.of (by rfl)) (pi_listK (K := K) rfl (pv 0)) (fun _ _ _ _ => (pg_name (i := 0) (show List.Nodup (["weight"] : List Str) by decide +kernel) rfl (Or.inl rfl))) (fun _ _ _ _ => pts_nil) (fun _ _ _ _ => (pe_callTy call_str_int rfl T.g_str PyProof.Rows.boot_str (pa_cons (pv 0) pa_nil)))) pa_nil)))) pa_nil)))
    case s2 => exact (ps_set (i := 3) sc_law.nd rfl (Or.inl rfl) (pe_def G_law_cell_at (hr.mono (by decide)) rfl (pa_cons (pv 0) (pa_cons pe_int pa_nil))))
    case s3 => exact (ps_for PassesOwn.never rfl (pi_range1 rfl T.g_range (pa_cons (pe_op op_add pe_int (pe_op op_mod (pv 3) pe_int)) pa_nil)) (pg_name (i := 4) sc_law.nd rfl (Or.inl rfl))
      (pss_one (ps_set (i := 2) sc_law.nd rfl (Or.inl rfl) (pe_def G_law_changed (hr.mono (by decide)) rfl (pa_cons (pv 2) (pa_cons (pe_op op_mod (pe_def G_law_cell_at (hr.mono (by decide)) rfl (pa_cons (pv 0) (pa_cons (pe_op op_add pe_int (pv 4)) pa_nil))) (pe_op op_pow pe_int pe_int)) pa_nil))))))
    case' s4 => refine' ps_if ?cc ?th ?ls
    case cc => exact pt_cmpR op_eq (pe_op op_mod (pe_op op_fdiv (pv 3) pe_int) pe_int) pe_int (nomark _)
    case ls => exact pss_nil
    case' th => refine' pss_cons ?b0 ?br0
    case' br0 => refine' pss_cons ?b1 ?br1
    case' br1 => refine' pss_cons ?b2 ?br2
    case' br2 => refine' pss_cons ?b3 ?br3
    case' br3 => refine' pss_one ?b4
    case b0 =>
      refine' ps_set (i := 5) ?nd ?ii ?ll ?ee ?sw ?ff
      case sw => exact swaps_list _ _ _ _ _
      case' ee => refine' pe_lst ?el
      case nd => exact sc_law.nd
      case ii => rfl
      case ll => exact Or.inl rfl
      case ff => exact .inl rfl
      case el => exact pa_all (vs := (some14.take 12).map V.str) (.cons (.cons (.cons (.cons (.cons (.cons (.cons (.cons (.cons (.cons (.cons (.cons .nil))))))))))))
    case b1 => exact (ps_set (i := 5) sc_law.nd rfl (Or.inl rfl) (pe_op op_cat (pv 5) (pe_lst (pa_cons pe_str (pa_cons pe_str pa_nil)))))
    case b2 => exact (ps_set (i := 6) sc_law.nd rfl (Or.inr rfl) (pe_op op_add pe_int (pe_op op_mod (pe_op op_fdiv (pv 3) pe_int) pe_int)))
    case b3 => exact (ps_expr (pe_bm PySem.F.plainAttrs_list PySem.F.slot_list_append PySem.F.type_list_append mt_append (pv 5) (pa_cons (pe_bm PySem.F.plainAttrs_str PySem.F.slot_str_join PySem.F.type_str_join (mt_join) pe_str (pa_cons (pe_comp (N := ["k", "wide"]) (ix := [none, some 6]) rfl (CompOk.of (by rfl)) (pi_range1 rfl T.g_range (pa_cons (pv 6) pa_nil)) (fun _ _ _ _ => (pg_name (i := 0) (show List.Nodup (["k", "wide"] : List Str) by decide +kernel) rfl (Or.inl rfl))) (fun _ _ _ _ => pts_nil) (fun _ _ _ _ => (pe_bmK (K := K) rfl PySem.F.plainAttrs_str PySem.F.slot_str_join PySem.F.type_str_join (mt_joinK (K := K) rfl) pe_str (pa_cons (pe_comp (N := ["j"]) (ix := [none]) rfl (CompOk.of (by rfl)) (pi_range1 rfl T.g_range (pa_cons (pv 1) pa_nil)) (fun _ _ _ _ => (pg_name (i := 0) (show List.Nodup (["j"] : List Str) by decide +kernel) rfl (Or.inl rfl))) (fun _ _ _ _ => pts_nil) (fun _ _ _ _ => pe_str)) pa_nil)))) pa_nil)) pa_nil)))
    case b4 => exact (ps_set (i := 2) sc_law.nd rfl (Or.inl rfl) (pe_ix ix_list (pv 5) (pe_op op_mod (pe_op op_fdiv (pv 3) pe_int) pe_int) (fun _ _ => rfl)))
    refine ⟨_, rfl, (by show 1 ≤ sizeLine; exact small_line (by decide)), fun sp hsp => ?_⟩
    refine ⟨a, sp, ns, 3, 8, rfl, hs.same (Same.upd_new hsp), upd_same, by decide, by decide, by decide, fun H1 q rs t' k' B O hH hl => ?_⟩
    obtain ⟨t, rfl, hh⟩ := house_up hH
    have tab := O.tab
    have hlm := tab_len tab
    have fg := NHouse.fgs hh
    have t8 := hh.hi
    have t1 := hh.lo
    have scr := B.sc
    refine ⟨rfl, _, rfl, q, rfl, ⟨_, SqL.of tab.top⟩, fun D1 hD1 => comp_list (xs := rs.map V.ref) (fun i ys H' => ys = ((t.take i).map lineOf).map V.str ∧ Same H1 H' ∧ H' D1 = some (.lst ys)) (by rw [hlm]; exact small_line (by omega)) ⟨rfl, Same.upd_new hD1, upd_same⟩
      (fun i ys H' hi ⟨e, s2, e2⟩ => ⟨s2.seq (SqL.of tab.top), by rw [e, List.length_map, List.length_map, List.length_take]; omega⟩) ?_ ?_⟩
    · rintro i x ys H' hx ⟨rfl, s2, e2⟩
      obtain ⟨r, hr', rfl⟩ := ref_at hx
      obtain ⟨row, hrow, e0⟩ := row_at tab hr'
      have e := s2 _ _ e0
      have rm := fg.rows row (List.mem_of_getElem? hrow)
      refine ⟨rfl, _, rfl, r, rfl, ⟨_, SqL.of e⟩, fun D2 hD2 => comp_pure (fun _ => true) figV (by rw [cs_len]; exact small_line (by omega)) (SqL.of e) hD2 (fun x _ ys R h => h) (fun x hx _ ys R h => ?_) ?_⟩
      · obtain ⟨k, hk, rfl⟩ := List.mem_map.mp hx
        obtain ⟨n, hn, rfl⟩ := List.mem_map.mp hk
        exact ⟨_, rfl, _, rfl, log_small (rm.2 n hn), strq (Q := R) h (fig_str n (rm.2 n hn)).symm⟩
      · rw [map_fig]
        have s3 : Same H' (upd H' D2 (.lst ((row.map fig).map V.str))) := Same.upd_new hD2
        refine ⟨_, D2, row.map fig, rfl, rfl, SqL.of upd_same, ?_, ?_⟩
        · rw [fig_len, List.length_map, blank_eq]
          show row.length + row.length * 1 ≤ _
          omega
        · rw [blank_eq]
          refine ⟨s3 _ _ e2, ?_, (s2.trans s3).new hD1, upd_same⟩
          rw [List.take_add_one, hrow]
          simp
          rfl
    rintro ys H2 ⟨rfl, s2, e2⟩
    rw [hlm, List.take_length] at e2
    refine ⟨_, D1, t.map lineOf, rfl, rfl, SqL.of e2, ?_, ?_⟩
    · have := lines_len fg
      rw [List.length_map, line_eq]
      show _ + t.length * 1 ≤ _
      omega
    have tl := text_len (t := t) (m := 8) fun row hr => by
      have := (fg.rows row hr).1
      omega
    have tl' : (Txt.join ("\n" : Str) (t.map lineOf)).length ≤ 136 := by
      rw [line_eq]
      show (textOf t).length ≤ 136
      omega
    generalize Txt.join ("\n" : Str) (t.map lineOf) = tx0 at tl' ⊢
    have scr2 := scr.same s2
    refine ⟨_, rfl, a, ns, 0, rfl, scr2.seq, by decide, fun c => ?_⟩
    have b1 : 0 ≤ c % 2 := Int.emod_nonneg _ (by decide)
    have b2 : c % 2 < 2 := Int.emod_lt_of_pos _ (by decide)
    refine ⟨_, rfl, _, _, rfl, rfl, (by show (0 : Int) < 2; decide), _, _, rfl, rfl, _, rfl, (by show (-(2 ^ 62) : Int) ≤ 1 + c % 2; omega), (by show 1 + c % 2 < _; omega), for_range (lo := 0) (n := (1 + c % 2).toNat) (fun i σ H' => ∃ (tx : Str) (o4 : Option V), σ = [some (.ref a), some (.ref q), some (.str tx), some (.int c), o4, none, none, none, none] ∧ H' = H2 ∧ i ≤ 2 ∧ tx.length + 1 ≤ 137 * 2 ^ i)
      ⟨tx0, none, rfl, rfl, by omega, by show tx0.length + 1 ≤ 137 * 1; omega⟩ ?_ ?_⟩
    · rintro i σ H' hi ⟨tx, o4, rfl, rfl, i2, hlen⟩
      have i1 : i ≤ 1 := by omega
      have hp : 2 ^ i ≤ 2 ^ 1 := Nat.pow_le_pow_right (by decide) i1
      have ltx : tx.length ≤ 400 := by omega
      refine ⟨_, rfl, _, rfl, _, rfl, _, _, rfl, rfl, a, ns, _, rfl, scr2.seq, (by show 0 ≤ 1 + (0 + (i : Int)); omega), fun c2 => ⟨_, _, rfl, rfl, ⟨by decide, by decide, by decide⟩, _, _, rfl, rfl, (by show (0 : Int) < 10 ^ 9; decide), tx, _, rfl, Int.emod_nonneg _ (by decide), ltx, fun tx' hl' => ?_⟩⟩
      refine ⟨tx', _, rfl, rfl, by omega, ?_⟩
      rw [Nat.pow_succ]
      omega
    rintro σ H' ⟨tx1, o4, rfl, rfl, i2, hlen⟩
    have hp : 2 ^ (1 + c % 2).toNat ≤ 2 ^ 2 := Nat.pow_le_pow_right (by decide) (by omega)
    have ltx1 : tx1.length ≤ 900 := by omega
    refine ⟨_, rfl, _, _, rfl, rfl, ⟨by decide, by decide⟩, _, _, rfl, rfl, (by show (0 : Int) < 4; decide), rfl, _, rfl, ?_⟩
    refine ite2 (fun _ => ?_) (fun _ => rte _ q tx1 c o4 none none ltx1)
    · refine ⟨small_line (by show 12 ≤ 1000; decide), fun S1 hS1 => ?_⟩
      have sA := Same.upd_new (o := .lst ((some14.take 12).map V.str)) hS1
      have eA : upd H' S1 (.lst ((some14.take 12).map V.str)) S1 = _ := upd_same
      refine ⟨_, rfl, small_line (by show 2 ≤ 1000; decide), fun S2 hS2 => ?_⟩
      have sB := Same.upd_new (o := .lst [V.str "1 1\n1 1 ", V.str "1 1\n\n1 1"]) hS2
      have eB : upd (upd H' S1 (.lst ((some14.take 12).map V.str))) S2 (.lst [V.str "1 1\n1 1 ", V.str "1 1\n\n1 1"]) S2 = _ := upd_same
      refine ⟨S1, S2, (some14.take 12).map V.str, [V.str "1 1\n1 1 ", V.str "1 1\n\n1 1"], rfl, rfl, sB _ _ eA, eB, small_line (by show 14 ≤ 1000; decide), fun S3 hS3 => ?_⟩
      have eC0 : (some14.take 12).map V.str ++ [V.str "1 1\n1 1 ", V.str "1 1\n\n1 1"] = some14.map V.str := by
        show (some14.take 12).map V.str ++ (some14.drop 12).map V.str = _
        rw [← List.map_append, List.take_append_drop]
      rw [eC0]
      have sC := Same.upd_new (o := .lst (some14.map V.str)) hS3
      have eC : upd (upd (upd H' S1 (.lst ((some14.take 12).map V.str))) S2 (.lst [V.str "1 1\n1 1 ", V.str "1 1\n\n1 1"])) S3 (.lst (some14.map V.str)) S3 = _ := upd_same
      generalize upd (upd (upd H' S1 (.lst ((some14.take 12).map V.str))) S2 (.lst [V.str "1 1\n1 1 ", V.str "1 1\n\n1 1"])) S3 (.lst (some14.map V.str)) = H5 at sC eC ⊢
      have w0 : 0 ≤ c / 128 % 4 := Int.emod_nonneg _ (by decide)
      have w1 : c / 128 % 4 < 4 := Int.emod_lt_of_pos _ (by decide)
      refine ⟨_, rfl, _, _, rfl, rfl, ⟨by decide, by decide⟩, _, _, rfl, rfl, (by show (0 : Int) < 4; decide), _, _, rfl, rfl, ?_⟩
      obtain ⟨wd, hwd⟩ : ∃ wd : Nat, 8 + c / 128 % 4 = (wd : Int) := ⟨(8 + c / 128 % 4).toNat, (Int.toNat_of_nonneg (by omega)).symm⟩
      have wd11 : wd ≤ 11 := by omega
      dsimp only
      rw [hwd]
      refine ⟨_, rfl, .inl ⟨rfl, _, SqL.of eC⟩, rfl, _, rfl, _, rfl, by omega, by omega, fun E1 hE1 => comp_range (lo := 0) (n := wd) (fun i ys H' => ∃ ws : List Str, ys = ws.map V.str ∧ ws.length = i ∧ (∀ w ∈ ws, w.length ≤ 22) ∧ Same H5 H' ∧ H' E1 = some (.lst ys)) (small_line (by omega)) ⟨[], rfl, rfl, (fun w h => absurd h List.not_mem_nil), Same.upd_new hE1, upd_same⟩
        (fun i ys H' _ ⟨ws, e, el, _⟩ => by rw [e, List.length_map, el]; exact Nat.le_refl _) ?_ ?_⟩
      · rintro i ys H6 hi ⟨ws, rfl, wl, wb, s6, e6⟩
        refine ⟨rfl, _, rfl, _, rfl, by omega, by omega, fun E2 hE2 => comp_range (lo := 0) (n := wd) (fun j zs H7 => zs = (List.replicate j ("1" : Str)).map V.str ∧ H7 = upd H6 E2 (.lst zs)) (small_line (by omega)) ⟨rfl, rfl⟩
          (fun j zs H7 _ ⟨e, _⟩ => by rw [e, List.length_map, List.length_replicate]; exact Nat.le_refl _) ?_ ?_⟩
        · rintro j zs H7 hj ⟨rfl, rfl⟩
          refine ⟨upd_same, ?_, by rw [upd_upd]⟩
          rw [List.replicate_succ', List.map_append]
          rfl
        · rintro zs H7 ⟨rfl, rfl⟩
          have s7 : Same H6 (upd H6 E2 (.lst ((List.replicate wd ("1" : Str)).map V.str))) := Same.upd_new hE2
          have l1 : ∀ w ∈ List.replicate wd ("1" : Str), w.length ≤ 1 := fun w hw => by
            rw [List.eq_of_mem_replicate hw]
            exact Nat.le_refl 1
          have jl := join_small (c := 32) l1
          rw [List.length_replicate] at jl
          refine ⟨_, E2, List.replicate wd ("1" : Str), rfl, rfl, SqL.of upd_same, ?_, ?_⟩
          · rw [List.length_replicate, blank_eq]
            show _ + wd * 1 ≤ _
            omega
          · rw [blank_eq]
            refine ⟨s7 _ _ e6, ws ++ [Txt.join ⟨#[32]⟩ (List.replicate wd ("1" : Str))], by rw [List.map_append]; rfl, by rw [List.length_append, wl]; rfl, fun w hw => ?_, (s6.trans s7).new hE1, upd_same⟩
            rcases List.mem_append.mp hw with z | z
            · exact wb w z
            · rw [List.mem_singleton.mp z]
              omega
      rintro ys H6 ⟨ws, rfl, wl, wb, s6, e6⟩
      have jl := join_small (c := 10) wb
      rw [wl] at jl
      refine ⟨_, E1, ws, rfl, rfl, SqL.of e6, ?_, ?_⟩
      · rw [wl, line_eq]
        show _ + wd * 1 ≤ _
        omega
      rw [line_eq]
      have jl1 : (Txt.join ⟨#[10]⟩ ws).length ≤ 900 := by omega
      generalize Txt.join ⟨#[10]⟩ ws = big at jl1 ⊢
      refine ⟨S3, _, _, rfl, rfl, s6 _ _ eC, small1000 (by show 14 ≤ 1000; decide), ?_⟩
      have e7 : upd H6 S3 (.lst (some14.map V.str ++ [.str big])) S3 = some (.lst ((some14 ++ [big]).map V.str)) := by
        rw [upd_same, List.map_append]
        rfl
      have s7 : Same H' (upd H6 S3 (.lst (some14.map V.str ++ [.str big]))) := ((((sA.trans sB).trans sC).trans s6)).new ((sA.trans sB).free hS3)
      generalize upd H6 S3 (.lst (some14.map V.str ++ [.str big])) = H7 at e7 s7 ⊢
      obtain ⟨tx, htx, hat⟩ := some_at (l := some14 ++ [big]) (fun w hw => by
        rcases List.mem_append.mp hw with z | z
        · exact some14_len w z
        · rw [List.mem_singleton.mp z]
          exact jl1) (i := c / 8 % 15) (Int.emod_nonneg _ (by decide)) (Int.emod_lt_of_pos _ (by decide))
      refine ⟨_, rfl, _, rfl, _, _, rfl, rfl, ⟨by decide, by decide⟩, _, _, rfl, rfl, (by show (0 : Int) < 15; decide), S3, _, _, _, rfl, rfl, SqL.of e7, hat, ?_⟩
      exact rte _ q tx c o4 _ _ htx
end
theorem all_mk {l : PySem.W.OpenLaw} {w : World} {K : PySem.W.Frag} {h : Heap} {mg : Str → Option Value} {fa : Addr} (X : K.In h) (G : h.Ns mainGlobals mg) (hfa : mg "law" = some (.ref fa))
    {f1 : Addr} {od1 an1 : Option Addr} {sl1 : Array (Option Value)} {oc1 kV1 dc1 pm1 cd1 ct1 : Value} {f2 : Addr} {od2 an2 : Option Addr} {sl2 : Array (Option Value)} {oc2 kV2 dc2 pm2 cd2 ct2 : Value} {f3 : Addr} {od3 an3 : Option Addr} {sl3 : Array (Option Value)} {oc3 kV3 dc3 pm3 cd3 ct3 : Value} {f4 : Addr} {od4 an4 : Option Addr} {sl4 : Array (Option Value)} {oc4 kV4 dc4 pm4 cd4 ct4 : Value} {f5 : Addr} {od5 an5 : Option Addr} {sl5 : Array (Option Value)} {oc5 kV5 dc5 pm5 cd5 ct5 : Value} {f6 : Addr} {od6 an6 : Option Addr} {sl6 : Array (Option Value)} {oc6 kV6 dc6 pm6 cd6 ct6 : Value} {f7 : Addr} {od7 an7 : Option Addr} {sl7 : Array (Option Value)} {oc7 kV7 dc7 pm7 cd7 ct7 : Value} {f8 : Addr} {od8 an8 : Option Addr} {sl8 : Array (Option Value)} {oc8 kV8 dc8 pm8 cd8 ct8 : Value} {f9 : Addr} {od9 an9 : Option Addr} {sl9 : Array (Option Value)} {oc9 kV9 dc9 pm9 cd9 ct9 : Value} {f10 : Addr} {od10 an10 : Option Addr} {sl10 : Array (Option Value)} {oc10 kV10 dc10 pm10 cd10 ct10 : Value} {f11 : Addr} {od11 an11 : Option Addr} {sl11 : Array (Option Value)} {oc11 kV11 dc11 pm11 cd11 ct11 : Value} {f12 : Addr} {od12 an12 : Option Addr} {sl12 : Array (Option Value)} {oc12 kV12 dc12 pm12 cd12 ct12 : Value} {f13 : Addr} {od13 an13 : Option Addr} {sl13 : Array (Option Value)} {oc13 kV13 dc13 pm13 cd13 ct13 : Value} {f14 : Addr} {od14 an14 : Option Addr} {sl14 : Array (Option Value)} {oc14 kV14 dc14 pm14 cd14 ct14 : Value} {f15 : Addr} {od15 an15 : Option Addr} {sl15 : Array (Option Value)} {oc15 kV15 dc15 pm15 cd15 ct15 : Value} {f16 : Addr} {od16 an16 : Option Addr} {sl16 : Array (Option Value)} {oc16 kV16 dc16 pm16 cd16 ct16 : Value} {tk1 : Tok} {tk2 : Tok} {z_StrollError : Addr} {z_NoHouse : Addr} {z_NoRoom : Addr} {z_NoCount : Addr} {z_NoShares : Addr} {z_NotBack : Addr} {z_Parted : Addr} {z_NoNote : Addr} {z_FIGURES : Addr} {gd27 : Option Addr} {gn27 : Nat} {gs27 : Array (Option Value)} {gt27_0 gt27_1 gt27_2 gt27_3 gt27_4 gt27_5 gt27_6 gt27_7 gt27_8 gt27_9 : Tok}
    (a1 : PySem.W.nsIn K mainGlobals "_law_cell_at" = some (some (.ref f1))) (l1 : K.lookup f1 = some ⟨oc1, od1, .func (PySem.W.fnOf "_law_cell_at" "_law_cell_at" (defArgs s_law_cell_at) (defBody s_law_cell_at) (defScope s_law_cell_at) .none kV1 dc1 pm1 an1 cd1 ct1), sl1⟩) (c1 : PySem.W.codeIn K cd1 "_law_cell_at" = true) (k1 : PySem.W.keepIn K (.ref f1) = true)
    (a2 : PySem.W.nsIn K mainGlobals "_law_next" = some (some (.ref f2))) (l2 : K.lookup f2 = some ⟨oc2, od2, .func (PySem.W.fnOf "_law_next" "_law_next" (defArgs s_law_next) (defBody s_law_next) (defScope s_law_next) .none kV2 dc2 pm2 an2 cd2 ct2), sl2⟩) (c2 : PySem.W.codeIn K cd2 "_law_next" = true) (k2 : PySem.W.keepIn K (.ref f2) = true)
    (a3 : PySem.W.nsIn K mainGlobals "_law_weight" = some (some (.ref f3))) (l3 : K.lookup f3 = some ⟨oc3, od3, .func (PySem.W.fnOf "_law_weight" "_law_weight" (defArgs s_law_weight) (defBody s_law_weight) (defScope s_law_weight) .none kV3 dc3 pm3 an3 cd3 ct3), sl3⟩) (c3 : PySem.W.codeIn K cd3 "_law_weight" = true) (k3 : PySem.W.keepIn K (.ref f3) = true)
    (a4 : PySem.W.nsIn K mainGlobals "is_row" = some (some (.ref f4))) (l4 : K.lookup f4 = some ⟨oc4, od4, .func (PySem.W.fnOf "is_row" "is_row" (defArgs s_is_row) (defBody s_is_row) (defScope s_is_row) .none kV4 dc4 pm4 an4 cd4 ct4), sl4⟩) (c4 : PySem.W.codeIn K cd4 "is_row" = true) (k4 : PySem.W.keepIn K (.ref f4) = true)
    (a5 : PySem.W.nsIn K mainGlobals "is_house" = some (some (.ref f5))) (l5 : K.lookup f5 = some ⟨oc5, od5, .func (PySem.W.fnOf "is_house" "is_house" (defArgs s_is_house) (defBody s_is_house) (defScope s_is_house) .none kV5 dc5 pm5 an5 cd5 ct5), sl5⟩) (c5 : PySem.W.codeIn K cd5 "is_house" = true) (k5 : PySem.W.keepIn K (.ref f5) = true)
    (a6 : PySem.W.nsIn K mainGlobals "_law_some_house" = some (some (.ref f6))) (l6 : K.lookup f6 = some ⟨oc6, od6, .func (PySem.W.fnOf "_law_some_house" "_law_some_house" (defArgs s_law_some_house) (defBody s_law_some_house) (defScope s_law_some_house) .none kV6 dc6 pm6 an6 cd6 ct6), sl6⟩) (c6 : PySem.W.codeIn K cd6 "_law_some_house" = true) (k6 : PySem.W.keepIn K (.ref f6) = true)
    (a7 : PySem.W.nsIn K mainGlobals "_law_even_house" = some (some (.ref f7))) (l7 : K.lookup f7 = some ⟨oc7, od7, .func (PySem.W.fnOf "_law_even_house" "_law_even_house" (defArgs s_law_even_house) (defBody s_law_even_house) (defScope s_law_even_house) .none kV7 dc7 pm7 an7 cd7 ct7), sl7⟩) (c7 : PySem.W.codeIn K cd7 "_law_even_house" = true) (k7 : PySem.W.keepIn K (.ref f7) = true)
    (a8 : PySem.W.nsIn K mainGlobals "_law_house" = some (some (.ref f8))) (l8 : K.lookup f8 = some ⟨oc8, od8, .func (PySem.W.fnOf "_law_house" "_law_house" (defArgs s_law_house) (defBody s_law_house) (defScope s_law_house) .none kV8 dc8 pm8 an8 cd8 ct8), sl8⟩) (c8 : PySem.W.codeIn K cd8 "_law_house" = true) (k8 : PySem.W.keepIn K (.ref f8) = true)
    (a9 : PySem.W.nsIn K mainGlobals "_law_rows_like" = some (some (.ref f9))) (l9 : K.lookup f9 = some ⟨oc9, od9, .func (PySem.W.fnOf "_law_rows_like" "_law_rows_like" (defArgs s_law_rows_like) (defBody s_law_rows_like) (defScope s_law_rows_like) .none kV9 dc9 pm9 an9 cd9 ct9), sl9⟩) (c9 : PySem.W.codeIn K cd9 "_law_rows_like" = true) (k9 : PySem.W.keepIn K (.ref f9) = true)
    (a10 : PySem.W.nsIn K mainGlobals "_law_which" = some (some (.ref f10))) (l10 : K.lookup f10 = some ⟨oc10, od10, .func (PySem.W.fnOf "_law_which" "_law_which" (defArgs s_law_which) (defBody s_law_which) (defScope s_law_which) .none kV10 dc10 pm10 an10 cd10 ct10), sl10⟩) (c10 : PySem.W.codeIn K cd10 "_law_which" = true) (k10 : PySem.W.keepIn K (.ref f10) = true)
    (a11 : PySem.W.nsIn K mainGlobals "read_row" = some (some (.ref f11))) (l11 : K.lookup f11 = some ⟨oc11, od11, .func (PySem.W.fnOf "read_row" "read_row" (defArgs s_read_row) (defBody s_read_row) (defScope s_read_row) .none kV11 dc11 pm11 an11 cd11 ct11), sl11⟩) (c11 : PySem.W.codeIn K cd11 "read_row" = true) (k11 : PySem.W.keepIn K (.ref f11) = true)
    (a12 : PySem.W.nsIn K mainGlobals "read" = some (some (.ref f12))) (l12 : K.lookup f12 = some ⟨oc12, od12, .func (PySem.W.fnOf "read" "read" (defArgs s_read) (defBody s_read) (defScope s_read) .none kV12 dc12 pm12 an12 cd12 ct12), sl12⟩) (c12 : PySem.W.codeIn K cd12 "read" = true) (k12 : PySem.W.keepIn K (.ref f12) = true)
    (a13 : PySem.W.nsIn K mainGlobals "_law_written" = some (some (.ref f13))) (l13 : K.lookup f13 = some ⟨oc13, od13, .func (PySem.W.fnOf "_law_written" "_law_written" (defArgs s_law_written) (defBody s_law_written) (defScope s_law_written) .none kV13 dc13 pm13 an13 cd13 ct13), sl13⟩) (c13 : PySem.W.codeIn K cd13 "_law_written" = true) (k13 : PySem.W.keepIn K (.ref f13) = true)
    (a14 : PySem.W.nsIn K mainGlobals "_law_changed" = some (some (.ref f14))) (l14 : K.lookup f14 = some ⟨oc14, od14, .func (PySem.W.fnOf "_law_changed" "_law_changed" (defArgs s_law_changed) (defBody s_law_changed) (defScope s_law_changed) .none kV14 dc14 pm14 an14 cd14 ct14), sl14⟩) (c14 : PySem.W.codeIn K cd14 "_law_changed" = true) (k14 : PySem.W.keepIn K (.ref f14) = true)
    (a15 : PySem.W.nsIn K mainGlobals "_law_asked" = some (some (.ref f15))) (l15 : K.lookup f15 = some ⟨oc15, od15, .func (PySem.W.fnOf "_law_asked" "_law_asked" (defArgs s_law_asked) (defBody s_law_asked) (defScope s_law_asked) .none kV15 dc15 pm15 an15 cd15 ct15), sl15⟩) (c15 : PySem.W.codeIn K cd15 "_law_asked" = true) (k15 : PySem.W.keepIn K (.ref f15) = true)
    (a16 : PySem.W.nsIn K mainGlobals "law" = some (some (.ref f16))) (l16 : K.lookup f16 = some ⟨oc16, od16, .func (PySem.W.fnOf "law" "law" (defArgs s_law) (defBody s_law) (defScope s_law) .none kV16 dc16 pm16 an16 cd16 ct16), sl16⟩) (c16 : PySem.W.codeIn K cd16 "law" = true) (k16 : PySem.W.keepIn K (.ref f16) = true)
    (z1 : PySem.W.nsIn K mainGlobals "len" = some none)
    (z2 : PySem.W.nsIn K mainGlobals "all" = some none)
    (z3 : PySem.W.nsIn K mainGlobals "sum" = some none)
    (z4 : PySem.W.nsIn K mainGlobals "range" = some none)
    (z5 : PySem.W.nsIn K mainGlobals "list" = some none)
    (z6 : PySem.W.nsIn K mainGlobals "bool" = some none)
    (z7 : PySem.W.nsIn K mainGlobals "int" = some none)
    (z8 : PySem.W.nsIn K mainGlobals "isinstance" = some none)
    (z9 : PySem.W.nsIn K mainGlobals "str" = some none)
    (z10 : PySem.W.nsIn K mainGlobals "ValueError" = some none)
    (y1 : PySem.W.nsIn K mainGlobals "MOST_ROOMS" = some (some (.int 8 tk1)))
    (y2 : PySem.W.nsIn K mainGlobals "MOST_WEIGHT" = some (some (.int 9 tk2)))
    (x1 : PySem.W.nsIn K mainGlobals "StrollError" = some (some (.ref z_StrollError)))
    (x2 : PySem.W.nsIn K mainGlobals "NoHouse" = some (some (.ref z_NoHouse)))
    (x3 : PySem.W.nsIn K mainGlobals "NoRoom" = some (some (.ref z_NoRoom)))
    (x4 : PySem.W.nsIn K mainGlobals "NoCount" = some (some (.ref z_NoCount)))
    (x5 : PySem.W.nsIn K mainGlobals "NoShares" = some (some (.ref z_NoShares)))
    (x6 : PySem.W.nsIn K mainGlobals "NotBack" = some (some (.ref z_NotBack)))
    (x7 : PySem.W.nsIn K mainGlobals "Parted" = some (some (.ref z_Parted)))
    (x8 : PySem.W.nsIn K mainGlobals "NoNote" = some (some (.ref z_NoNote)))
    (x9 : PySem.W.excIn K z_NoNote [.type "ValueError", .type "Exception", .type "BaseException", .type "object"] "ValueError.__new__" = true)
    (x10 : PySem.W.findIn K (.ref z_NoNote) "__getattribute__" = some (some (.builtin "BaseException.__getattribute__")))
    (x11 : PySem.W.findIn K (.ref z_NoNote) "__getattr__" = some none)
    (x12 : PySem.W.findIn K (.ref z_NoNote) "__class__" = some (some (.builtin "object.__class__")))
    (x13 : PySem.W.mroIn K z_NoNote (.type "object") = some true)
    (x14 : PySem.W.mroIn K z_NoNote (.type "BaseException") = some true)
    (x15 : PySem.W.specialIn K (.builtin "object.__class__") "__get__" = some (some (.builtin "getset_descriptor.__get__")))
    (x16 : PySem.W.takesIn K (.builtin "object.__class__") = some true)
    (x17 : PySem.W.exmOne K (.ref z_NoNote) (.ref z_StrollError) = some true)
    (x18 : PySem.W.kitOne K (.ref z_NoNote) (.ref z_NoCount) = some false)
    (x19 : PySem.W.kitOne K (.ref z_NoNote) (.ref z_NoHouse) = some false)
    (x20 : PySem.W.kitOne K (.ref z_NoNote) (.ref z_NoNote) = some true)
    (x21 : PySem.W.kitOne K (.ref z_NoNote) (.ref z_NoRoom) = some false)
    (x22 : PySem.W.kitOne K (.ref z_NoNote) (.ref z_NoShares) = some false)
    (x23 : PySem.W.kitOne K (.ref z_NoNote) (.ref z_NotBack) = some false)
    (x24 : PySem.W.kitOne K (.ref z_NoNote) (.ref z_Parted) = some false)
    (x25 : PySem.W.kitOne K (.ref z_NoNote) (.type "ValueError") = some true)
    (x26 : PySem.W.nsIn K mainGlobals "FIGURES" = some (some (.ref z_FIGURES)))
    (x27 : K.lookup z_FIGURES = some ⟨.type "tuple", gd27, .seq #[.str "0" gt27_0, .str "1" gt27_1, .str "2" gt27_2, .str "3" gt27_3, .str "4" gt27_4, .str "5" gt27_5, .str "6" gt27_6, .str "7" gt27_7, .str "8" gt27_8, .str "9" gt27_9] gn27, gs27⟩)
    : ∃ fd : FuncData, (∀ (s : Shared) (v : Value), BindsTo s fd ⟨[v], []⟩ [("script", v)]) ∧ ∀ base : Heap, K.In base → base.Ns mainGlobals mg → FnOk l.prog w K mg base CX0 9 fa fd ["script"] (spLaw K) := by
  have e := hfa.symm.trans (PySem.W.mg_of X G a16)
  cases e
  have T : Txt mg := ⟨PySem.W.mg_none_of X G z1, PySem.W.mg_none_of X G z2, PySem.W.mg_none_of X G z3, PySem.W.mg_none_of X G z4, PySem.W.mg_none_of X G z5, PySem.W.mg_none_of X G z6, PySem.W.mg_none_of X G z7, PySem.W.mg_none_of X G z8, PySem.W.mg_none_of X G z9, PySem.W.mg_none_of X G z10, ⟨_, PySem.W.mg_of X G y1⟩, ⟨_, PySem.W.mg_of X G y2⟩⟩
  have Z : Clz K mg ⟨z_StrollError, z_NoHouse, z_NoRoom, z_NoCount, z_NoShares, z_NotBack, z_Parted, z_NoNote, z_FIGURES⟩ := ⟨PySem.W.mg_of X G x1, PySem.W.mg_of X G x2, PySem.W.mg_of X G x3, PySem.W.mg_of X G x4, PySem.W.mg_of X G x5, PySem.W.mg_of X G x6, PySem.W.mg_of X G x7, PySem.W.mg_of X G x8, x9, x10, x11, x12, x13, x14, x15, x16, x17, x18, x19, x20, x21, x22, x23, x24, x25, PySem.W.mg_of X G x26, fun _ => .inr ⟨_, _, _, x27, rfl, rfl, by show 10 ≤ sizeLine; decide, (.cons ⟨_, rfl⟩ (.cons ⟨_, rfl⟩ (.cons ⟨_, rfl⟩ (.cons ⟨_, rfl⟩ (.cons ⟨_, rfl⟩ (.cons ⟨_, rfl⟩ (.cons ⟨_, rfl⟩ (.cons ⟨_, rfl⟩ (.cons ⟨_, rfl⟩ (.cons ⟨_, rfl⟩ .nil))))))))))⟩⟩
  have F1 := fun_mk (st := s_law_cell_at) l1 c1 k1
  have D1 : DefAt K mg "_law_cell_at" s_law_cell_at ["script", "k"] f1 _ := ⟨F1, PySem.W.mg_of X G a1, F1.binds (ps := ["script", "k"]) fun _ _ _ _ _ _ us hl => match us, hl with | [_, _], _ => rfl⟩
  have F2 := fun_mk (st := s_law_next) l2 c2 k2
  have D2 : DefAt K mg "_law_next" s_law_next ["script", "spot"] f2 _ := ⟨F2, PySem.W.mg_of X G a2, F2.binds (ps := ["script", "spot"]) fun _ _ _ _ _ _ us hl => match us, hl with | [_, _], _ => rfl⟩
  have F3 := fun_mk (st := s_law_weight) l3 c3 k3
  have D3 : DefAt K mg "_law_weight" s_law_weight ["cell", "spare"] f3 _ := ⟨F3, PySem.W.mg_of X G a3, F3.binds (ps := ["cell", "spare"]) fun _ _ _ _ _ _ us hl => match us, hl with | [_, _], _ => rfl⟩
  have F4 := fun_mk (st := s_is_row) l4 c4 k4
  have D4 : DefAt K mg "is_row" s_is_row ["row", "rooms"] f4 _ := ⟨F4, PySem.W.mg_of X G a4, F4.binds (ps := ["row", "rooms"]) fun _ _ _ _ _ _ us hl => match us, hl with | [_, _], _ => rfl⟩
  have F5 := fun_mk (st := s_is_house) l5 c5 k5
  have D5 : DefAt K mg "is_house" s_is_house ["table"] f5 _ := ⟨F5, PySem.W.mg_of X G a5, F5.binds (ps := ["table"]) fun _ _ _ _ _ _ us hl => match us, hl with | [_], _ => rfl⟩
  have F6 := fun_mk (st := s_law_some_house) l6 c6 k6
  have D6 : DefAt K mg "_law_some_house" s_law_some_house ["script", "spot", "many"] f6 _ := ⟨F6, PySem.W.mg_of X G a6, F6.binds (ps := ["script", "spot", "many"]) fun _ _ _ _ _ _ us hl => match us, hl with | [_, _, _], _ => rfl⟩
  have F7 := fun_mk (st := s_law_even_house) l7 c7 k7
  have D7 : DefAt K mg "_law_even_house" s_law_even_house ["script", "spot", "many"] f7 _ := ⟨F7, PySem.W.mg_of X G a7, F7.binds (ps := ["script", "spot", "many"]) fun _ _ _ _ _ _ us hl => match us, hl with | [_, _, _], _ => rfl⟩
  have F8 := fun_mk (st := s_law_house) l8 c8 k8
  have D8 : DefAt K mg "_law_house" s_law_house ["script", "spot", "most"] f8 _ := ⟨F8, PySem.W.mg_of X G a8, F8.binds (ps := ["script", "spot", "most"]) fun _ _ _ _ _ _ us hl => match us, hl with | [_, _, _], _ => rfl⟩
  have F9 := fun_mk (st := s_law_rows_like) l9 c9 k9
  have D9 : DefAt K mg "_law_rows_like" s_law_rows_like ["found", "due"] f9 _ := ⟨F9, PySem.W.mg_of X G a9, F9.binds (ps := ["found", "due"]) fun _ _ _ _ _ _ us hl => match us, hl with | [_, _], _ => rfl⟩
  have F10 := fun_mk (st := s_law_which) l10 c10 k10
  have D10 : DefAt K mg "_law_which" s_law_which ["e"] f10 _ := ⟨F10, PySem.W.mg_of X G a10, F10.binds (ps := ["e"]) fun _ _ _ _ _ _ us hl => match us, hl with | [_], _ => rfl⟩
  have F11 := fun_mk (st := s_read_row) l11 c11 k11
  have D11 : DefAt K mg "read_row" s_read_row ["line"] f11 _ := ⟨F11, PySem.W.mg_of X G a11, F11.binds (ps := ["line"]) fun _ _ _ _ _ _ us hl => match us, hl with | [_], _ => rfl⟩
  have F12 := fun_mk (st := s_read) l12 c12 k12
  have D12 : DefAt K mg "read" s_read ["text"] f12 _ := ⟨F12, PySem.W.mg_of X G a12, F12.binds (ps := ["text"]) fun _ _ _ _ _ _ us hl => match us, hl with | [_], _ => rfl⟩
  have F13 := fun_mk (st := s_law_written) l13 c13 k13
  have D13 : DefAt K mg "_law_written" s_law_written ["text"] f13 _ := ⟨F13, PySem.W.mg_of X G a13, F13.binds (ps := ["text"]) fun _ _ _ _ _ _ us hl => match us, hl with | [_], _ => rfl⟩
  have F14 := fun_mk (st := s_law_changed) l14 c14 k14
  have D14 : DefAt K mg "_law_changed" s_law_changed ["text", "cell"] f14 _ := ⟨F14, PySem.W.mg_of X G a14, F14.binds (ps := ["text", "cell"]) fun _ _ _ _ _ _ us hl => match us, hl with | [_, _], _ => rfl⟩
  have F15 := fun_mk (st := s_law_asked) l15 c15 k15
  have D15 : DefAt K mg "_law_asked" s_law_asked ["text"] f15 _ := ⟨F15, PySem.W.mg_of X G a15, F15.binds (ps := ["text"]) fun _ _ _ _ _ _ us hl => match us, hl with | [_], _ => rfl⟩
  have F16 := fun_mk (st := s_law) l16 c16 k16
  have D16 : DefAt K mg "law" s_law ["script"] fa _ := ⟨F16, PySem.W.mg_of X G a16, F16.binds (ps := ["script"]) fun _ _ _ _ _ _ us hl => match us, hl with | [_], _ => rfl⟩
  refine ⟨PySem.W.fnOf "law" "law" (defArgs s_law) (defBody s_law) (defScope s_law) .none kV16 dc16 pm16 an16 cd16 ct16, fun s v => .of_eq rfl, fun base _ _ => ?_⟩
  have G_law_cell_at := c_cell_at (P := l.prog) (w := w) (base := base) D1 T
  have G_law_next := c_next (P := l.prog) (w := w) (base := base) D2 T G_law_cell_at
  have G_law_weight := c_weight (P := l.prog) (w := w) (base := base) D3 T
  have G_is_row := c_is_row (P := l.prog) (w := w) (base := base) D4 T
  have G_is_house := c_is_house (P := l.prog) (w := w) (base := base) D5 T G_is_row
  have G_law_some_house := c_some_house (P := l.prog) (w := w) (base := base) D6 T G_law_next G_law_weight
  have G_law_even_house := c_even_house (P := l.prog) (w := w) (base := base) D7 T G_law_next
  have G_law_house := c_house (P := l.prog) (w := w) (base := base) D8 T G_law_next G_law_some_house G_law_even_house
  have G_law_rows_like := c_law_rows_like (P := l.prog) (w := w) (base := base) D9 T
  have N_law_which := n_law_which (P := l.prog) (w := w) (base := base) D10 T Z
  have X_read_row := x_read_row (P := l.prog) (w := w) (base := base) D11 T Z
  have X_read := x_read (P := l.prog) (w := w) (base := base) D12 T Z X_read_row G_is_house
  have G_law_written := c_law_written (P := l.prog) (w := w) (base := base) D13 T
  have G_law_changed := c_law_changed (P := l.prog) (w := w) (base := base) D14 T
  have G_law_asked := c_law_asked (P := l.prog) (w := w) (base := base) D15 T Z X_read N_law_which
  exact ok_law (P := l.prog) (w := w) (base := base) D16 T G_law_house G_law_cell_at G_law_changed G_law_written G_law_asked G_law_rows_like
theorem walk {l : PySem.W.OpenLaw} {q : Program} {loose : List Str} {XP : (Str → Option Value) → Heap → Prop} {YP : World → Heap → Prop} {d : DefRec} {K : Params → PySem.W.Frag} (hn : l.most = some 63) (hdf : d.params.defaults = [])
    (hY : ∀ (w : World) (h : Heap), YP w h → (K w.params).In h)
    (F : ∀ (w : World) (mg : Str → Option Value) (fa : Addr) (h : Heap), (K w.params).In h → h.Ns mainGlobals mg → mg d.name = some (.ref fa) →
      ∃ fd : FuncData, (∀ (s : Shared) (u : Value), BindsTo s fd ⟨[u], []⟩ [("script", u)]) ∧ ∀ base : Heap, (K w.params).In base → base.Ns mainGlobals mg → FnOk l.prog w (K w.params) mg base CX0 9 fa fd ["script"] (spLaw (K w.params))) :
    PySem.W.WalkO q loose XP YP l.row.toRowW d [] (fun f vs => PySem.call f vs) :=
  L2.walk_of (n := 63) (k := 9) (x := "script") (CX := fun _ => CX0) (sp := fun w => spLaw (K w.params)) hn (by decide) hdf ⟨rfl, by decide, by decide⟩ hY F (fun _ _ a ns hl hO hS => ⟨a, ns, rfl, Scr.of hO hS, fun _ => rfl⟩) fun _ _ _ _ _ z => z
end K18
theorem PySem.W.Fast.tw10056026559788478746 : True := trivial
theorem PySem.W.Fast.tw10948349293521627144 : True := trivial
theorem PySem.W.Fast.tw11054053790295295971 : True := trivial
theorem PySem.W.Fast.tw11063152897225758043 : True := trivial
theorem PySem.W.Fast.tw11285171079448364223 : True := trivial
theorem PySem.W.Fast.tw11334821461209239669 : True := trivial
theorem PySem.W.Fast.tw11691688387808425599 : True := trivial
theorem PySem.W.Fast.tw11794508452273573105 : True := trivial
theorem PySem.W.Fast.tw11958211869788416404 : True := trivial
theorem PySem.W.Fast.tw12035370978178661666 : True := trivial
theorem PySem.W.Fast.tw12115987782406733432 : True := trivial
theorem PySem.W.Fast.tw12156442243587245502 : True := trivial
theorem PySem.W.Fast.tw12261144398146971045 : True := trivial
theorem PySem.W.Fast.tw1235859517858478553 : True := trivial
theorem PySem.W.Fast.tw12412240869597662424 : True := trivial
theorem PySem.W.Fast.tw12439461474341424578 : True := trivial
theorem PySem.W.Fast.tw12737837791481535223 : True := trivial
theorem PySem.W.Fast.tw12963637800842386559 : True := trivial
theorem PySem.W.Fast.tw13275173722284491611 : True := trivial
theorem PySem.W.Fast.tw13333336743814723477 : True := trivial
theorem PySem.W.Fast.tw13340130777888902169 : True := trivial
theorem PySem.W.Fast.tw13598590300905097935 : True := trivial
theorem PySem.W.Fast.tw13718374334183547093 : True := trivial
theorem PySem.W.Fast.tw13724401182498892825 : True := trivial
theorem PySem.W.Fast.tw13998537674600357564 : True := trivial
theorem PySem.W.Fast.tw14075613380943200247 : True := trivial
theorem PySem.W.Fast.tw14261268051150799903 : True := trivial
theorem PySem.W.Fast.tw14467219692811557297 : True := trivial
theorem PySem.W.Fast.tw14849216701950138405 : True := trivial
theorem PySem.W.Fast.tw15164704208519125701 : True := trivial
theorem PySem.W.Fast.tw15357598175577607801 : True := trivial
theorem PySem.W.Fast.tw15456248205164868519 : True := trivial
theorem PySem.W.Fast.tw15564198545225600457 : True := trivial
theorem PySem.W.Fast.tw1575486384438703867 : True := trivial
theorem PySem.W.Fast.tw1587766691260200122 : True := trivial
theorem PySem.W.Fast.tw16117141603125210650 : True := trivial
theorem PySem.W.Fast.tw16278357026040199746 : True := trivial
theorem PySem.W.Fast.tw16281405335221320244 : True := trivial
theorem PySem.W.Fast.tw16283399262788217322 : True := trivial
theorem PySem.W.Fast.tw16523421799036697844 : True := trivial
theorem PySem.W.Fast.tw16547540006868028783 : True := trivial
theorem PySem.W.Fast.tw16574310816704344079 : True := trivial
theorem PySem.W.Fast.tw16668413328384248483 : True := trivial
theorem PySem.W.Fast.tw16711517221165462660 : True := trivial
theorem PySem.W.Fast.tw16728334136297435583 : True := trivial
theorem PySem.W.Fast.tw16907955880927408222 : True := trivial
theorem PySem.W.Fast.tw17059103407173325595 : True := trivial
theorem PySem.W.Fast.tw17097057627210812340 : True := trivial
theorem PySem.W.Fast.tw17303812541112977665 : True := trivial
theorem PySem.W.Fast.tw17343383764088910198 : True := trivial
theorem PySem.W.Fast.tw17636795452539740645 : True := trivial
theorem PySem.W.Fast.tw17668633337055303451 : True := trivial
theorem PySem.W.Fast.tw17824480089853105103 : True := trivial
theorem PySem.W.Fast.tw17839542270387337932 : True := trivial
theorem PySem.W.Fast.tw18057126257837345745 : True := trivial
theorem PySem.W.Fast.tw18062850432958053183 : True := trivial
theorem PySem.W.Fast.tw18125899917592121436 : True := trivial
theorem PySem.W.Fast.tw18352601356991341645 : True := trivial
theorem PySem.W.Fast.tw1966864750043695472 : True := trivial
theorem PySem.W.Fast.tw1982958524706589016 : True := trivial
theorem PySem.W.Fast.tw2076585482372609364 : True := trivial
theorem PySem.W.Fast.tw2120678557563346214 : True := trivial
theorem PySem.W.Fast.tw227518263000573412 : True := trivial
theorem PySem.W.Fast.tw2495524103775931462 : True := trivial
theorem PySem.W.Fast.tw2598460514408322891 : True := trivial
theorem PySem.W.Fast.tw2654443401972964673 : True := trivial
theorem PySem.W.Fast.tw2813611092518844352 : True := trivial
theorem PySem.W.Fast.tw2881368040364028133 : True := trivial
theorem PySem.W.Fast.tw2899617658920928167 : True := trivial
theorem PySem.W.Fast.tw3038695882342358130 : True := trivial
theorem PySem.W.Fast.tw3062603521074803576 : True := trivial
theorem PySem.W.Fast.tw3118470375491444524 : True := trivial
theorem PySem.W.Fast.tw3147443672722618977 : True := trivial
theorem PySem.W.Fast.tw3220084189859197712 : True := trivial
theorem PySem.W.Fast.tw3396558411646178867 : True := trivial
theorem PySem.W.Fast.tw3405728034479827709 : True := trivial
theorem PySem.W.Fast.tw3613549913238147862 : True := trivial
theorem PySem.W.Fast.tw399492049330823642 : True := trivial
theorem PySem.W.Fast.tw4090372877972659706 : True := trivial
theorem PySem.W.Fast.tw4122738001266142577 : True := trivial
theorem PySem.W.Fast.tw4167721948607069560 : True := trivial
theorem PySem.W.Fast.tw4191059331380579593 : True := trivial
theorem PySem.W.Fast.tw4332356461261876463 : True := trivial
theorem PySem.W.Fast.tw4360279175919385287 : True := trivial
theorem PySem.W.Fast.tw4705799496311538841 : True := trivial
theorem PySem.W.Fast.tw48650438617951496 : True := trivial
theorem PySem.W.Fast.tw5059277441909164015 : True := trivial
theorem PySem.W.Fast.tw5070721870839840703 : True := trivial
theorem PySem.W.Fast.tw5268444808213207055 : True := trivial
theorem PySem.W.Fast.tw5402605723410642656 : True := trivial
theorem PySem.W.Fast.tw5489476652735368963 : True := trivial
theorem PySem.W.Fast.tw5713346014732275073 : True := trivial
theorem PySem.W.Fast.tw579143472073958408 : True := trivial
theorem PySem.W.Fast.tw5855097459133889980 : True := trivial
theorem PySem.W.Fast.tw6331290053205560381 : True := trivial
theorem PySem.W.Fast.tw6348106698072369018 : True := trivial
theorem PySem.W.Fast.tw6424647671514065690 : True := trivial
theorem PySem.W.Fast.tw6537952657085088971 : True := trivial
theorem PySem.W.Fast.tw6649319278793770962 : True := trivial
theorem PySem.W.Fast.tw6690960844598560714 : True := trivial
theorem PySem.W.Fast.tw671081268477280985 : True := trivial
theorem PySem.W.Fast.tw6902503242693506569 : True := trivial
theorem PySem.W.Fast.tw7035848297016748947 : True := trivial
theorem PySem.W.Fast.tw7478495023350296162 : True := trivial
theorem PySem.W.Fast.tw7515666720698401560 : True := trivial
theorem PySem.W.Fast.tw7580792495058332971 : True := trivial
theorem PySem.W.Fast.tw779479466618754465 : True := trivial
theorem PySem.W.Fast.tw78457753350100795 : True := trivial
theorem PySem.W.Fast.tw8115171009551902249 : True := trivial
theorem PySem.W.Fast.tw8176952805753127417 : True := trivial
theorem PySem.W.Fast.tw8240158955123231928 : True := trivial
theorem PySem.W.Fast.tw831350317491814394 : True := trivial
theorem PySem.W.Fast.tw9015956827139852745 : True := trivial
theorem PySem.W.Fast.tw9119733395341572691 : True := trivial
theorem PySem.W.Fast.tw9630477209016742324 : True := trivial
theorem PySem.W.Fast.tw9761298072566713876 : True := trivial
theorem PySem.W.Fast.tw9872064492454487014 : True := trivial
open PySem PySem.W PyProof.Rows
set_option maxRecDepth 100000 in
set_option maxHeartbeats 0 in
theorem PySem.Challenge.cw_strollhouse_k18_texts_refused_holds : PySem.Challenge.rw_strollhouse_k18_texts_refused.Holds := by
  w_on; o_law; k_head; (case hw => w_witness2)
  k_fill
  refine K18.walk (l := PySem.Challenge.rw_strollhouse_k18_texts_refused) rfl rfl (fun w h Y => PySem.W.kIn_of Y) ?F
  case F =>
    intro w mg fa h KX G hmg
    refine' K18.all_mk KX G hmg ?a1 ?l1 ?c1 ?k1 ?a2 ?l2 ?c2 ?k2 ?a3 ?l3 ?c3 ?k3 ?a4 ?l4 ?c4 ?k4 ?a5 ?l5 ?c5 ?k5 ?a6 ?l6 ?c6 ?k6 ?a7 ?l7 ?c7 ?k7 ?a8 ?l8 ?c8 ?k8 ?a9 ?l9 ?c9 ?k9 ?a10 ?l10 ?c10 ?k10 ?a11 ?l11 ?c11 ?k11 ?a12 ?l12 ?c12 ?k12 ?a13 ?l13 ?c13 ?k13 ?a14 ?l14 ?c14 ?k14 ?a15 ?l15 ?c15 ?k15 ?a16 ?l16 ?c16 ?k16 ?z1 ?z2 ?z3 ?z4 ?z5 ?z6 ?z7 ?z8 ?z9 ?z10 ?y1 ?y2 ?x1 ?x2 ?x3 ?x4 ?x5 ?x6 ?x7 ?x8 ?x9 ?x10 ?x11 ?x12 ?x13 ?x14 ?x15 ?x16 ?x17 ?x18 ?x19 ?x20 ?x21 ?x22 ?x23 ?x24 ?x25 ?x26 ?x27
    (case a1 => k_is)
    (case l1 => k_is)
    (case c1 => k_is)
    (case k1 => k_is)
    (case a2 => k_is)
    (case l2 => k_is)
    (case c2 => k_is)
    (case k2 => k_is)
    (case a3 => k_is)
    (case l3 => k_is)
    (case c3 => k_is)
    (case k3 => k_is)
    (case a4 => k_is)
    (case l4 => k_is)
    (case c4 => k_is)
    (case k4 => k_is)
    (case a5 => k_is)
    (case l5 => k_is)
    (case c5 => k_is)
    (case k5 => k_is)
    (case a6 => k_is)
    (case l6 => k_is)
    (case c6 => k_is)
    (case k6 => k_is)
    (case a7 => k_is)
    (case l7 => k_is)
    (case c7 => k_is)
    (case k7 => k_is)
    (case a8 => k_is)
    (case l8 => k_is)
    (case c8 => k_is)
    (case k8 => k_is)
    (case a9 => k_is)
    (case l9 => k_is)
    (case c9 => k_is)
    (case k9 => k_is)
    (case a10 => k_is)
    (case l10 => k_is)
    (case c10 => k_is)
    (case k10 => k_is)
    (case a11 => k_is)
    (case l11 => k_is)
    (case c11 => k_is)
    (case k11 => k_is)
    (case a12 => k_is)
    (case l12 => k_is)
    (case c12 => k_is)
    (case k12 => k_is)
    (case a13 => k_is)
    (case l13 => k_is)
    (case c13 => k_is)
    (case k13 => k_is)
    (case a14 => k_is)
    (case l14 => k_is)
    (case c14 => k_is)
    (case k14 => k_is)
    (case a15 => k_is)
    (case l15 => k_is)
    (case c15 => k_is)
    (case k15 => k_is)
    (case a16 => k_is)
    (case l16 => k_is)
    (case c16 => k_is)
    (case k16 => k_is)
    (case z1 => k_is)
    (case z2 => k_is)
    (case z3 => k_is)
    (case z4 => k_is)
    (case z5 => k_is)
    (case z6 => k_is)
    (case z7 => k_is)
    (case z8 => k_is)
    (case z9 => k_is)
    (case z10 => k_is)
    (case y1 => k_is)
    (case y2 => k_is)
    (case x1 => k_is)
    (case x2 => k_is)
    (case x3 => k_is)
    (case x4 => k_is)
    (case x5 => k_is)
    (case x6 => k_is)
    (case x7 => k_is)
    (case x8 => k_is)
    (case x9 => k_exc)
    (case x10 => k_is)
    (case x11 => k_is)
    (case x12 => k_is)
    (case x13 => k_is)
    (case x14 => k_is)
    (case x15 => k_is)
    (case x16 => k_is)
    (case x17 => kts_exm)
    (case x18 => kit_is)
    (case x19 => kit_is)
    (case x20 => kit_is)
    (case x21 => kit_is)
    (case x22 => kit_is)
    (case x23 => kit_is)
    (case x24 => kit_is)
    (case x25 => kit_is)
    (case x26 => k_is)
    (case x27 => k_is)
#print axioms PySem.Challenge.cw_strollhouse_k18_texts_refused_holds
