import PyProof.Rows.All
import Wide.All
import OpenK.AllK
import Wide.FinOn
import Lean
import PyProof.EqAt
import PyProof.EqKinds
import PyProof.TupleCall
import PySem.Challenge.RW_rightname_k45_laid
set_option Elab.async false
set_option linter.all false
set_option maxRecDepth 100000
/-! THE HAND LAYER, for ints, bools, texts, own classes, LISTS and tuples (index, slices, in, append, pop ..), calls, loops. Paste it whole ahead of your own text; what your proof does not reach may be deleted. -/
namespace L2
open PySem PySem.Spec PyProof.Rows

/-- a key: an int or a str -/
abbrev Key := Sum Int Str
def keyIs : Key → Value → Bool
  | .inl k, v => Value.isInt k v
  | .inr x, v => Value.isStrOf x v
def keyH (w : World) : Key → Int
  | .inl k => hashInt k
  | .inr x => hashStr w x
theorem keyIs_shape : ∀ {k : Key} {v : Value}, keyIs k v = true → (∃ i t, k = Sum.inl i ∧ v = Value.int i t) ∨ (∃ x t, k = Sum.inr x ∧ v = Value.str x t)
  | .inl i, v, h => by
    obtain ⟨t, e⟩ := Value.isInt_shape (k := i) (v := v) h
    exact .inl ⟨i, t, rfl, e⟩
  | .inr x, v, h => by
    obtain ⟨t, e⟩ := Value.isStrOf_shape (x := x) (v := v) h
    exact .inr ⟨x, t, rfl, e⟩
theorem keyIs_int (i : Int) (t : Tok) : keyIs (.inl i) (.int i t) = true := by simp [keyIs, Value.isInt]
theorem keyIs_str (x : Str) (t : Tok) : keyIs (.inr x) (.str x t) = true := by simp [keyIs, Value.isStrOf]
theorem key_ll (a b : Int) : decide ((Sum.inl a : Key) = Sum.inl b) = (a == b) := by
  by_cases e : a = b
  · subst e; simp
  · have h : ¬ (Sum.inl a : Key) = Sum.inl b := fun q => e (Sum.inl.inj q)
    rw [decide_eq_false h]
    exact (beq_eq_false_iff_ne.mpr e).symm
theorem key_rr (a b : Str) : decide ((Sum.inr a : Key) = Sum.inr b) = decide (a = b) := by
  by_cases e : a = b
  · subst e; simp
  · have h : ¬ (Sum.inr a : Key) = Sum.inr b := fun q => e (Sum.inr.inj q)
    rw [decide_eq_false h, decide_eq_false e]
theorem key_lr (a : Int) (b : Str) : decide ((Sum.inl a : Key) = Sum.inr b) = false := decide_eq_false (fun q => nomatch q)
theorem key_rl (a : Str) (b : Int) : decide ((Sum.inr a : Key) = Sum.inl b) = false := decide_eq_false (fun q => nomatch q)

def mixKind (prog : Program) (w : World) : PySem.KeyKind prog w Key where
  is := keyIs
  hash := keyH w
  inj := fun v a b ha hb => by
    rcases keyIs_shape ha with ⟨i, t, rfl, rfl⟩ | ⟨x, t, rfl, rfl⟩
    · rcases keyIs_shape hb with ⟨j, u, rfl, e⟩ | ⟨y, u, rfl, e⟩
      · injection e with e1 _; rw [e1]
      · exact nomatch e
    · rcases keyIs_shape hb with ⟨j, u, rfl, e⟩ | ⟨y, u, rfl, e⟩
      · exact nomatch e
      · injection e with e1 _; rw [e1]
  byValue := fun k v h => by
    rcases keyIs_shape h with ⟨i, t, rfl, rfl⟩ | ⟨x, t, rfl, rfl⟩ <;> rfl
  pyHash := fun hv h => by
    rcases keyIs_shape hv with ⟨i, t, rfl, rfl⟩ | ⟨x, t, rfl, rfl⟩
    · exact wpAny_pyHash_int h
    · exact wpAny_pyHash_str h
  eqBool := fun hu hv h => by
    rcases keyIs_shape hu with ⟨i, t, rfl, rfl⟩ | ⟨x, t, rfl, rfl⟩
    · rcases keyIs_shape hv with ⟨j, u, rfl, rfl⟩ | ⟨y, u, rfl, rfl⟩
      · rw [key_ll] at h; exact wpAny_eqBool_int h
      · rw [key_lr] at h; exact SeqAt.EqAt.int_str i t y u _ _ _ _ h
    · rcases keyIs_shape hv with ⟨j, u, rfl, rfl⟩ | ⟨y, u, rfl, rfl⟩
      · rw [key_rl] at h; exact SeqAt.EqAt.str_int x t j u _ _ _ _ h
      · rw [key_rr] at h; exact wpAny_eqBool_str h
  «strs» := fun k x t v h => by
    rcases keyIs_shape h with ⟨i, u, rfl, e⟩ | ⟨y, u, rfl, e⟩
    · exact nomatch e
    · injection e with e1 _
      subst e1
      cases v <;> rfl

theorem mixKind_int (prog : Program) (w : World) (i : Int) (t : Tok) : (mixKind prog w).is (.inl i) (.int i t) = true := keyIs_int i t
theorem mixKind_str (prog : Program) (w : World) (x : Str) (t : Tok) : (mixKind prog w).is (.inr x) (.str x t) = true := keyIs_str x t
end L2

namespace L2
open PySem PySem.Spec PyProof.Rows

/-- a value, without the heap -/
inductive V where
  | non | bl (b : Bool) | int (i : Int) | str (x : Str) | byt (b : Array UInt8) | flt (b : UInt64) | ref (a : Addr) | ty (n : String)
  deriving DecidableEq

def RelV : V → Value → Prop
  | .non, u => u = Value.none
  | .bl b, u => u = Value.bool b
  | .int i, u => ∃ t, u = Value.int i t
  | .str x, u => ∃ t, u = Value.str x t
  | .byt b, u => ∃ t, u = Value.bytes b t
  | .flt b, u => ∃ t, u = Value.float b t
  | .ref a, u => u = Value.ref a
  | .ty n, u => u = Value.type n

abbrev Vals : List V → List Value → Prop := Paired RelV
theorem Vals.length {xs : List V} {us : List Value} (r : Vals xs us) : xs.length = us.length := Paired.length r
theorem Vals.get : ∀ {xs : List V} {us : List Value} {i : Nat} {x : V}, Vals xs us → xs[i]? = some x → ∃ u, us[i]? = some u ∧ RelV x u
  | _, _, _, _, .nil, e => by simp at e
  | _, _, 0, _, .cons r _, e => by simp at e; subst e; exact ⟨_, rfl, r⟩
  | _, _, i + 1, x, .cons _ t, e => by
    obtain ⟨u, h1, h2⟩ := Vals.get (i := i) (x := x) t (by simpa using e)
    exact ⟨u, by simpa using h1, h2⟩
theorem Vals.set {x : V} {u : Value} (r : RelV x u) : ∀ {xs : List V} {us : List Value} (i : Nat), Vals xs us → Vals (xs.set i x) (us.set i u)
  | _, _, _, .nil => .nil
  | _, _, 0, .cons _ t => .cons r t
  | _, _, i + 1, .cons q t => .cons q (Vals.set r i t)
theorem Vals.append : ∀ {xs ys : List V} {us ws : List Value}, Vals xs us → Vals ys ws → Vals (xs ++ ys) (us ++ ws)
  | _, _, _, _, .nil, s => s
  | _, _, _, _, .cons r t, s => .cons r (Vals.append t s)
theorem Vals.take : ∀ {xs : List V} {us : List Value} (n : Nat), Vals xs us → Vals (xs.take n) (us.take n)
  | _, _, 0, _ => .nil
  | _, _, _ + 1, .nil => .nil
  | _, _, n + 1, .cons r t => .cons r (Vals.take n t)
theorem Vals.drop : ∀ {xs : List V} {us : List Value} (n : Nat), Vals xs us → Vals (xs.drop n) (us.drop n)
  | _, _, 0, r => r
  | _, _, _ + 1, .nil => .nil
  | _, _, n + 1, .cons _ t => Vals.drop n t
def RelO : Option V → Option Value → Prop
  | some v, some u => RelV v u
  | none, none => True
  | _, _ => False
def KV {κ : Type} : List (κ × V) → List (κ × Value) → Prop := Paired fun (p : κ × V) (q : κ × Value) => p.1 = q.1 ∧ RelV p.2 q.2

/-- a key of a dict (00_mix): an int or a text -/
def kV : Key → V
  | .inl i => .int i
  | .inr x => .str x

/-- what stands at a tracked address -/
inductive HO where
  /-- a list -/
  | lst (xs : List V)
  /-- a tuple (never changes) -/
  | tup (xs : List V)
  /-- a dict whose keys are ints and texts; one whose keys are tuples of ints and texts (the empty one is both) -/
  | dK (kvs : List (Key × V)) | dT (kvs : List (List Key × V))
  /-- a set of ints: its members, its size -/
  | set (S : Int → Bool) (n : Nat)
  /-- an instance of the class at C, its dict at dx, its attributes -/
  | ins (C dx : Addr) (fs : List (Str × V))
  /-- the dict of the instance at x -/
  | own (x : Addr)
  /-- the dict of an exception -/
  | xd (fs : List (Str × V))
  /-- a bound method, f of x -/
  | met (f x : Addr)
  /-- a range object lo, lo + 1, .. below hi -/
  | rng (lo hi : Int)
  /-- a thing that is known to the object (the script; a dict while a loop walks it): read, never written while it is so -/
  | frz (o : Obj) (u : HO)
  /-- a code object's table -/
  | tbl (ps : Array Value)
  /-- any other thing, by what is true of its one object (a def of one's own: SetO a S n := HO.ext fun h => ..) -/
  | ext (φ : Heap → Prop)

abbrev Hp := Addr → Option HO
def upd (H : Hp) (a : Addr) (o : HO) : Hp := fun b => if b = a then some o else H b
theorem upd_same {H : Hp} {a : Addr} {o : HO} : upd H a o a = some o := by unfold upd; rw [if_pos rfl]
theorem upd_ne {H : Hp} {a b : Addr} {o : HO} (h : b ≠ a) : upd H a o b = H b := by unfold upd; rw [if_neg h]
/-- two objects of different content stand apart -/
theorem ne_of {H : Hp} {a b : Addr} {o u : HO} (h : H a = some o) (h' : H b = some u) (d : o ≠ u) : a ≠ b := by
  intro e; subst e; rw [h] at h'; exact d (Option.some.inj h')
theorem ne_of_none {H : Hp} {a b : Addr} {o : HO} (h : H a = some o) (h' : H b = none) : a ≠ b := by
  intro e; subst e; rw [h] at h'; cases h'

section
variable (P : Program) (w : World)
def ObjOk (H : Hp) (h : Heap) (a : Addr) : HO → Prop
  | .lst xs => xs.length ≤ sizeLine ∧ ∃ (its : List Value) (n : Nat), Vals xs its ∧ h.get? a = some { cls := .type "list", data := .seq its.toArray n }
  | .tup xs => xs.length ≤ sizeLine ∧ ∃ its : List Value, Vals xs its ∧ IsTup h a its.toArray
  | .dK kvs => kvs.length ≤ sizeLine ∧ (a == sysModules) = false ∧ ∃ vs, KV kvs vs ∧ h.DictOf (mixKind P w) a vs
  | .dT kvs => kvs.length ≤ sizeLine ∧ (a == sysModules) = false ∧ ∃ xs : List (List Key × Addr × Value),
      Paired (fun (p : List Key × V) (q : List Key × Addr × Value) => p.1 = q.1 ∧ H q.2.1 = some (.tup (p.1.map kV)) ∧ RelV p.2 q.2.2) kvs xs ∧
      ∃ o es ep, h.get? a = some o ∧ o.ExactDict ∧ o.data = .dict es ep ∧ es.toList = xs.map (entryOfKey (tupleKind (mixKind P w))) ∧ (xs.map (·.1)).Nodup
  | .set S n => h.SetOf (intKind P w) a S n
  | .ins C dx fs => H dx = some (.own a) ∧ fs.length ≤ 1000 ∧ dx ≠ a ∧ h.get? a = some (PySem.W.instObj C dx) ∧
      ∃ mA, h.Ns1 dx mA ∧ (∀ f, RelO (fs.lookup f) (mA f)) ∧ PySem.Within mA (fs.map (·.1))
  | .own _ => ∃ o, h.get? a = some o
  | .xd fs => ∃ mA, h.Ns1 a mA ∧ ∀ f, RelO (fs.lookup f) (mA f)
  | .rng lo hi => ∃ t u v, h.get? a = some { cls := .type "range", data := .fields #[.int lo t, .int hi u, .int 1 v] }
  | .frz o u => h.get? a = some o ∧ ObjOk H h a u
  | .tbl ps => h.get? a = some { cls := .none, data := .fields ps }
  | .met f x => h.get? a = some (PySem.W.methodObj (.ref f) (.ref x))
  | .ext φ => φ h ∧ (∃ o, h.get? a = some o) ∧ ∀ h1 h2 : Heap, φ h1 → (∀ o, h1.get? a = some o → h2.get? a = some o) → φ h2
/-- the abstract heap is held -/
def HOk (H : Hp) (h : Heap) : Prop := ∀ a o, H a = some o → ObjOk P w H h a o
end

section
variable {P : Program} {w : World} {H H' : Hp} {h h' : Heap} {a : Addr} {o : HO}
theorem ObjOk.lt (x : ObjOk P w H h a o) : a < h.objs.size := by
  cases o with
  | lst xs => obtain ⟨_, _, _, _, e⟩ := x; exact Heap.lt_size e
  | tup xs => obtain ⟨_, _, _, p⟩ := x; exact p.lt
  | dK kvs => obtain ⟨_, _, _, _, o, _, _, e, _⟩ := x; exact Heap.lt_size e
  | dT kvs => obtain ⟨_, _, _, _, o, _, _, e, _⟩ := x; exact Heap.lt_size e
  | set S n => obtain ⟨o, _, _, _, e, _⟩ := x; exact Heap.lt_size e
  | ins C dx fs => obtain ⟨_, _, _, e, _⟩ := x; exact Heap.lt_size e
  | own y => obtain ⟨_, e⟩ := x; exact Heap.lt_size e
  | xd fs => obtain ⟨_, ⟨_, _, _, e, _⟩, _⟩ := x; exact Heap.lt_size e
  | rng lo hi => obtain ⟨_, _, _, e⟩ := x; exact Heap.lt_size e
  | frz ob u => obtain ⟨e, _⟩ := x; exact Heap.lt_size e
  | tbl ps => exact Heap.lt_size (show h.get? a = some _ from x)
  | met f y => exact Heap.lt_size (show h.get? a = some _ from x)
  | ext φ => obtain ⟨_, ⟨_, e⟩, _⟩ := x; exact Heap.lt_size e
theorem Paired.mapP {α β : Type} {F G : α → β → Prop} : ∀ {l₁ : List α} {l₂ : List β}, Paired F l₁ l₂ → (∀ a b, F a b → G a b) → Paired G l₁ l₂
  | _, _, .nil, _ => .nil
  | _, _, .cons r t, f => .cons (f _ _ r) (Paired.mapP t f)
/-- what an object's description leans on: its own object, its own dict, the tuples -/
theorem ObjOk.stay (x : ObjOk P w H h a o) (k : ∀ b u, (b = a ∨ H b = some (.own a)) → h.get? b = some u → h'.get? b = some u)
    (ho : ∀ b, H b = some (.own a) → H' b = some (.own a)) (ht : ∀ b xs, H b = some (.tup xs) → H' b = some (.tup xs)) : ObjOk P w H' h' a o := by
  induction o with
  | lst xs => obtain ⟨z, its, n, r, e⟩ := x; exact ⟨z, its, n, r, k _ _ (.inl rfl) e⟩
  | tup xs => obtain ⟨z, its, r, ob, e, c⟩ := x; exact ⟨z, its, r, ob, k _ _ (.inl rfl) e, c⟩
  | dK kvs => obtain ⟨z, y, vs, r, ob, es, ep, e, c⟩ := x; exact ⟨z, y, vs, r, ob, es, ep, k _ _ (.inl rfl) e, c⟩
  | dT kvs =>
    obtain ⟨z, y, xs, r, ob, es, ep, e, c⟩ := x
    exact ⟨z, y, xs, Paired.mapP r fun p q z => ⟨z.1, ht _ _ z.2.1, z.2.2⟩, ob, es, ep, k _ _ (.inl rfl) e, c⟩
  | set S n => obtain ⟨ob, es, ep, t, e, c⟩ := x; exact ⟨ob, es, ep, t, k _ _ (.inl rfl) e, c⟩
  | ins C dx fs =>
    obtain ⟨d, z, ne, e, mA, ⟨od, es, ep, e2, c⟩, r⟩ := x
    exact ⟨ho _ d, z, ne, k _ _ (.inl rfl) e, mA, ⟨od, es, ep, k _ _ (.inr d) e2, c⟩, r⟩
  | own y => obtain ⟨ob, e⟩ := x; exact ⟨ob, k _ _ (.inl rfl) e⟩
  | xd fs => obtain ⟨mA, ⟨od, es, ep, e, c⟩, r⟩ := x; exact ⟨mA, ⟨od, es, ep, k _ _ (.inl rfl) e, c⟩, r⟩
  | rng lo hi => obtain ⟨t, u, v, e⟩ := x; exact ⟨t, u, v, k _ _ (.inl rfl) e⟩
  | frz ob u ih => obtain ⟨e, q⟩ := x; exact ⟨k _ _ (.inl rfl) e, ih q⟩
  | tbl ps =>
    have e : h.get? a = some { cls := .none, data := .fields ps } := x
    show h'.get? a = some { cls := .none, data := .fields ps }
    exact k a _ (.inl rfl) e
  | met f y =>
    have e : h.get? a = some (PySem.W.methodObj (.ref f) (.ref y)) := x
    show h'.get? a = some (PySem.W.methodObj (.ref f) (.ref y))
    exact k a _ (.inl rfl) e
  | ext φ => obtain ⟨p, ⟨o, e⟩, st⟩ := x; exact ⟨st _ _ p fun o q => k _ _ (.inl rfl) q, ⟨o, k _ _ (.inl rfl) e⟩, st⟩
theorem HOk.lt (x : HOk P w H h) (e : H a = some o) : a < h.objs.size := (x a o e).lt
theorem HOk.fresh (x : HOk P w H h) (e : h.objs.size ≤ a) : H a = none := by
  cases q : H a with
  | none => rfl
  | some u => exact absurd (Nat.lt_of_lt_of_le (x.lt q) e) (Nat.lt_irrefl _)
/-- every object of the heap is kept -/
theorem HOk.kept (x : HOk P w H h) (k : ∀ b u, h.get? b = some u → h'.get? b = some u) : HOk P w H h' := fun a o e =>
  (x a o e).stay (fun b u _ q => k b u q) (fun _ q => q) fun _ _ q => q
/-- a new object is laid and tracked -/
theorem HOk.laid (x : HOk P w H h) (k : ∀ b u, h.get? b = some u → h'.get? b = some u) (hp : h.objs.size ≤ a) (new : ObjOk P w (upd H a o) h' a o) : HOk P w (upd H a o) h' := fun b u e => by
  have hn := x.fresh hp
  by_cases hb : b = a
  · subst hb; rw [upd_same] at e; cases e; exact new
  · rw [upd_ne hb] at e
    exact (x b u e).stay (fun c v _ q => k c v q) (fun c q => by rw [upd_ne (ne_of_none q hn)]; exact q) fun c xs q => by rw [upd_ne (ne_of_none q hn)]; exact q
end

/-- what may be read as u: it is u, or a known u -/
def Rd (H : Hp) (a : Addr) (u : HO) : Prop := H a = some u ∨ ∃ o, H a = some (.frz o u)
theorem Rd.ok {P : Program} {w : World} {H : Hp} {h : Heap} {a : Addr} {u : HO} (r : Rd H a u) (x : HOk P w H h) : ObjOk P w H h a u := by
  rcases r with r | ⟨o, r⟩
  · exact x a u r
  · obtain ⟨_, q⟩ := x a _ r
    exact q
/-- what may be written -/
def Mut : Option HO → Prop
  | some (.lst _) => True
  | some (.dK _) => True
  | some (.dT _) => True
  | some (.set _ _) => True
  | some (.ins _ _ _) => True
  | some (.ext _) => True
  | _ => False
section
variable {P : Program} {w : World} {H : Hp} {h h' : Heap} {x e : Addr} {o' : HO}
/-- the object at e is changed: x itself, or the dict of the instance x -/
theorem HOk.write (ok : HOk P w H h) (mu : Mut (H x)) (he : e = x ∨ H e = some (.own x)) (k : ∀ b u, b ≠ e → h.get? b = some u → h'.get? b = some u) (heo : ∃ u, h'.get? e = some u)
    (new : ObjOk P w (upd H x o') h' x o') : HOk P w (upd H x o') h' := fun b u q => by
  have nown : ∀ c y, H c = some (.own y) → c ≠ x := fun c y r z => by subst z; rw [r] at mu; exact mu
  have ntup : ∀ c xs, H c = some (.tup xs) → c ≠ x := fun c xs r z => by subst z; rw [r] at mu; exact mu
  by_cases hb : b = x
  · subst hb; rw [upd_same] at q; cases q; exact new
  · rw [upd_ne hb] at q
    by_cases hbe : b = e
    · have q' : H b = some (.own x) := by
        rcases he with z | z
        · exact absurd (hbe.trans z) hb
        · rw [hbe]; exact z
      rw [q] at q'; cases q'
      obtain ⟨v, hv⟩ := heo
      exact ⟨v, by rw [hbe]; exact hv⟩
    · refine (ok b u q).stay (fun c v hc r => k c v ?_ r) (fun c r => by rw [upd_ne (nown c b r)]; exact r) fun c xs r => by rw [upd_ne (ntup c xs r)]; exact r
      rcases hc with rfl | hc
      · exact hbe
      · rintro rfl
        rcases he with z | z
        · exact nown c b hc z
        · rw [hc] at z; cases z; exact hb rfl
end

/-! ### kept unless tracked; of the frames at fs (the callers') the slots may change (an exception that passes writes there); of the records at ex (iterators) nothing is said -/
structure Un (fs ex : List Addr) (H H' : Hp) (h h' : Heap) : Prop where
  keep : ∀ b o, h.get? b = some o → H b = none → b ∉ fs → b ∉ ex → h'.get? b = some o
  slot : ∀ b o, h.get? b = some o → H b = none → b ∈ fs → b ∉ ex → ∃ sl, h'.get? b = some { o with slots := sl }
  free : ∀ b o, h.get? b = some o → H b = none → b ∉ ex → H' b = none
  there : ∀ b o, h.get? b = some o → b ∉ ex → ∃ o', h'.get? b = some o'
  tups : ∀ b xs, H b = some (.tup xs) → H' b = some (.tup xs)
  frzs : ∀ b o u, H b = some (.frz o u) → H' b = some (.frz o u)
  tbls : ∀ b ps, H b = some (.tbl ps) → ∃ more, H' b = some (.tbl (ps ++ more))
section
variable {fs fs' ex ex' : List Addr} {H H1 H2 : Hp} {h h1 h2 h' : Heap} {a x e : Addr} {o : HO}
theorem Un.any (u : Un fs ex H H1 h h1) {b : Addr} {ob : Obj} (q : h.get? b = some ob) (n : H b = none) (hx : b ∉ ex) : ∃ sl, h1.get? b = some { ob with slots := sl } := by
  by_cases hb : b ∈ fs
  · exact u.slot b ob q n hb hx
  · exact ⟨ob.slots, u.keep b ob q n hb hx⟩
theorem Un.trans (a : Un fs ex H H1 h h1) (b : Un fs ex H1 H2 h1 h2) : Un fs ex H H2 h h2 where
  keep := fun c ob q n hc hx => b.keep c ob (a.keep c ob q n hc hx) (a.free c ob q n hx) hc hx
  slot := fun c ob q n hc hx => by
    obtain ⟨sl, e1⟩ := a.slot c ob q n hc hx
    obtain ⟨sl', e2⟩ := b.slot c _ e1 (a.free c ob q n hx) hc hx
    exact ⟨sl', e2⟩
  free := fun c ob q n hx => by
    obtain ⟨o', e1⟩ := a.there c ob q hx
    exact b.free c o' e1 (a.free c ob q n hx) hx
  there := fun c ob q hx => by
    obtain ⟨o', e1⟩ := a.there c ob q hx
    exact b.there c o' e1 hx
  tups := fun c xs q => b.tups c xs (a.tups c xs q)
  frzs := fun c ob xs q => b.frzs c ob xs (a.frzs c ob xs q)
  tbls := fun c ps q => by
    obtain ⟨m1, e1⟩ := a.tbls c ps q
    obtain ⟨m2, e2⟩ := b.tbls c _ e1
    exact ⟨m1 ++ m2, by rw [e2, Array.append_assoc]⟩
theorem Un.kept (k : ∀ b u, h.get? b = some u → h'.get? b = some u) : Un fs ex H H h h' :=
  ⟨fun b ob q _ _ _ => k b ob q, fun b ob q _ _ _ => ⟨ob.slots, k b ob q⟩, fun _ _ _ n _ => n, fun b ob q _ => ⟨ob, k b ob q⟩, fun _ _ q => q, fun _ _ _ q => q, fun _ ps q => ⟨#[], by rw [q]; simp⟩⟩
theorem Un.refl : Un fs ex H H h h := Un.kept fun _ _ q => q
theorem Un.laid (k : ∀ b u, h.get? b = some u → h'.get? b = some u) (hp : h.objs.size ≤ a) (hn : H a = none) : Un fs ex H (upd H a o) h h' where
  keep := fun b u q _ _ _ => k b u q
  slot := fun b u q _ _ _ => ⟨u.slots, k b u q⟩
  free := fun b u q n _ => by rw [upd_ne (Nat.ne_of_lt (Nat.lt_of_lt_of_le (Heap.lt_size q) hp))]; exact n
  there := fun b u q _ => ⟨u, k b u q⟩
  tups := fun b xs q => by rw [upd_ne (ne_of_none q hn)]; exact q
  frzs := fun b u xs q => by rw [upd_ne (ne_of_none q hn)]; exact q
  tbls := fun b ps q => ⟨#[], by rw [upd_ne (ne_of_none q hn), q]; simp⟩
theorem Un.write (mu : Mut (H x)) (he : e = x ∨ H e = some (.own x)) (k : ∀ b u, b ≠ e → h.get? b = some u → h'.get? b = some u) (heo : ∃ u, h'.get? e = some u) : Un fs ex H (upd H x o) h h' := by
  have hx : ∀ b, H b = none → b ≠ x := fun b n z => by subst z; rw [n] at mu; exact mu
  have hb : ∀ b, H b = none → b ≠ e := fun b n z => by
    subst z
    rcases he with r | r
    · exact hx b n r
    · rw [n] at r; cases r
  have hm : ∀ b u, H b = some u → ¬ Mut (some u) → b ≠ x := fun b u q nm z => by subst z; rw [q] at mu; exact nm mu
  refine ⟨fun b u q n _ _ => k b u (hb b n) q, fun b u q n _ _ => ⟨u.slots, k b u (hb b n) q⟩, fun b u q n _ => by rw [upd_ne (hx b n)]; exact n, fun b u q _ => ?_,
    fun b xs q => by rw [upd_ne (hm b _ q fun z => z)]; exact q, fun b u xs q => by rw [upd_ne (hm b _ q fun z => z)]; exact q, fun b ps q => ⟨#[], by rw [upd_ne (hm b _ q fun z => z), q]; simp⟩⟩
  by_cases hbe : b = e
  · subst hbe; exact heo
  · exact ⟨u, k b u hbe q⟩
end

/-! ### the heap without what is tracked -/
def trk (h : Heap) (H : Hp) : List Addr := (List.range h.objs.size).filter fun a => (H a).isSome
def hidT (h : Heap) (H : Hp) : Heap := PySem.W.hideAll h (trk h H)
theorem hidT_size (h : Heap) (H : Hp) : (hidT h H).objs.size = h.objs.size := PySem.W.hideAll_size _ _
theorem hidT_get {h : Heap} {H : Hp} {b : Addr} {o : Obj} (e : h.get? b = some o) (n : H b = none) : (hidT h H).get? b = some o :=
  PySem.W.hideAll_get _ e fun hm => by
    have q : (H b).isSome = true := (List.mem_filter.mp hm).2
    rw [n] at q; simp at q
theorem of_hidT {h : Heap} {H : Hp} {b : Addr} {o : Obj} (e : (hidT h H).get? b = some o) : h.get? b = some o ∧ H b = none := by
  have e' : h.get? b = some o := PySem.W.of_hideAll (trk h H) e
  refine ⟨e', ?_⟩
  cases q : H b with
  | none => rfl
  | some x =>
    have hm : b ∈ trk h H := List.mem_filter.mpr ⟨List.mem_range.mpr (Heap.lt_size e'), by simp [q]⟩
    have z : (hidT h H).get? b = none := PySem.W.hideAll_none (trk h H) hm
    rw [z] at e; cases e

/-! ### OpenK's ledger, filled with every new object but one -/
def allNews (g h : Heap) (L : Addr) : List (Addr × Obj) := (List.range h.objs.size).filterMap fun a => if a = L ∨ (g.get? a).isSome = true then none else (h.get? a).map fun o => (a, o)
def rest (g h : Heap) (L d : Addr) : List (Addr × Obj) := (allNews g h L).filter fun p => decide (p.1 ≠ d)
end L2

namespace L2
open PySem PySem.Spec PyProof.Rows

/-- the module's facts, over the base: the heap at the law's entry without what is tracked there -/
structure Mod (K : PySem.W.Frag) (mg : Str → Option Value) (base : Heap) : Prop where
  kin : K.In base
  glob : base.Ns mainGlobals mg
  blt : ∃ mb, base.Ns builtinsNs mb ∧ ∀ x : Str, x ≠ "__name__" → mb x = bootBuiltins x
  nolimit : base.NoLimit

/- the context: a def's body (or a comprehension's block) running. base: fixed through the whole law; s₀, H₀: the entry; outer: the frames whose slots others may change (a def's callers); stack: all frames that run;
   ex: iterators that were made ahead of the entry and are walked here (a comprehension's); fn: the names whose cells were made at the entry (a def: all; a comprehension's block: its own); calm: not within an except suite; pn: pins that every state bears; xe: what is wanted of an exception that leaves the code -/
set_option genInjectivity false in
set_option genSizeOfSpec false in
set_option genSizeOf false in
structure Cx where
  prog : Program
  w : World
  K : PySem.W.Frag
  mg : Str → Option Value
  base : Heap
  A : Around
  N : List Str
  s₀ : Shared
  H₀ : Hp
  env : Env
  outer : List Env
  stack : List Env
  ex : List Addr
  fn : Str → Bool
  calm : Bool
  pn : List (Addr × Obj)
  xe : Value → Shared → Prop
/-- the callers' frames -/
def frs (l : List Env) : List Addr := l.filterMap (·.frame)
abbrev Cx.fs (X : Cx) : List Addr := frs X.outer

def Vis (sc : Scope) (x : Str) : Prop := sc.names.lookup x = some .local ∨ sc.names.lookup x = some .cell ∨ sc.names.lookup x = some .free
def Loc (sc : Scope) (x : Str) : Prop := sc.names.lookup x = some .local ∨ sc.names.lookup x = some .cell
def Look (env : Env) (h : Heap) (m : Str → Option Value) (x : Str) (u : Value) : Prop :=
  (env.kindOf x = some .local ∧ m x = some u) ∨ ((env.kindOf x = some .cell ∨ env.kindOf x = some .free) ∧ ∃ c, env.cells.lookup x = some c ∧ h.IsCell c (some u))

structure Cx.Ok (X : Cx) : Prop where
  mod : Mod X.K X.mg X.base
  kind : X.env.scope.kind = .function
  glob : X.env.globals = mainGlobals
  blt : X.env.builtins = builtinsNs
  above : X.s₀.heap.objs.size ≤ X.env.locals
  inj : ∀ x y c, X.env.cells.lookup x = some c → X.env.cells.lookup y = some c → x = y
  has : ∀ x, (X.env.kindOf x = some .cell ∨ X.env.kindOf x = some .free) → ∃ c, X.env.cells.lookup x = some c
  cab : ∀ x c, X.fn x = true → X.env.cells.lookup x = some c → X.s₀.heap.objs.size ≤ c
  hd : X.calm = true → X.A.handled = none
  frames : X.A.frames = some X.stack
  stk : X.stack = X.outer ∨ (X.stack = X.env :: X.outer ∧ X.env.frame = some X.env.locals)
  exf : ∀ b ∈ X.ex, b ≠ X.env.locals ∧ ∀ x c, X.env.cells.lookup x = some c → c ≠ b
  bs : ∀ b o, X.base.get? b = some o → X.s₀.heap.get? b = some o ∧ X.H₀ b = none
  bsz : X.base.objs.size ≤ X.s₀.heap.objs.size
  noex : ∀ b o, X.base.get? b = some o → b ∉ X.ex
  exfs : ∀ b ∈ X.ex, b ∉ X.fs
  funs : X.s₀.heap.FunFrames X.base X.outer
  frf : ∀ b ∈ X.fs, X.H₀ b = none

structure Inv (X : Cx) (pins : List (Addr × Obj)) (σ : List (Option V)) (H : Hp) (s : Shared) : Prop where
  ok : X.Ok
  os : s.os = X.s₀.os
  bare : AllBare s.gens
  base : Un X.fs X.ex X.H₀ H X.s₀.heap s.heap
  loc : ∃ m, s.heap.Ns X.env.locals m ∧ ∀ (i : Nat) (x : Str) (v : V), X.N[i]? = some x → σ[i]? = some (some v) → Vis X.env.scope x → ∃ u, RelV v u ∧ Look X.env s.heap m x u
  cell : ∀ x c, X.env.cells.lookup x = some c → ∃ v, s.heap.IsCell c v
  free : H X.env.locals = none
  freeC : ∀ x c, X.env.cells.lookup x = some c → H c = none
  pin : ∀ p ∈ X.pn ++ pins, s.heap.get? p.1 = some p.2 ∧ H p.1 = none ∧ p.1 ≠ X.env.locals ∧ p.1 ∉ X.fs ∧ ∀ v, p.2.data ≠ .cell v
  hok : HOk X.prog X.w H s.heap
  len : σ.length = X.N.length

section
variable {X : Cx} {pins : List (Addr × Obj)} {σ : List (Option V)} {H H' : Hp} {s : Shared} {h' : Heap}

theorem Cx.Ok.nofr (ok : X.Ok) {b : Addr} {o : Obj} (e : X.base.get? b = some o) : b ∉ X.fs := fun hb => by
  have := (ok.funs.mem hb).1
  rw [e] at this; cases this
theorem Inv.bs (I : Inv X pins σ H s) : ∀ b o, X.base.get? b = some o → s.heap.get? b = some o ∧ H b = none := fun b o e =>
  ⟨I.base.keep b o (I.ok.bs b o e).1 (I.ok.bs b o e).2 (I.ok.nofr e) (I.ok.noex b o e), I.base.free b o (I.ok.bs b o e).1 (I.ok.bs b o e).2 (I.ok.noex b o e)⟩
theorem Inv.bk (I : Inv X pins σ H s) : ∀ b o, X.base.get? b = some o → s.heap.get? b = some o := fun b o e => (I.bs b o e).1
theorem Inv.mod (I : Inv X pins σ H s) : Mod X.K X.mg X.base := I.ok.mod
theorem Inv.kIn (I : Inv X pins σ H s) : X.K.In s.heap := I.ok.mod.kin.keeps I.bk
theorem Inv.lt (I : Inv X pins σ H s) : X.env.locals < s.heap.objs.size := let ⟨_, hn, _⟩ := I.loc; hn.lt
theorem Inv.sz (I : Inv X pins σ H s) : X.s₀.heap.objs.size ≤ s.heap.objs.size := Nat.le_trans I.ok.above (Nat.le_of_lt I.lt)
theorem Inv.nofs (I : Inv X pins σ H s) {a : Addr} (h : s.heap.objs.size ≤ a) : a ∉ X.fs := fun hb => by
  obtain ⟨_, o, ho, _⟩ := I.ok.funs.mem hb
  exact absurd (Nat.lt_of_lt_of_le (Heap.lt_size ho) (Nat.le_trans I.sz h)) (Nat.lt_irrefl _)
theorem Inv.cne (I : Inv X pins σ H s) : ∀ x c, X.env.cells.lookup x = some c → c ≠ X.env.locals := fun x c e z => by
  obtain ⟨v, o, ho, hd⟩ := I.cell x c e
  obtain ⟨m, ⟨o', es, ep, ho', hd', _⟩, _⟩ := I.loc
  rw [z, ho'] at ho; cases ho; rw [hd'] at hd; cases hd
theorem Inv.funs (I : Inv X pins σ H s) : s.heap.FunFrames X.base X.outer := by
  have all : ∀ (l : List Env), (∀ b ∈ frs l, b ∈ X.fs) → X.s₀.heap.FunFrames X.base l → s.heap.FunFrames X.base l := by
    intro l
    induction l with
    | nil => intro _ _; trivial
    | cons env r ih =>
      intro hs hl
      obtain ⟨hk, ⟨L, o, hf, hn, ho, hd⟩, hr⟩ := hl
      have hL : L ∈ X.fs := hs L (by unfold frs; rw [List.filterMap_cons, hf]; exact List.mem_cons_self)
      obtain ⟨sl, e⟩ := I.base.slot L o ho (I.ok.frf L hL) hL fun z => I.ok.exfs L z hL
      exact ⟨hk, ⟨L, _, hf, hn, e, hd⟩, ih (fun b hb => hs b (by unfold frs; rw [List.filterMap_cons, hf]; exact List.mem_cons_of_mem _ hb)) hr⟩
  exact all X.outer (fun _ hb => hb) I.ok.funs

/-- the frames that run, for a call -/
theorem Inv.stack (I : Inv X pins σ H s) : s.heap.FunFrames X.base X.stack := by
  rcases I.ok.stk with e | ⟨e, hf⟩
  · rw [e]; exact I.funs
  · rw [e]
    obtain ⟨m, hn, _⟩ := I.loc
    refine .cons (by rw [I.ok.kind]; decide) hf hn ?_ I.funs
    exact Heap.get?_none_of_le (Nat.le_trans I.ok.bsz I.ok.above)
theorem Inv.stkSub (I : Inv X pins σ H s) : ∀ b ∈ frs X.stack, b ∈ X.env.locals :: X.fs := fun b hb => by
  rcases I.ok.stk with e | ⟨e, hf⟩
  · rw [e] at hb; exact List.mem_cons_of_mem _ hb
  · rw [e] at hb
    unfold frs at hb
    rw [List.filterMap_cons, hf] at hb
    exact hb
theorem Inv.stkFree (I : Inv X pins σ H s) : ∀ b ∈ frs X.stack, H b = none := fun b hb => by
  rcases List.mem_cons.mp (I.stkSub b hb) with e | hb
  · rw [e]; exact I.free
  · obtain ⟨_, o, ho, _⟩ := I.ok.funs.mem hb
    exact I.base.free b o ho (I.ok.frf b hb) fun z => I.ok.exfs b z hb

/-- THE STEP: the untracked objects but the frame and the records at ch are kept (the callers' frames up to slots), the frame's map is kept, the new abstract heap is held -/
theorem Inv.step {g' : Array GenState} {t' : Nat} {d' : Drawn} {ch : List Addr} (I : Inv X pins σ H s)
    (hch : ∀ b ∈ ch, (b ∈ X.ex ∨ X.s₀.heap.objs.size ≤ b) ∧ b ≠ X.env.locals ∧ (∀ x c, X.env.cells.lookup x = some c → c ≠ b) ∧ ∀ p ∈ X.pn ++ pins, p.1 ≠ b)
    (keep : ∀ b o, b ≠ X.env.locals → b ∉ X.fs → b ∉ ch → s.heap.get? b = some o → H b = none → h'.get? b = some o)
    (slot : ∀ b o, b ≠ X.env.locals → b ∈ X.fs → b ∉ ch → s.heap.get? b = some o → H b = none → ∃ sl, h'.get? b = some { o with slots := sl }) (free : ∀ b o, b ∉ ch → s.heap.get? b = some o → H b = none → H' b = none)
    (there : ∀ b o, b ∉ ch → s.heap.get? b = some o → ∃ o', h'.get? b = some o')
    (tups : ∀ b xs, H b = some (.tup xs) → H' b = some (.tup xs)) (frzs : ∀ b o u, H b = some (.frz o u) → H' b = some (.frz o u)) (tbls : ∀ b ps, H b = some (.tbl ps) → ∃ more, H' b = some (.tbl (ps ++ more)))
    (ns : ∀ m, s.heap.Ns X.env.locals m → h'.Ns X.env.locals m) (hok : HOk X.prog X.w H' h') (hg : AllBare g') :
    Inv X pins σ H' { s with heap := h', gens := g', drawn := d', toks := t' } := by
  have neL : ∀ b o, X.s₀.heap.get? b = some o → b ≠ X.env.locals := fun b o e => Nat.ne_of_lt (Nat.lt_of_lt_of_le (Heap.lt_size e) I.ok.above)
  have neC : ∀ b o, X.s₀.heap.get? b = some o → b ∉ X.ex → b ∉ ch := fun b o e hx hb => by
    rcases (hch b hb).1 with z | z
    · exact hx z
    · exact absurd (Nat.lt_of_lt_of_le (Heap.lt_size e) z) (Nat.lt_irrefl _)
  have cellK : ∀ x c, X.env.cells.lookup x = some c → ∀ v, s.heap.IsCell c v → h'.IsCell c v := fun x c e v ⟨o, ho, hd⟩ => by
    have nch : c ∉ ch := fun z => (hch c z).2.2.1 x c e rfl
    by_cases hc : c ∈ X.fs
    · obtain ⟨sl, q⟩ := slot c o (I.cne x c e) hc nch ho (I.freeC x c e)
      exact ⟨_, q, hd⟩
    · exact ⟨o, keep c o (I.cne x c e) hc nch ho (I.freeC x c e), hd⟩
  refine ⟨I.ok, I.os, hg, ⟨fun b o e n hb hx => ?_, fun b o e n hb hx => ?_, fun b o e n hx => ?_, fun b o e hx => ?_, fun b xs e => tups b xs (I.base.tups b xs e), fun b o xs e => frzs b o xs (I.base.frzs b o xs e), fun b ps e => ?_⟩, ?_, fun x c e => ?_, ?_, fun x c e => ?_, fun p hp => ?_, hok, I.len⟩
  · exact keep b o (neL b o e) hb (neC b o e hx) (I.base.keep b o e n hb hx) (I.base.free b o e n hx)
  · obtain ⟨sl, e1⟩ := I.base.slot b o e n hb hx
    obtain ⟨sl', e2⟩ := slot b _ (neL b o e) hb (neC b o e hx) e1 (I.base.free b o e n hx)
    exact ⟨sl', e2⟩
  · obtain ⟨o', e1⟩ := I.base.there b o e hx
    exact free b o' (neC b o e hx) e1 (I.base.free b o e n hx)
  · obtain ⟨o', e1⟩ := I.base.there b o e hx
    exact there b o' (neC b o e hx) e1
  · obtain ⟨m1, e1⟩ := I.base.tbls b ps e
    obtain ⟨m2, e2⟩ := tbls b _ e1
    exact ⟨m1 ++ m2, by rw [e2, Array.append_assoc]⟩
  · obtain ⟨m, hn, hl⟩ := I.loc
    refine ⟨m, ns m hn, fun i x v e1 e2 e3 => ?_⟩
    obtain ⟨u, r, l⟩ := hl i x v e1 e2 e3
    refine ⟨u, r, ?_⟩
    rcases l with l | ⟨k, c, e, z⟩
    · exact .inl l
    · exact .inr ⟨k, c, e, cellK x c e _ z⟩
  · obtain ⟨v, z⟩ := I.cell x c e
    exact ⟨v, cellK x c e v z⟩
  · obtain ⟨m, ⟨o, _, _, ho, _⟩, _⟩ := I.loc
    exact free _ o (fun z => (hch _ z).2.1 rfl) ho I.free
  · obtain ⟨v, o, ho, hd⟩ := I.cell x c e
    exact free c o (fun z => (hch c z).2.2.1 x c e rfl) ho (I.freeC x c e)
  · obtain ⟨e, n, ne, nf, d⟩ := I.pin p hp
    have nch : p.1 ∉ ch := fun z => (hch p.1 z).2.2.2 p hp rfl
    exact ⟨keep p.1 p.2 ne nf nch e n, free p.1 p.2 nch e n, ne, nf, d⟩
/-- .. where the frame's own object is kept too -/
theorem Inv.un {t' : Nat} (I : Inv X pins σ H s) (u : Un X.fs [] H H' s.heap h') (hok : HOk X.prog X.w H' h') : Inv X pins σ H' { s with heap := h', toks := t' } := by
  obtain ⟨m, ⟨o, es, ep, ho, r⟩, _⟩ := id I.loc
  obtain ⟨sl, hL⟩ := u.any ho I.free (by simp)
  exact I.step (g' := s.gens) (d' := s.drawn) (ch := []) (fun _ z => nomatch z) (fun b o _ hb _ e n => u.keep b o e n hb (by simp)) (fun b o _ hb _ e n => u.slot b o e n hb (by simp)) (fun b o _ e n => u.free b o e n (by simp)) (fun b o _ e => u.there b o e (by simp)) u.tups u.frzs u.tbls (fun m' hm => by
    obtain ⟨o', es', ep', ho', r'⟩ := hm
    rw [ho] at ho'; cases ho'
    exact ⟨_, es', ep', hL, r'⟩) hok I.bare
/-- behind a call (or a comprehension's block): the slots of this frame may have changed too, the records at ch may have turned -/
theorem Inv.call {g' : Array GenState} {t' : Nat} {d' : Drawn} {ch : List Addr} (I : Inv X pins σ H s) (u : Un (frs X.stack) ch H H' s.heap h') (hok : HOk X.prog X.w H' h') (hg : AllBare g')
    (hch : ∀ b ∈ ch, (b ∈ X.ex ∨ X.s₀.heap.objs.size ≤ b) ∧ b ≠ X.env.locals ∧ (∀ x c, X.env.cells.lookup x = some c → c ≠ b) ∧ ∀ p ∈ X.pn ++ pins, p.1 ≠ b) :
    Inv X pins σ H' { s with heap := h', gens := g', drawn := d', toks := t' } := by
  obtain ⟨m, ⟨o, es, ep, ho, r⟩, _⟩ := id I.loc
  obtain ⟨sl, hL⟩ := u.any ho I.free fun z => (hch _ z).2.1 rfl
  exact I.step (ch := ch) hch (fun b o hL hb hc e n => u.keep b o e n (fun z => (List.mem_cons.mp (I.stkSub b z)).elim hL hb) hc) (fun b o _ _ hc e n => u.any e n hc) (fun b o hc e n => u.free b o e n hc) (fun b o hc e => u.there b o e hc) u.tups u.frzs u.tbls (fun m' hm => by
    obtain ⟨o', es', ep', ho', r'⟩ := hm
    rw [ho] at ho'; cases ho'
    exact ⟨_, es', ep', hL, r'⟩) hok hg
/-- an untracked record of ours (an iterator) has turned -/
theorem Inv.turned {t' : Nat} {it : Addr} (I : Inv X pins σ H s) (k : ∀ b o, b ≠ it → s.heap.get? b = some o → h'.get? b = some o) (hn : H it = none) (hL : it ≠ X.env.locals)
    (h1 : it ∈ X.ex ∨ X.s₀.heap.objs.size ≤ it) (h2 : ∀ x c, X.env.cells.lookup x = some c → c ≠ it) (h3 : ∀ p ∈ X.pn ++ pins, p.1 ≠ it) : Inv X pins σ H { s with heap := h', toks := t' } := by
  have nit : ∀ b u, H b = some u → b ≠ it := fun b u e z => by rw [z, hn] at e; cases e
  refine I.step (g' := s.gens) (d' := s.drawn) (ch := [it]) (fun b hb => ?_) (fun b o _ _ hc e _ => k b o (fun z => hc (by simp [z])) e) (fun b o _ _ hc e _ => ⟨o.slots, k b o (fun z => hc (by simp [z])) e⟩) (fun _ _ _ _ n => n)
    (fun b o hc e => ⟨o, k b o (fun z => hc (by simp [z])) e⟩) (fun _ _ e => e) (fun _ _ _ e => e) (fun b ps e => ⟨#[], by rw [e]; simp⟩) (fun m hm => ?_) (fun b u e => ?_) I.bare
  · have e : b = it := by simpa using hb
    subst e
    exact ⟨h1, hL, h2, h3⟩
  · obtain ⟨o, es, ep, ho, r⟩ := hm
    exact ⟨o, es, ep, k _ o (Ne.symm hL) ho, r⟩
  · refine (I.hok b u e).stay (fun c v hc q => k c v ?_ q) (fun _ q => q) fun _ _ q => q
    rcases hc with z | z
    · rw [z]; exact nit b u e
    · exact nit c _ z
theorem Inv.tok (I : Inv X pins σ H s) (t : Nat) : Inv X pins σ H { s with toks := t } := I.un (h' := s.heap) (t' := t) Un.refl I.hok
/-- all objects kept -/
theorem Inv.kept {t' : Nat} (I : Inv X pins σ H s) (k : ∀ b u, s.heap.get? b = some u → h'.get? b = some u) : Inv X pins σ H { s with heap := h', toks := t' } := I.un (Un.kept k) (I.hok.kept k)
/-- a new object laid and tracked -/
theorem Inv.laid {a : Addr} {o : HO} {t' : Nat} (I : Inv X pins σ H s) (k : ∀ b u, s.heap.get? b = some u → h'.get? b = some u) (hp : s.heap.objs.size ≤ a) (new : ObjOk X.prog X.w (upd H a o) h' a o) :
    Inv X pins σ (upd H a o) { s with heap := h', toks := t' } := I.un (Un.laid k hp (I.hok.fresh hp)) (I.hok.laid k hp new)
/-- an object written -/
theorem Inv.write {x e : Addr} {o : HO} {t' : Nat} (I : Inv X pins σ H s) (mu : Mut (H x)) (he : e = x ∨ H e = some (.own x)) (k : ∀ b u, b ≠ e → s.heap.get? b = some u → h'.get? b = some u) (heo : ∃ u, h'.get? e = some u)
    (new : ObjOk X.prog X.w (upd H x o) h' x o) : Inv X pins σ (upd H x o) { s with heap := h', toks := t' } := I.un (Un.write mu he k heo) (I.hok.write mu he k heo new)
theorem Inv.pins_of {pins' : List (Addr × Obj)} (I : Inv X pins σ H s) (h : ∀ p ∈ pins', s.heap.get? p.1 = some p.2 ∧ H p.1 = none ∧ p.1 ≠ X.env.locals ∧ p.1 ∉ X.fs ∧ ∀ v, p.2.data ≠ .cell v) : Inv X pins' σ H s :=
  ⟨I.ok, I.os, I.bare, I.base, I.loc, I.cell, I.free, I.freeC, fun p hp => (List.mem_append.mp hp).elim (fun z => I.pin p (List.mem_append_left _ z)) (h p), I.hok, I.len⟩

theorem nodup_ix {N : List Str} (hN : N.Nodup) {i j : Nat} {x : Str} (a : N[i]? = some x) (b : N[j]? = some x) : i = j := by
  obtain ⟨h1, e1⟩ := List.getElem?_eq_some_iff.mp a
  obtain ⟨h2, e2⟩ := List.getElem?_eq_some_iff.mp b
  exact (List.getElem_inj hN).mp (e1.trans e2.symm)

/-- a name is stored; what changed -/
theorem store_ok2 {M : Model} {A : Around} {E : Value → Shared → Prop} {i : Nat} {x : Str} {v : V} {u : Value} {Q : Unit → Shared → Prop} (I : Inv X pins σ H s) (hN : X.N.Nodup) (hi : X.N[i]? = some x) (hx : Loc X.env.scope x) (r : RelV v u)
    (h : ∀ s', Inv X pins (σ.set i (some v)) H s' → (∃ a, Heap.SameBut a s.heap s'.heap ∧ (a = X.env.locals ∨ X.env.cells.lookup x = some a)) → Q () s') (hf : X.fn x = true ∨ X.env.scope.names.lookup x = some .local := by first | exact .inl rfl | exact .inr rfl | assumption) : wpAny M A (storeName X.env x u) Q E s := by
  obtain ⟨m, hn, hl⟩ := id I.loc
  have hcls : (X.env.scope.kind == .class || (X.env.scope.kind == .module && X.env.locals != X.env.globals)) = false := by rw [I.ok.kind]; rfl
  have hiσ : i < σ.length := by rw [I.len]; exact (List.getElem?_eq_some_iff.mp hi).1
  have cne := I.cne
  have tracked : ∀ {a : Addr} {h' : Heap}, (∃ o, s.heap.get? a = some o ∧ H a = none) → Heap.SameBut a s.heap h' → HOk X.prog X.w H h' := fun {a h'} ha hs b ob e => by
    obtain ⟨_, _, hfree⟩ := ha
    refine (I.hok b ob e).stay (fun c w' hc q => (hs.2 c ?_).trans q) (fun _ q => q) fun _ _ q => q
    rintro rfl
    rcases hc with rfl | hc
    · rw [hfree] at e; cases e
    · rw [hfree] at hc; cases hc
  rcases hx with hk | hk
  · refine wpAny_storeName_local hk hn (fun h' hn' hs => ?_) hcls
    obtain ⟨oL, _, _, hoL, _⟩ := id hn
    refine h _ ⟨I.ok, I.os, I.bare, ⟨fun b o e n hb hx => ?_, fun b o e n hb hx => ?_, I.base.free, fun b o e hx => ?_, I.base.tups, I.base.frzs, I.base.tbls⟩, ⟨_, hn', fun j y v' e1 e2 e3 => ?_⟩, fun y c e => ?_, I.free, I.freeC, fun p hp => ?_, tracked ⟨oL, hoL, I.free⟩ hs, by simpa using I.len⟩ ⟨_, hs, .inl rfl⟩
    · exact (hs.2 b (Nat.ne_of_lt (Nat.lt_of_lt_of_le (Heap.lt_size e) I.ok.above))).trans (I.base.keep b o e n hb hx)
    · obtain ⟨sl, e1⟩ := I.base.slot b o e n hb hx
      exact ⟨sl, (hs.2 b (Nat.ne_of_lt (Nat.lt_of_lt_of_le (Heap.lt_size e) I.ok.above))).trans e1⟩
    · obtain ⟨o', e1⟩ := I.base.there b o e hx
      exact ⟨o', (hs.2 b (Nat.ne_of_lt (Nat.lt_of_lt_of_le (Heap.lt_size e) I.ok.above))).trans e1⟩
    · by_cases hj : j = i
      · subst hj
        rw [hi] at e1; cases e1
        rw [List.getElem?_set_self hiσ] at e2
        cases e2
        exact ⟨u, r, .inl ⟨hk, by simp⟩⟩
      · rw [List.getElem?_set_ne (Ne.symm hj)] at e2
        obtain ⟨u', r', q⟩ := hl j y v' e1 e2 e3
        refine ⟨u', r', ?_⟩
        rcases q with ⟨k, e⟩ | ⟨k, c, e, z⟩
        · refine .inl ⟨k, ?_⟩
          have : y ≠ x := fun e => hj (nodup_ix hN e1 (e ▸ hi))
          simp [this, e]
        · exact .inr ⟨k, c, e, z.sameBut hs (cne y c e)⟩
    · obtain ⟨w', z⟩ := I.cell y c e
      exact ⟨w', z.sameBut hs (cne y c e)⟩
    · obtain ⟨e, n, ne, nf, d⟩ := I.pin p hp
      exact ⟨(hs.2 p.1 ne).trans e, n, ne, nf, d⟩
  · have hfn : X.fn x = true := by
      rcases hf with z | z
      · exact z
      · rw [z] at hk; cases hk
    obtain ⟨c, hc⟩ := I.ok.has x (.inl hk)
    obtain ⟨w', z⟩ := I.cell x c hc
    refine wpAny_storeName_cell I.ok.kind hk hc z (fun h' hc' hs => ?_)
    obtain ⟨oc, hoc, hocd⟩ := id z
    refine h { s with heap := h' } ⟨I.ok, I.os, I.bare, ⟨fun b o e n hb hx => ?_, fun b o e n hb hx => ?_, I.base.free, fun b o e hx => ?_, I.base.tups, I.base.frzs, I.base.tbls⟩, ⟨m, hn.sameBut hs (Ne.symm (cne x c hc)), fun j y v' e1 e2 e3 => ?_⟩, fun y c' e => ?_, I.free, I.freeC, fun p hp => ?_, tracked ⟨oc, hoc, I.freeC x c hc⟩ hs, by simpa using I.len⟩ ⟨c, hs, .inr hc⟩
    · exact (hs.2 b (Nat.ne_of_lt (Nat.lt_of_lt_of_le (Heap.lt_size e) (I.ok.cab x c hfn hc)))).trans (I.base.keep b o e n hb hx)
    · obtain ⟨sl, e1⟩ := I.base.slot b o e n hb hx
      exact ⟨sl, (hs.2 b (Nat.ne_of_lt (Nat.lt_of_lt_of_le (Heap.lt_size e) (I.ok.cab x c hfn hc)))).trans e1⟩
    · obtain ⟨o', e1⟩ := I.base.there b o e hx
      exact ⟨o', (hs.2 b (Nat.ne_of_lt (Nat.lt_of_lt_of_le (Heap.lt_size e) (I.ok.cab x c hfn hc)))).trans e1⟩
    · by_cases hj : j = i
      · subst hj
        rw [hi] at e1; cases e1
        rw [List.getElem?_set_self hiσ] at e2
        cases e2
        exact ⟨u, r, .inr ⟨.inl hk, c, hc, hc'⟩⟩
      · rw [List.getElem?_set_ne (Ne.symm hj)] at e2
        obtain ⟨u', r', q⟩ := hl j y v' e1 e2 e3
        refine ⟨u', r', ?_⟩
        rcases q with q | ⟨k, c', e, z'⟩
        · exact .inl q
        · refine .inr ⟨k, c', e, z'.sameBut hs ?_⟩
          rintro rfl
          exact hj (nodup_ix hN e1 (I.ok.inj _ _ _ e hc ▸ hi))
    · by_cases hcc : c' = c
      · subst hcc; exact ⟨_, hc'⟩
      · obtain ⟨w2, z2⟩ := I.cell y c' e
        exact ⟨w2, z2.sameBut hs hcc⟩
    · obtain ⟨e, n, ne, nf, d⟩ := I.pin p hp
      refine ⟨(hs.2 p.1 ?_).trans e, n, ne, nf, d⟩
      intro q
      rw [q, hoc] at e
      have q' : oc = p.2 := Option.some.inj e
      exact d w' (by rw [← q']; exact hocd)
theorem store_ok {M : Model} {A : Around} {E : Value → Shared → Prop} {i : Nat} {x : Str} {v : V} {u : Value} {Q : Unit → Shared → Prop} (I : Inv X pins σ H s) (hN : X.N.Nodup) (hi : X.N[i]? = some x) (hx : Loc X.env.scope x) (r : RelV v u)
    (h : ∀ s', Inv X pins (σ.set i (some v)) H s' → Q () s') (hf : X.fn x = true ∨ X.env.scope.names.lookup x = some .local := by first | exact .inl rfl | exact .inr rfl | assumption) : wpAny M A (storeName X.env x u) Q E s :=
  store_ok2 I hN hi hx r (fun s' I' _ => h s' I') hf
/-- behind a call or a block, the state as it is -/
theorem Inv.call' {s' : Shared} {ch : List Addr} (I : Inv X pins σ H s) (ho : s'.os = s.os) (u : Un (frs X.stack) ch H H' s.heap s'.heap) (hok : HOk X.prog X.w H' s'.heap) (hg : AllBare s'.gens)
    (hch : ∀ b ∈ ch, (b ∈ X.ex ∨ X.s₀.heap.objs.size ≤ b) ∧ b ≠ X.env.locals ∧ (∀ x c, X.env.cells.lookup x = some c → c ≠ b) ∧ ∀ p ∈ X.pn ++ pins, p.1 ≠ b) : Inv X pins σ H' s' := by
  obtain ⟨h', g', d', t', o'⟩ := s'
  have e : o' = s.os := ho
  subst e
  exact I.call (g' := g') (t' := t') (d' := d') u hok hg hch
end

/-! ### the judgements -/
/-- an exception: its class, its own dict's address (where it has one), the abstract heap behind it -/
abbrev XK := Value → Option Addr → Hp → Prop
abbrev St := List (Option V)
abbrev VK := V → Hp → Prop
/-- an expression's reading; a test's; an argument list's -/
abbrev TE := St → Hp → VK → Prop
abbrev TT := St → Hp → (Bool → Hp → Prop) → Prop
abbrev TA := St → Hp → (List V → Hp → Prop) → Prop
/- what is wanted behind a statement -/
set_option genInjectivity false in
set_option genSizeOfSpec false in
set_option genSizeOf false in
structure Ends where
  nx : St → Hp → Prop
  rt : VK
  bk : St → Hp → Prop := fun _ _ => False
  ct : St → Hp → Prop := fun _ _ => False
abbrev TS := Ends → St → Hp → Prop

def EP (X : Cx) (pins : List (Addr × Obj)) (σ : St) (Q : VK) (u : Value) (s' : Shared) : Prop := ∃ v H', Inv X pins σ H' s' ∧ RelV v u ∧ Q v H'
def TP (X : Cx) (pins : List (Addr × Obj)) (σ : St) (Q : Bool → Hp → Prop) (b : Bool) (s' : Shared) : Prop := ∃ H', Inv X pins σ H' s' ∧ Q b H'
def AP (X : Cx) (pins : List (Addr × Obj)) (σ : St) (Q : List V → Hp → Prop) (us : List Value) (s' : Shared) : Prop := ∃ vs H', Inv X pins σ H' s' ∧ Vals vs us ∧ Q vs H'
def SP (X : Cx) (pins : List (Addr × Obj)) (D : Ends) (f : Flow) (s' : Shared) : Prop :=
  match f with
  | .next => ∃ σ' H', Inv X pins σ' H' s' ∧ D.nx σ' H'
  | .brk => ∃ σ' H', Inv X pins σ' H' s' ∧ D.bk σ' H'
  | .cont => ∃ σ' H', Inv X pins σ' H' s' ∧ D.ct σ' H'
  | .ret u => ∃ v σ' H', Inv X pins σ' H' s' ∧ RelV v u ∧ D.rt v H'

@[irreducible] def PE (X : Cx) (e : Expr) (t : TE) : Prop :=
  ∀ (pins : List (Addr × Obj)) (s : Shared) (σ : St) (H : Hp) (Q : VK), Inv X pins σ H s → t σ H Q → wpAny (model X.prog X.w) X.A (eval e X.env) (EP X pins σ Q) X.xe s
@[irreducible] def PT (X : Cx) (e : Expr) (t : TT) : Prop :=
  ∀ (pins : List (Addr × Obj)) (s : Shared) (σ : St) (H : Hp) (Q : Bool → Hp → Prop), Inv X pins σ H s → t σ H Q → wpAny (model X.prog X.w) X.A (isTrue e X.env (eval e X.env)) (TP X pins σ Q) X.xe s
/-- a test whatever its 'whole' is (and, or) -/
@[irreducible] def PW (X : Cx) (e : Expr) (t : TT) : Prop :=
  ∀ (whole : Sem Value) (pins : List (Addr × Obj)) (s : Shared) (σ : St) (H : Hp) (Q : Bool → Hp → Prop), Inv X pins σ H s → t σ H Q → wpAny (model X.prog X.w) X.A (isTrue e X.env whole) (TP X pins σ Q) X.xe s
theorem PW.pt {X : Cx} {e : Expr} {t : TT} (h : PW X e t) : PT X e t := by
  first
  | exact (h _)
  | (unfold PT at *; unfold PW at *; exact (h _))

/-- an argument list (no star), from the left -/
@[irreducible] def PA (X : Cx) (es : List Expr) (t : TA) : Prop :=
  ∀ (pos : Pos) (pins : List (Addr × Obj)) (s : Shared) (σ : St) (H : Hp) (Q : List V → Hp → Prop), Inv X pins σ H s → t σ H Q → wpAny (model X.prog X.w) X.A (spliced (backTo pos (starEach es X.env))) (AP X pins σ Q) X.xe s
@[irreducible] def PS (X : Cx) (st : Stmt) (t : TS) : Prop :=
  ∀ (pins : List (Addr × Obj)) (s : Shared) (σ : St) (H : Hp) (D : Ends), Inv X pins σ H s → t D σ H → wpAny (model X.prog X.w) X.A (exec st X.env) (SP X pins D) X.xe s
@[irreducible] def PSs (X : Cx) (st : List Stmt) (t : TS) : Prop :=
  ∀ (pins : List (Addr × Obj)) (s : Shared) (σ : St) (H : Hp) (D : Ends), Inv X pins σ H s → t D σ H → wpAny (model X.prog X.w) X.A (execs st X.env) (SP X pins D) X.xe s
/-- weaken the end -/
theorem thn {α : Type} {t : Sem α} {Q Q' : α → Shared → Prop} {M : Model} {A : Around} {E : Value → Shared → Prop} {s : Shared} (h : wpAny M A t Q E s) (hQ : ∀ a s, Q a s → Q' a s) : wpAny M A t Q' E s := wpAny_mono h hQ fun _ _ x => x
end L2

namespace L2
open PySem PySem.Spec PyProof.Rows
section
variable {X : Cx}

/-! ### names and constants -/
def tVar (i : Nat) : TE := fun σ H Q => ∃ v, σ[i]? = some (some v) ∧ Q v H
def tC (v : V) : TE := fun _ H Q => Q v H
theorem pe_var {i : Nat} {x : Str} {pos : Pos} (hN : X.N[i]? = some x) (hv : Vis X.env.scope x) (hd : (x == ("__debug__" : Str)) = false := by decide) (hcd : (x == ("__classdict__" : Str)) = false := by decide) : PE X (.Name x pos) (tVar i) := by
  unfold PE at *
  exact by
    intro pins s σ H Q I h
    obtain ⟨v, e, h⟩ := h
    obtain ⟨m, hn, hl⟩ := I.loc
    obtain ⟨u, r, l⟩ := hl i x v hN e hv
    have fin : EP X pins σ Q u s := ⟨v, H, I, r, h⟩
    rcases l with ⟨hk, hm⟩ | ⟨hk, c, hc, hcell⟩
    · exact wpAny_Name (wpAny_loadName_local I.ok.kind hk hn hm fin) hd
    · rcases hk with hk | hk
      · exact wpAny_Name (wpAny_loadName_cell I.ok.kind hk hc hcell fin) hd
      · exact wpAny_Name (wpAny_loadName_free I.ok.kind hk hc hcell fin hcd) hd

theorem pe_int {i j pos} : PE X (.Constant (.int i) j pos) (tC (.int i)) := by
  first
  | exact (fun _ _ _ H _ I h => wpAny_Constant_int ⟨.int i, H, I.tok _, ⟨_, rfl⟩, h⟩)
  | (unfold PE at *; exact (fun _ _ _ H _ I h => wpAny_Constant_int ⟨.int i, H, I.tok _, ⟨_, rfl⟩, h⟩))

theorem pe_bl {b j pos} : PE X (.Constant (.bool b) j pos) (tC (.bl b)) := by
  first
  | exact (fun _ _ _ H _ I h => Constant_bool ⟨.bl b, H, I, rfl, h⟩)
  | (unfold PE at *; exact (fun _ _ _ H _ I h => Constant_bool ⟨.bl b, H, I, rfl, h⟩))

theorem pe_non {j pos} : PE X (.Constant .none j pos) (tC .non) := by
  first
  | exact (fun _ _ _ H _ I h => Constant_none ⟨.non, H, I, rfl, h⟩)
  | (unfold PE at *; exact (fun _ _ _ H _ I h => Constant_none ⟨.non, H, I, rfl, h⟩))

theorem pe_str {x j pos} : PE X (.Constant (.str x) j pos) (tC (.str x)) := by
  first
  | exact (fun _ _ _ H _ I h => Calls.Constant_str ⟨.str x, H, I.tok _, ⟨_, rfl⟩, h⟩)
  | (unfold PE at *; exact (fun _ _ _ H _ I h => Calls.Constant_str ⟨.str x, H, I.tok _, ⟨_, rfl⟩, h⟩))

/-- a global name of the def -/
def Gl (X : Cx) (x : Str) : Prop := X.env.kindOf x = some .globalImplicit
theorem ld_glob {E : Value → Shared → Prop} {pins : List (Addr × Obj)} {s : Shared} {σ : St} {H : Hp} {x : Str} {u : Value} {pos : Pos} {Q : Value → Shared → Prop} (I : Inv X pins σ H s) (hg : Gl X x) (hm : X.mg x = some u) (h : Q u s)
    (hd : (x == ("__debug__" : Str)) = false := by decide) : wpAny (model X.prog X.w) X.A (eval (.Name x pos) X.env) Q E s :=
  Calls.Name_function_global I.ok.kind hg (Calls.loadGlobal_global (by rw [I.ok.glob]; exact I.mod.glob.keeps I.bk) hm h) hd
theorem ld_blt {E : Value → Shared → Prop} {pins : List (Addr × Obj)} {s : Shared} {σ : St} {H : Hp} {x : Str} {u : Value} {pos : Pos} {Q : Value → Shared → Prop} (I : Inv X pins σ H s) (hg : Gl X x) (hm : X.mg x = none) (hv : bootBuiltins x = some u) (h : Q u s)
    (hn : x ≠ "__name__" := by decide) (hd : (x == ("__debug__" : Str)) = false := by decide) : wpAny (model X.prog X.w) X.A (eval (.Name x pos) X.env) Q E s := by
  obtain ⟨mb, h1, h2⟩ := I.mod.blt
  exact Calls.Name_function_global I.ok.kind hg (Calls.loadGlobal_builtin (by rw [I.ok.glob]; exact I.mod.glob.keeps I.bk) hm (by rw [I.ok.blt]; exact h1.keeps I.bk) ((h2 x hn).trans hv) h) hd
/-- a module's constant, a class, a function, as a value -/
theorem pe_glob {x : Str} {v : V} {u : Value} {pos : Pos} (hg : Gl X x) (hm : X.mg x = some u) (r : RelV v u) (hd : (x == ("__debug__" : Str)) = false := by decide) : PE X (.Name x pos) (tC v) := by
  first
  | exact (fun _ _ _ H _ I h => ld_glob I hg hm ⟨v, H, I, r, h⟩ hd)
  | (unfold PE at *; exact (fun _ _ _ H _ I h => ld_glob I hg hm ⟨v, H, I, r, h⟩ hd))

theorem pe_bltn {x : Str} {v : V} {u : Value} {pos : Pos} (hg : Gl X x) (hm : X.mg x = none) (hv : bootBuiltins x = some u) (r : RelV v u) (hn : x ≠ "__name__" := by decide) (hd : (x == ("__debug__" : Str)) = false := by decide) : PE X (.Name x pos) (tC v) := by
  first
  | exact (fun _ _ _ H _ I h => ld_blt I hg hm hv ⟨v, H, I, r, h⟩ hn hd)
  | (unfold PE at *; exact (fun _ _ _ H _ I h => ld_blt I hg hm hv ⟨v, H, I, r, h⟩ hn hd))

/-! ### arithmetic -/
variable {a b : Expr} {ta tb : TE} {pos : Pos}
/-! ### comparisons -/
@[irreducible] def PC (X : Cx) (op : CmpOp) (a b : Expr) (t : TE) : Prop :=
  ∀ (pins : List (Addr × Obj)) (s : Shared) (σ : St) (H : Hp) (Q : VK), Inv X pins σ H s → t σ H Q →
    wpAny (model X.prog X.w) X.A (eval a X.env) (fun v s₁ => wpAny (model X.prog X.w) X.A (eval b X.env) (fun u s₂ => wpAny (model X.prog X.w) X.A (compareOp op v u) (EP X pins σ Q) X.xe s₂) X.xe s₁) X.xe s
theorem nobehind (b : Expr) {op : CmpOp} (h : op ≠ .In) (h2 : op ≠ .NotIn) : behindInMarks op b = false := by
  have e1 : (op == CmpOp.In) = false := by cases op <;> first | rfl | exact absurd rfl h
  have e2 : (op == CmpOp.NotIn) = false := by cases op <;> first | rfl | exact absurd rfl h2
  cases b <;> simp [behindInMarks, e1, e2]
/-- is None -/
def tIsN (ta : TE) : TE := fun σ H Q => ta σ H fun x H1 => Q (.bl (decide (x = .non))) H1
theorem RelV.none_iff {x : V} {v : Value} (r : RelV x v) : (v == Value.none) = decide (x = .non) := by
  cases x with
  | non => cases r; rfl
  | bl _ => cases r; rfl
  | int _ => obtain ⟨t, rfl⟩ := r; rfl
  | str _ => obtain ⟨t, rfl⟩ := r; rfl
  | byt _ => obtain ⟨t, rfl⟩ := r; rfl
  | flt _ => obtain ⟨t, rfl⟩ := r; rfl
  | ref _ => cases r; rfl
  | ty _ => cases r; rfl
theorem pc_isN {j pos'} (ha : PE X a ta) : PC X .Is a (.Constant .none j pos') (tIsN ta) := by
  unfold PE at *; unfold PC at *
  exact by
    intro pins s σ H Q I h
    refine thn (ha pins s σ H _ I h) fun v s1 ⟨x, H1, I1, r1, q1⟩ => ?_
    exact Constant_none (is_none_gen ⟨.bl _, H1, I1, by rw [r1.none_iff]; rfl, q1⟩)

/-- a comparison as a value, as a test -/
def tB (t : TE) : TT := fun σ H Q => t σ H fun x H1 => ∃ c, x = .bl c ∧ Q c H1
theorem pt_cmp {op : CmpOp} {t : TE} (h : PC X op a b t) (h1 : behindInMarks op b = false := by first | exact nobehind _ (by decide) (by decide) | rfl) : PT X (.Compare a [op] [b] pos) (tB t) := by
  unfold PT at *; unfold PC at *
  exact by
    intro pins s σ H Q I hw
    refine wpAny_isTrue_Compare1 (thn (h pins s σ H _ I hw) fun v s1 h1 => thn h1 fun u s2 h2 => thn h2 fun c s3 ⟨x, H1, I1, r1, q1⟩ => ?_) h1
    obtain ⟨d, rfl, q⟩ := q1
    cases r1
    exact wpAny_truthy_bool ⟨H1, I1, q⟩

/-- an expression whose value is a bool, as a test -/
theorem pt_val {e : Expr} {t : TE} (h : PE X e t) (he : ∀ whole, isTrue e X.env whole = (do let v ← whole; standAt e.pos; holding [v] (truthy v)) := by intro _; rfl) : PT X e (tB t) := by
  unfold PE at *; unfold PT at *
  exact by
    intro pins s σ H Q I hw
    refine isTrue_plain (thn (h pins s σ H _ I hw) fun v s1 ⟨x, H1, I1, r1, q1⟩ => ?_) (he _)
    obtain ⟨d, rfl, q⟩ := q1
    cases r1
    exact wpAny_truthy_bool ⟨H1, I1, q⟩

/-! ### and, or, not -/
variable {tA tB' : TT} {rest : List Expr}
def tAnd (t u : TT) : TT := fun σ H Q => t σ H fun c H1 => if c = true then u σ H1 Q else Q false H1
def tOr (t u : TT) : TT := fun σ H Q => t σ H fun c H1 => if c = true then Q true H1 else u σ H1 Q
def tNot (t : TT) : TT := fun σ H Q => t σ H fun c H1 => Q (!c) H1
theorem pw_and1 (ha : PT X a tA) : PW X (.BoolOp .And [a] pos) tA := by
  unfold PT at *; unfold PW at *
  exact by
    intro wh pins s σ H Q I h
    refine isTrue_and (thn (ha pins s σ H Q I h) fun c s1 e => ?_)
    cases c with
    | true => exact isTrue_and_nil e
    | false => exact e

theorem pw_or1 (ha : PT X a tA) : PW X (.BoolOp .Or [a] pos) tA := by
  unfold PT at *; unfold PW at *
  exact by
    intro wh pins s σ H Q I h
    refine isTrue_or (thn (ha pins s σ H Q I h) fun c s1 e => ?_)
    cases c with
    | false => exact isTrue_or_nil e
    | true => exact e

theorem pw_and (ha : PT X a tA) (hb : PW X (.BoolOp .And (b :: rest) pos) tB') : PW X (.BoolOp .And (a :: b :: rest) pos) (tAnd tA tB') := by
  unfold PT at *; unfold PW at *
  exact by
    intro wh pins s σ H Q I h
    refine isTrue_and (thn (ha pins s σ H _ I h) fun c s1 ⟨H1, I1, q1⟩ => ?_)
    cases c with
    | true => exact hb wh pins s1 σ H1 Q I1 q1
    | false => exact ⟨H1, I1, q1⟩

theorem pw_or (ha : PT X a tA) (hb : PW X (.BoolOp .Or (b :: rest) pos) tB') : PW X (.BoolOp .Or (a :: b :: rest) pos) (tOr tA tB') := by
  unfold PT at *; unfold PW at *
  exact by
    intro wh pins s σ H Q I h
    refine isTrue_or (thn (ha pins s σ H _ I h) fun c s1 ⟨H1, I1, q1⟩ => ?_)
    cases c with
    | true => exact ⟨H1, I1, q1⟩
    | false => exact hb wh pins s1 σ H1 Q I1 q1

theorem pt_not (ha : PT X a tA) : PT X (.UnaryOp .Not a pos) (tNot tA) := by
  unfold PT at *
  exact by
    intro pins s σ H Q I h
    exact isTrue_not (ha pins s σ H (fun c H1 => Q (!c) H1) I h)

/-- .. as values (bools) -/
def tAndV (ta tb : TE) : TE := fun σ H Q => ta σ H fun x H1 => ∃ c, x = .bl c ∧ if c = true then tb σ H1 Q else Q (.bl false) H1
def tNotV (ta : TE) : TE := fun σ H Q => ta σ H fun x H1 => ∃ c, x = .bl c ∧ Q (.bl (!c)) H1
theorem pe_one {op} {t : TE} (h : PE X a t) : PE X (.BoolOp op [a] pos) t := by
  first
  | exact (fun pins s σ H Q I hw => BoolOp_one (h pins s σ H Q I hw))
  | (unfold PE at *; exact (fun pins s σ H Q I hw => BoolOp_one (h pins s σ H Q I hw)))

theorem pe_and (ha : PE X a ta) (hb : PE X (.BoolOp .And (b :: rest) pos) tb) : PE X (.BoolOp .And (a :: b :: rest) pos) (tAndV ta tb) := by
  unfold PE at *
  exact by
    intro pins s σ H Q I h
    refine BoolOp_and (thn (ha pins s σ H _ I h) fun v s1 ⟨x, H1, I1, r1, q1⟩ => ?_)
    obtain ⟨c, rfl, q1⟩ := q1
    cases r1
    refine wpAny_truthy_bool ?_
    cases c with
    | true => exact hb pins s1 σ H1 Q I1 q1
    | false => exact ⟨.bl false, H1, I1, rfl, q1⟩

theorem pe_not (ha : PE X a ta) : PE X (.UnaryOp .Not a pos) (tNotV ta) := by
  unfold PE at *
  exact by
    intro pins s σ H Q I h
    refine UnaryOp_ (thn (ha pins s σ H _ I h) fun v s1 ⟨x, H1, I1, r1, q1⟩ => ?_)
    obtain ⟨c, rfl, q1⟩ := q1
    cases r1
    exact not_of (wpAny_truthy_bool ⟨.bl (!c), H1, I1, rfl, q1⟩)

end
end L2

namespace L2
open PySem PySem.Spec PyProof.Rows

/-! ### a list, a tuple that is read: tracked, frozen, or an object of the module -/
def SqL (K : PySem.W.Frag) (H : Hp) (a : Addr) (xs : List V) : Prop :=
  Rd H a (.lst xs) ∨
    ∃ (o : Obj) (its : Array Value) (n : Nat), K.lookup a = some o ∧ o.cls = .type "list" ∧ o.dict = none ∧ o.data = .seq its n ∧ its.size ≤ sizeLine ∧ Vals xs its.toList
def SqT (K : PySem.W.Frag) (H : Hp) (a : Addr) (xs : List V) : Prop :=
  Rd H a (.tup xs) ∨
    ∃ (o : Obj) (its : Array Value) (n : Nat), K.lookup a = some o ∧ o.cls = .type "tuple" ∧ o.data = .seq its n ∧ its.size ≤ sizeLine ∧ Vals xs its.toList
def absV : Value → Option V
  | .none => some .non
  | .bool b => some (.bl b)
  | .int i _ => some (.int i)
  | .str x _ => some (.str x)
  | .bytes b _ => some (.byt b)
  | .float b _ => some (.flt b)
  | .ref a => some (.ref a)
  | .type n => some (.ty n)
  | _ => none
theorem RelV.abs {x : V} {u : Value} (r : RelV x u) : absV u = some x := by
  cases x with
  | non => cases r; rfl
  | bl _ => cases r; rfl
  | int _ => obtain ⟨t, rfl⟩ := r; rfl
  | str _ => obtain ⟨t, rfl⟩ := r; rfl
  | byt _ => obtain ⟨t, rfl⟩ := r; rfl
  | flt _ => obtain ⟨t, rfl⟩ := r; rfl
  | ref _ => cases r; rfl
  | ty _ => cases r; rfl
theorem RelV.inj {x y : V} {u : Value} (r : RelV x u) (q : RelV y u) : x = y := Option.some.inj (r.abs.symm.trans q.abs)
theorem Vals.inj : ∀ {xs ys : List V} {us : List Value}, Vals xs us → Vals ys us → xs = ys
  | _, _, _, .nil, .nil => rfl
  | _, _, _, .cons r t, .cons r' t' => by rw [r.inj r', Vals.inj t t']
section
variable {X : Cx} {pins : List (Addr × Obj)} {σ : St} {H : Hp} {s : Shared} {a : Addr} {xs ys : List V}
theorem SqL.of {K : PySem.W.Frag} (h : H a = some (.lst xs)) : SqL K H a xs := .inl (.inl h)
theorem SqT.of {K : PySem.W.Frag} (h : H a = some (.tup xs)) : SqT K H a xs := .inl (.inl h)
theorem Inv.list (I : Inv X pins σ H s) (h : SqL X.K H a xs) : ∃ its : List Value, Vals xs its ∧ PlainL s.heap a its.toArray ∧ xs.length ≤ sizeLine := by
  rcases h with h | ⟨o, its, n, hk, hc, hd, hs, hz, r⟩
  · obtain ⟨z, its, n, r, e⟩ := h.ok I.hok
    exact ⟨its, r, ⟨_, n, e, rfl, rfl, rfl⟩, z⟩
  · refine ⟨its.toList, r, ⟨o, n, I.kIn a o hk, hc, hd, by simpa using hs⟩, ?_⟩
    have e := r.length
    simp only [Array.length_toList] at e
    omega
theorem Inv.tuple (I : Inv X pins σ H s) (h : SqT X.K H a xs) : ∃ its : List Value, Vals xs its ∧ IsTup s.heap a its.toArray ∧ xs.length ≤ sizeLine := by
  rcases h with h | ⟨o, its, n, hk, hc, hs, hz, r⟩
  · obtain ⟨z, its, r, p⟩ := h.ok I.hok
    exact ⟨its, r, p, z⟩
  · refine ⟨its.toList, r, ⟨o, I.kIn a o hk, hc, n, by simpa using hs⟩, ?_⟩
    have e := r.length
    simp only [Array.length_toList] at e
    omega
theorem Inv.list_inj (I : Inv X pins σ H s) (h : SqL X.K H a xs) (h' : SqL X.K H a ys) : xs = ys := by
  obtain ⟨its, r, ⟨o, n, e, _, _, d⟩, _⟩ := I.list h
  obtain ⟨its', r', ⟨o', n', e', _, _, d'⟩, _⟩ := I.list h'
  rw [e] at e'; cases e'
  rw [d] at d'
  injection d' with d1 _
  have : its = its' := by simpa using congrArg Array.toList d1
  subst this
  exact r.inj r'
theorem Inv.tuple_inj (I : Inv X pins σ H s) (h : SqT X.K H a xs) (h' : SqT X.K H a ys) : xs = ys := by
  obtain ⟨its, r, ⟨o, e, _, n, d⟩, _⟩ := I.tuple h
  obtain ⟨its', r', ⟨o', e', _, n', d'⟩, _⟩ := I.tuple h'
  rw [e] at e'; cases e'
  rw [d] at d'
  injection d' with d1 _
  have : its = its' := by simpa using congrArg Array.toList d1
  subst this
  exact r.inj r'
end

/-! ### another wish about exceptions -/
abbrev Cx.wish (X : Cx) (E : Value → Shared → Prop) : Cx := { X with xe := E }
/-- no exception leaves -/
abbrev Cx.nox (X : Cx) : Cx := X.wish fun _ _ => False
theorem Cx.Ok.wish {X : Cx} (ok : X.Ok) (E : Value → Shared → Prop) : (X.wish E).Ok :=
  ⟨ok.mod, ok.kind, ok.glob, ok.blt, ok.above, ok.inj, ok.has, ok.cab, ok.hd, ok.frames, ok.stk, ok.exf, ok.bs, ok.bsz, ok.noex, ok.exfs, ok.funs, ok.frf⟩
theorem Cx.Ok.unwish {X : Cx} {E : Value → Shared → Prop} (ok : (X.wish E).Ok) : X.Ok :=
  ⟨ok.mod, ok.kind, ok.glob, ok.blt, ok.above, ok.inj, ok.has, ok.cab, ok.hd, ok.frames, ok.stk, ok.exf, ok.bs, ok.bsz, ok.noex, ok.exfs, ok.funs, ok.frf⟩
section
variable {X : Cx} {pins : List (Addr × Obj)} {σ : St} {H : Hp} {s : Shared} {E : Value → Shared → Prop}
theorem Inv.wish (I : Inv X pins σ H s) (E : Value → Shared → Prop) : Inv (X.wish E) pins σ H s := ⟨I.ok.wish E, I.os, I.bare, I.base, I.loc, I.cell, I.free, I.freeC, I.pin, I.hok, I.len⟩
theorem Inv.unwish (I : Inv (X.wish E) pins σ H s) : Inv X pins σ H s := ⟨I.ok.unwish, I.os, I.bare, I.base, I.loc, I.cell, I.free, I.freeC, I.pin, I.hok, I.len⟩
theorem SP.unwish {D : Ends} {f : Flow} {s' : Shared} (h : SP (X.wish E) pins D f s') : SP X pins D f s' := by
  cases f with
  | next => obtain ⟨σ', H', I, q⟩ := h; exact ⟨σ', H', I.unwish, q⟩
  | brk => obtain ⟨σ', H', I, q⟩ := h; exact ⟨σ', H', I.unwish, q⟩
  | cont => obtain ⟨σ', H', I, q⟩ := h; exact ⟨σ', H', I.unwish, q⟩
  | ret u => obtain ⟨v, σ', H', I, r, q⟩ := h; exact ⟨v, σ', H', I.unwish, r, q⟩
theorem PSs.nox {st : List Stmt} {t : TS} (h : PSs X.nox st t) : PSs X st t := by
  unfold PSs at *
  exact (fun pins s σ H D I hw =>
    wpAny_mono (h pins s σ H D (I.wish _) hw) (fun _ _ q => q.unwish) fun _ _ z => False.elim z)

end

/-! ### blocks and small statements -/
section
variable {X : Cx} {st : Stmt} {rest : List Stmt} {t u : TS} {e : Expr} {te : TE} {pos : Pos}
def tNext : TS := fun D σ H => D.nx σ H
def tSeq (t u : TS) : TS := fun D σ H => t { D with nx := u D } σ H
theorem pss_nil : PSs X [] tNext := by
  first
  | exact (fun _ _ σ H _ I h => wpAny_execs_nil ⟨σ, H, I, h⟩)
  | (unfold PSs at *; exact (fun _ _ σ H _ I h => wpAny_execs_nil ⟨σ, H, I, h⟩))

theorem pss_cons (h1 : PS X st t) (h2 : PSs X rest u) : PSs X (st :: rest) (tSeq t u) := by
  unfold PS at *; unfold PSs at *
  exact by
    intro pins s σ H D I h
    refine wpAny_execs_cons (thn (h1 pins s σ H { D with nx := u D } I h) fun f s1 q => ?_)
    cases f with
    | next =>
      obtain ⟨σ', H', I', q⟩ := q
      exact h2 pins s1 σ' H' D I' q
    | ret v => exact q
    | brk => exact q
    | cont => exact q

theorem pss_one (h1 : PS X st t) : PSs X [st] t := by
  unfold PS at *; unfold PSs at *
  exact by
    intro pins s σ H D I h
    refine wpAny_execs_cons (thn (h1 pins s σ H D I h) fun f s1 q => ?_)
    cases f with
    | next => exact wpAny_execs_nil q
    | ret v => exact q
    | brk => exact q
    | cont => exact q

/-- in a def's body nothing is shown -/
theorem Inv.quiet {pins : List (Addr × Obj)} {σ : St} {H : Hp} {s : Shared} (I : Inv X pins σ H s) : interactive X.env = false := by simp [interactive, I.ok.kind]
/-- an expression whose value is dropped -/
def tDrop (te : TE) : TS := fun D σ H => te σ H fun _ H1 => D.nx σ H1
theorem ps_expr (he : PE X e te) (hs : swapsWith e none pos.line X.env = pure false := by rfl) : PS X (.Expr e pos) (tDrop te) := by
  unfold PE at *; unfold PS at *
  exact by
    intro pins s σ H D I h
    exact wpAny_Expr_any (thn (he pins s σ H _ I h) fun v s1 ⟨x, H1, I1, r1, q1⟩ => ⟨σ, H1, I1, q1⟩) I.quiet hs

def tRet (te : TE) : TS := fun D σ H => te σ H D.rt
theorem ps_ret (he : PE X e te) : PS X (.Return (some e) pos) (tRet te) := by
  unfold PE at *; unfold PS at *
  exact by
    intro pins s σ H D I h
    exact wpAny_Return_some (thn (he pins s σ H _ I h) fun v s1 ⟨x, H1, I1, r1, q1⟩ => ⟨x, σ, H1, I1, r1, q1⟩)

def tRetN : TS := fun D _ H => D.rt .non H
theorem ps_retN : PS X (.Return none pos) tRetN := by
  first
  | exact (fun _ _ σ H _ I h => wpAny_Return_none ⟨.non, σ, H, I, rfl, h⟩)
  | (unfold PS at *; exact (fun _ _ σ H _ I h => wpAny_Return_none ⟨.non, σ, H, I, rfl, h⟩))

def tIfS (c : TT) (t u : TS) : TS := fun D σ H => c σ H fun b H1 => if b = true then t D σ H1 else u D σ H1
theorem ps_if {c : Expr} {a b : List Stmt} {tc : TT} (hc : PT X c tc) (ha : PSs X a t) (hb : PSs X b u) : PS X (.If c a b pos) (tIfS tc t u) := by
  unfold PT at *; unfold PS at *; unfold PSs at *
  exact by
    intro pins s σ H D I h
    refine wpAny_If (thn (hc pins s σ H _ I h) fun d s1 ⟨H1, I1, q1⟩ => ?_)
    cases d with
    | true => exact ha pins s1 σ H1 D I1 q1
    | false => exact hb pins s1 σ H1 D I1 q1

/-- code that the proof never comes to -/
def tNever : TS := fun _ _ _ => False
theorem ps_never : PS X st tNever := by
  first
  | exact (fun _ _ _ _ _ _ h => h.elim)
  | (unfold PS at *; exact (fun _ _ _ _ _ _ h => h.elim))

end

/-! ### targets -/
abbrev TG := V → St → Hp → (St → Hp → Prop) → Prop
@[irreducible] def PG (X : Cx) (target : Expr) (t : TG) : Prop :=
  ∀ (pins : List (Addr × Obj)) (s : Shared) (σ : St) (H : Hp) (v : V) (u : Value) (Q : St → Hp → Prop), Inv X pins σ H s → RelV v u → t v σ H Q →
    wpAny (model X.prog X.w) X.A (assign target X.env u) (fun _ s' => ∃ σ' H', Inv X pins σ' H' s' ∧ Q σ' H') X.xe s
/-- o[i] = v, by values -/
abbrev TSet := V → V → V → Hp → (Hp → Prop) → Prop
@[irreducible] def PSet (X : Cx) (t : TSet) : Prop :=
  ∀ (pins : List (Addr × Obj)) (s : Shared) (σ : St) (H : Hp) (o i v : V) (ov iv u : Value) (Q : Hp → Prop), Inv X pins σ H s → RelV o ov → RelV i iv → RelV v u → t o i v H Q →
    wpAny (model X.prog X.w) X.A (setItem ov iv u) (fun _ s' => ∃ H', Inv X pins σ H' s' ∧ Q H') X.xe s
section
variable {X : Cx} {pos : Pos}
def gName (i : Nat) : TG := fun v σ H Q => Q (σ.set i (some v)) H
theorem pg_name {i : Nat} {x : Str} (hN : X.N.Nodup) (hi : X.N[i]? = some x) (hx : Loc X.env.scope x) (hf : X.fn x = true ∨ X.env.scope.names.lookup x = some .local := by first | exact .inl rfl | exact .inr rfl | assumption) : PG X (.Name x pos) (gName i) := by
  unfold PG at *
  exact by
    intro pins s σ H v u Q I r h
    exact wpAny_assign_Name (store_ok I hN hi hx r (fun s' I' => ⟨_, H, I', h⟩) hf)

/-- o[i] = .. -/
def gSub (to ti : TE) (t : TSet) : TG := fun v σ H Q => to σ H fun o H1 => ti σ H1 fun i H2 => t o i v H2 fun H3 => Q σ H3
theorem pg_sub {o i : Expr} {to ti : TE} {t : TSet} (ho : PE X o to) (hi : PE X i ti) (hs : PSet X t)
    (ha : ∀ v, assign (.Subscript o i pos) X.env v = (do
      let ov ← holding [v] (eval o X.env)
      let iv ← holding [v, ov] (eval i X.env)
      standAt pos
      holding [v, ov, iv] (setItem ov iv v)
      release [v, ov, iv] []) := by intro _; rfl) : PG X (.Subscript o i pos) (gSub to ti t) := by
  unfold PE at *; unfold PG at *; unfold PSet at *
  exact by
    intro pins s σ H v u Q I r h
    rw [ha]
    refine wpAny_bind (wpAny_holding (thn (ho pins s σ H _ I h) fun ov s1 ⟨x, H1, I1, r1, q1⟩ => ?_))
    refine wpAny_bind (wpAny_holding (thn (hi pins s1 σ H1 _ I1 q1) fun iv s2 ⟨y, H2, I2, r2, q2⟩ => ?_))
    refine wpAny_bind (wpAny_standAt (wpAny_bind (wpAny_holding (thn (hs pins s2 σ H2 x y v ov iv u _ I2 r1 r2 r q2) fun _ s3 ⟨H3, I3, q3⟩ => ?_))))
    exact wpAny_release ⟨σ, H3, I3, q3⟩

/-- target = value -/
def tAsg (te : TE) (g : TG) : TS := fun D σ H => te σ H fun x H1 => g x σ H1 D.nx
theorem ps_asg {tg e : Expr} {te : TE} {g : TG} (he : PE X e te) (hg : PG X tg g) (hs : swapsWithSole [tg] e pos.line X.env = pure false := by rfl) (hw : swappedStores [tg] e X.env = pure none := by rfl)
    (h1 : (assignEach [tg] X.env).map (·.2) = [assign tg X.env] := by rfl) : PS X (.Assign [tg] e pos) (tAsg te g) := by
  unfold PE at *; unfold PS at *; unfold PG at *
  exact by
    intro pins s σ H D I h
    refine wpAny_Assign_stores (thn (he pins s σ H _ I h) fun v s1 ⟨x, H1, I1, r1, q1⟩ => ?_) hs hw
    rw [h1]
    exact thn (hg pins s1 σ H1 x v _ I1 r1 q1) fun _ s2 q => q

/-- name = value -/
theorem ps_set {i : Nat} {x : Str} {e : Expr} {te : TE} {pos' : Pos} (hN : X.N.Nodup) (hi : X.N[i]? = some x) (hx : Loc X.env.scope x) (he : PE X e te) (hs : swapsWith e (some (.Name x pos')) pos.line X.env = pure false := by rfl) (hf : X.fn x = true ∨ X.env.scope.names.lookup x = some .local := by first | exact .inl rfl | exact .inr rfl | assumption) :
    PS X (.Assign [.Name x pos'] e pos) (tAsg te (gName i)) := by
  unfold PE at *; unfold PS at *
  exact by
    intro pins s σ H D I h
    refine wpAny_Assign_Name (thn (he pins s σ H _ I h) fun v s1 ⟨y, H1, I1, r1, q1⟩ => ?_) hs
    exact store_ok I1 hN hi hx r1 (fun s2 I2 => ⟨_, H1, I2, q1⟩) hf

end

/-! ### while -/
section
variable {X : Cx} {pos : Pos}
end

/-! ### what a loop or a comprehension walks -/
/- at turn i: it yields x (the heap may grow), or it stops -/
set_option genInjectivity false in
set_option genSizeOfSpec false in
set_option genSizeOf false in
structure It where
  go : Nat → Hp → Prop
  yld : Nat → Hp → V → Hp → Prop
  stop : Nat → Hp → Prop
/-- the iterator's own objects may turn: they are not the frame's, not pinned, younger than the entry (or a comprehension's own) -/
def FpOk (X : Cx) (pins : List (Addr × Obj)) (H : Hp) (b : Addr) : Prop :=
  H b = none ∧ b ≠ X.env.locals ∧ b ∉ X.fs ∧ (b ∈ X.ex ∨ X.s₀.heap.objs.size ≤ b) ∧ (∀ x c, X.env.cells.lookup x = some c → c ≠ b) ∧ ∀ p ∈ X.pn ++ pins, p.1 ≠ b
theorem Inv.fpOk {X : Cx} {pins : List (Addr × Obj)} {σ : St} {H H' : Hp} {s : Shared} {b : Addr} (I : Inv X pins σ H s) (hb : s.heap.objs.size ≤ b) (hn : H' b = none) : FpOk X pins H' b := by
  refine ⟨hn, Nat.ne_of_gt (Nat.lt_of_lt_of_le I.lt hb), I.nofs hb, .inr (Nat.le_trans I.sz hb), fun x c e z => ?_, fun p hp z => ?_⟩
  · obtain ⟨v, q⟩ := I.cell x c e
    exact absurd (Nat.lt_of_lt_of_le q.lt (by rw [z]; exact hb)) (Nat.lt_irrefl _)
  · exact absurd (Nat.lt_of_lt_of_le (Heap.lt_size (I.pin p hp).1) (by rw [z]; exact hb)) (Nat.lt_irrefl _)
structure Turn (P : Program) (w : World) (K : PySem.W.Frag) (tg : Expr) (J : It) (fp : List Addr) (it : Addr) (tn : Nat → Heap → Prop) : Prop where
  mem : it ∈ fp
  obj : ∀ i h, tn i h → ∀ b ∈ fp, ∃ o, h.get? b = some o ∧ ∀ v, o.data ≠ .cell v
  keep : ∀ i h h', tn i h → (∀ b ∈ fp, ∀ o, h.get? b = some o → h'.get? b = some o) → tn i h'
  item : ∀ (X : Cx), X.prog = P → X.w = w → X.K = K → X.calm = true → ∀ (i : Nat) (pins : List (Addr × Obj)) (s : Shared) (σ : St) (H : Hp) (E : Value → Shared → Prop), Inv X pins σ H s → (∀ b ∈ fp, FpOk X pins H b) → tn i s.heap → J.go i H →
    wpAny (model P w) X.A (pyNext (.ref it)) (fun r s1 => ∃ u, r = some u ∧
      wpAny (model P w) X.A (letOwnedTupleGo tg (.ref it) u) (fun _ s2 => ∃ x H', Inv X pins σ H' s2 ∧ RelV x u ∧ J.yld i H x H' ∧ tn (i + 1) s2.heap ∧ ∀ b ∈ fp, H' b = none) E s1) E s
  done : ∀ (X : Cx), X.prog = P → X.w = w → X.K = K → X.calm = true → ∀ (i : Nat) (pins : List (Addr × Obj)) (s : Shared) (σ : St) (H : Hp) (E : Value → Shared → Prop), Inv X pins σ H s → (∀ b ∈ fp, FpOk X pins H b) → tn i s.heap → J.stop i H →
    wpAny (model P w) X.A (pyNext (.ref it)) (fun r s1 => r = none ∧ Inv X pins σ H s1) E s
  self : ∀ (A : Around) (i : Nat) (s : Shared) (Q : Value → Shared → Prop) (E : Value → Shared → Prop), tn i s.heap → Q (.ref it) s → wpAny (model P w) A (pyIter (.ref it)) Q E s
abbrev TI := St → Hp → (It → Hp → Prop) → Prop
/-- an iterator has come -/
def PIE (X : Cx) (pins : List (Addr × Obj)) (σ : St) (tg : Expr) (R : It → Hp → Prop) (itv : Value) (s2 : Shared) : Prop :=
  ∃ (it : Addr) (fp : List Addr) (tn : Nat → Heap → Prop) (J : It) (H' : Hp), itv = .ref it ∧ Inv X pins σ H' s2 ∧ Turn X.prog X.w X.K tg J fp it tn ∧ tn 0 s2.heap ∧ (∀ b ∈ fp, FpOk X pins H' b) ∧ R J H'
@[irreducible] def PI (X : Cx) (tg iter : Expr) (wi : TI) : Prop :=
  ∀ (pins : List (Addr × Obj)) (s : Shared) (σ : St) (H : Hp) (R : It → Hp → Prop), Inv X pins σ H s → wi σ H R →
    wpAny (model X.prog X.w) X.A (eval iter X.env) (fun v s1 => wpAny (model X.prog X.w) X.A (pyIter v) (PIE X pins σ tg R) X.xe s1) X.xe s

/-- the step ahead of the store is nothing for an iterator that keeps no tuple -/
theorem go_of {M : Model} {A : Around} {E : Value → Shared → Prop} {s : Shared} {tg : Expr} {it : Addr} {u : Value} {o : Obj} {n : String} {vs : Array Value} {Q : Unit → Shared → Prop} (ho : s.heap.get? it = some o) (hc : o.cls = .type n) (hd : o.data = .fields vs)
    (hn : ["enumerate", "zip", "dict_itemiterator", "dict_reverseitemiterator", "odict_iterator", "itertools.zip_longest", "itertools.pairwise"].contains n = false) (hQ : Q () s) : wpAny M A (letOwnedTupleGo tg (.ref it) u) Q E s := by
  unfold letOwnedTupleGo
  cases tg <;> first
    | exact wpAny_pure hQ
    | (cases u <;> first
        | exact wpAny_pure hQ
        | (refine wpAny_bind (wpAny_load ho ?_)
           rw [hc, hd]
           show wpAny M A (if (["enumerate", "zip", "dict_itemiterator", "dict_reverseitemiterator", "odict_iterator", "itertools.zip_longest", "itertools.pairwise"].contains n && vs[0]? == some (rawInt _)) = true then _ else _) Q E s
           rw [if_neg (by intro h; rw [hn, Bool.false_and] at h; cases h)]
           exact wpAny_pure hQ))

/-- the list at a, as it stands at each turn (a loop may append to it) -/
def Itl (K : PySem.W.Frag) (a : Addr) : It :=
  ⟨fun i H => ∃ xs x, SqL K H a xs ∧ xs[i]? = some x, fun i H x H' => H' = H ∧ ∀ xs, SqL K H a xs → xs[i]? = some x, fun i H => ∃ xs, SqL K H a xs ∧ xs.length ≤ i⟩
def Itt (K : PySem.W.Frag) (a : Addr) : It :=
  ⟨fun i H => ∃ xs x, SqT K H a xs ∧ xs[i]? = some x, fun i H x H' => H' = H ∧ ∀ xs, SqT K H a xs → xs[i]? = some x, fun i H => ∃ xs, SqT K H a xs ∧ xs.length ≤ i⟩
/-- lo, lo + 1, .. (n of them) -/
def Itr (lo : Int) (n : Nat) : It := ⟨fun i _ => i < n, fun i H x H' => H' = H ∧ x = .int (lo + i), fun i _ => n ≤ i⟩
theorem turn_list {P : Program} {w : World} {K : PySem.W.Frag} {tg : Expr} (a it : Addr) : Turn P w K tg (Itl K a) [it] it (fun i h => h.IsListIter it a i) where
  mem := by simp
  obj := fun i h st b hb => by
    have e : b = it := by simpa using hb
    subst e
    obtain ⟨o, e, c, d⟩ := st
    exact ⟨o, e, fun v z => by rw [d] at z; cases z⟩
  keep := fun i h h' st k => st.at fun o e => k it (by simp) o e
  item := by
    intro X hP hw hK hc i pins s σ H E I hf st hg
    subst hP hw hK
    obtain ⟨xs, x, hq, hx⟩ := hg
    obtain ⟨its, rv, p, hz⟩ := I.list hq
    obtain ⟨u, hu, ru⟩ := rv.get hx
    obtain ⟨f0, f1, f2, f3, f4, f5⟩ := hf it (by simp)
    refine wpAny_pyNext_list_item st p.isList (x := u) (by simpa using hu) fun h' st' sb => ?_
    have I1 : Inv X pins σ H { s with heap := h' } := I.turned (t' := s.toks) (fun b o hb e => (sb.2 b hb).trans e) f0 f1 f3 f4 f5
    obtain ⟨o, e, c, d⟩ := id st'
    exact ⟨u, rfl, go_of (s := { s with heap := h' }) e c d (by decide) ⟨x, H, I1, ru, ⟨rfl, fun ys hy => by rw [I.list_inj hy hq]; exact hx⟩, st', fun b hb => (hf b hb).1⟩⟩
  done := by
    intro X hP hw hK hc i pins s σ H E I hf st hg
    subst hP hw hK
    obtain ⟨xs, hq, hx⟩ := hg
    obtain ⟨its, rv, p, hz⟩ := I.list hq
    obtain ⟨f0, f1, f2, f3, f4, f5⟩ := hf it (by simp)
    have hl := rv.length
    exact wpAny_pyNext_list_end (I.ok.hd hc) st p.isList (by simp; omega) fun h' eb => ⟨rfl, I.turned (t' := s.toks) (fun b o hb e => eb b o hb e) f0 f1 f3 f4 f5⟩
  self := fun _ _ _ _ _ st h => wpAny_pyIter_listiter st h
theorem turn_tuple {P : Program} {w : World} {K : PySem.W.Frag} {tg : Expr} (a it : Addr) : Turn P w K tg (Itt K a) [it] it (fun i h => h.IsTupleIter it a i) where
  mem := by simp
  obj := fun i h st b hb => by
    have e : b = it := by simpa using hb
    subst e
    obtain ⟨o, e, c, d⟩ := st
    exact ⟨o, e, fun v z => by rw [d] at z; cases z⟩
  keep := fun i h h' st k => st.at fun o e => k it (by simp) o e
  item := by
    intro X hP hw hK hc i pins s σ H E I hf st hg
    subst hP hw hK
    obtain ⟨xs, x, hq, hx⟩ := hg
    obtain ⟨its, rv, p, hz⟩ := I.tuple hq
    obtain ⟨u, hu, ru⟩ := rv.get hx
    obtain ⟨f0, f1, f2, f3, f4, f5⟩ := hf it (by simp)
    refine wpAny_pyNext_tuple_item st (show s.heap.IsTuple a its.toArray from p) (x := u) (by simpa using hu) fun h' st' sb => ?_
    have I1 : Inv X pins σ H { s with heap := h' } := I.turned (t' := s.toks) (fun b o hb e => (sb.2 b hb).trans e) f0 f1 f3 f4 f5
    obtain ⟨o, e, c, d⟩ := id st'
    exact ⟨u, rfl, go_of (s := { s with heap := h' }) e c d (by decide) ⟨x, H, I1, ru, ⟨rfl, fun ys hy => by rw [I.tuple_inj hy hq]; exact hx⟩, st', fun b hb => (hf b hb).1⟩⟩
  done := by
    intro X hP hw hK hc i pins s σ H E I hf st hg
    subst hP hw hK
    obtain ⟨xs, hq, hx⟩ := hg
    obtain ⟨its, rv, p, hz⟩ := I.tuple hq
    obtain ⟨f0, f1, f2, f3, f4, f5⟩ := hf it (by simp)
    have hl := rv.length
    exact wpAny_pyNext_tuple_end (I.ok.hd hc) st (show s.heap.IsTuple a its.toArray from p) (by simp; omega) fun h' eb => ⟨rfl, I.turned (t' := s.toks) (fun b o hb e => eb b o hb e) f0 f1 f3 f4 f5⟩
  self := fun _ _ _ _ _ st h => wpAny_pyIter_tupleiter st h
theorem turn_range {P : Program} {w : World} {K : PySem.W.Frag} {tg : Expr} (it : Addr) (lo : Int) (n : Nat) : Turn P w K tg (Itr lo n) [it] it (fun i h => IsRangeIter h it (lo + (i : Nat) * 1) ((n : Int) - (i : Nat)) 1) where
  mem := by simp
  obj := fun i h st b hb => by
    have e : b = it := by simpa using hb
    subst e
    exact ⟨_, st, fun v z => by
      have z' : Data.fields _ = Data.cell v := z
      cases z'⟩
  keep := fun i h h' st k => k it (by simp) _ st
  item := by
    intro X hP hw hK hc i pins s σ H E I hf st hg
    subst hP hw hK
    obtain ⟨f0, f1, f2, f3, f4, f5⟩ := hf it (by simp)
    have W := Walks.range (prog := X.prog) (w := X.w) (I.ok.hd hc) it lo 1 n
    refine W.item i s _ _ hg st fun v h' tk hv st' kk => ?_
    obtain ⟨t, rfl⟩ := hv
    have I1 : Inv X pins σ H { s with heap := h', toks := tk } := I.turned (fun b o hb e => kk b o (by simpa using hb) e) f0 f1 f3 f4 f5
    refine ⟨_, rfl, go_of (s := { s with heap := h', toks := tk }) (n := "range_iterator") st' rfl rfl (by decide) ⟨.int (lo + i), H, I1, ⟨t, ?_⟩, ⟨rfl, rfl⟩, st', fun b hb => (hf b hb).1⟩⟩
    rw [Int.mul_one]
  done := by
    intro X hP hw hK hc i pins s σ H E I hf st hg
    subst hP hw hK
    obtain ⟨f0, f1, f2, f3, f4, f5⟩ := hf it (by simp)
    exact wpAny_pyNext_range_end (I.ok.hd hc) st (by have : n ≤ i := hg; omega) fun h' eb => ⟨rfl, I.turned (t' := s.toks) (fun b o hb e => eb b o hb e) f0 f1 f3 f4 f5⟩
  self := fun _ _ _ _ _ st h => wpAny_pyIter_rangeiter st h
end L2

namespace L2
open PySem PySem.Spec PyProof.Rows
section
variable {X : Cx} {tg : Expr}
def iList (K : PySem.W.Frag) (tl : TE) : TI := fun σ H R => tl σ H fun x H1 => ∃ a, x = .ref a ∧ (∃ xs, SqL K H1 a xs) ∧ R (Itl K a) H1
def iTup (K : PySem.W.Frag) (tl : TE) : TI := fun σ H R => tl σ H fun x H1 => ∃ a, x = .ref a ∧ (∃ xs, SqT K H1 a xs) ∧ R (Itt K a) H1
theorem pi_list {l : Expr} {tl : TE} (hl : PE X l tl) : PI X tg l (iList X.K tl) := by
  unfold PE at *; unfold PI at *
  exact by
    intro pins s σ H R I h
    refine thn (hl pins s σ H _ I h) fun v s1 ⟨x, H1, I1, r1, q1⟩ => ?_
    obtain ⟨a, e, ⟨xs, hq⟩, q⟩ := q1
    subst e
    cases r1
    obtain ⟨its, rv, p, hz⟩ := I1.list hq
    refine wpAny_pyIter_list p.isList ?_
    refine ⟨s1.heap.objs.size, [s1.heap.objs.size], _, _, H1, rfl, I1.kept (t' := s1.toks) fun b o e => Heap.get?_push_of_some _ e, turn_list a _, ⟨_, Heap.get?_push_size _ rfl, rfl, rfl⟩, fun b hb => ?_, q⟩
    have e : b = s1.heap.objs.size := by simpa using hb
    subst e
    exact I1.fpOk (Nat.le_refl _) (I1.hok.fresh (Nat.le_refl _))

theorem pi_tup {l : Expr} {tl : TE} (hl : PE X l tl) : PI X tg l (iTup X.K tl) := by
  unfold PE at *; unfold PI at *
  exact by
    intro pins s σ H R I h
    refine thn (hl pins s σ H _ I h) fun v s1 ⟨x, H1, I1, r1, q1⟩ => ?_
    obtain ⟨a, e, ⟨xs, hq⟩, q⟩ := q1
    subst e
    cases r1
    obtain ⟨its, rv, p, hz⟩ := I1.tuple hq
    refine wpAny_pyIter_tuple (show s1.heap.IsTuple a its.toArray from p) ?_
    refine ⟨s1.heap.objs.size, [s1.heap.objs.size], _, _, H1, rfl, I1.kept (t' := s1.toks) fun b o e => Heap.get?_push_of_some _ e, turn_tuple a _, ⟨_, Heap.get?_push_size _ rfl, rfl, rfl⟩, fun b hb => ?_, q⟩
    have e : b = s1.heap.objs.size := by simpa using hb
    subst e
    exact I1.fpOk (Nat.le_refl _) (I1.hok.fresh (Nat.le_refl _))

/-- a range object just made, walked -/
theorem range_it {pins : List (Addr × Obj)} {σ : St} {H : Hp} {s : Shared} {R : It → Hp → Prop} {E : Value → Shared → Prop} {lo hi : Int} {t u v : Tok} {tk : Nat} (I : Inv X pins σ H s) (h1 : -(2 ^ 62) ≤ lo) (h2 : lo < 2 ^ 62) (h3 : -(2 ^ 62) ≤ hi) (h4 : hi < 2 ^ 62)
    (q : R (Itr lo (hi - lo).toNat) H) : wpAny (model X.prog X.w) X.A (pyIter (.ref s.heap.objs.size)) (PIE X pins σ tg R) E { s with heap := s.heap.push { cls := .type "range", data := .fields #[.int lo t, .int hi u, .int 1 v] }, toks := tk } := by
  refine wpAny_pyIter_range (IsRange.new ..) (small_one h1 h2 h3 h4) ?_
  have I1 : Inv X pins σ H { s with heap := s.heap.push { cls := .type "range", data := .fields #[.int lo t, .int hi u, .int 1 v] }, toks := tk } := I.kept fun b o e => Heap.get?_push_of_some _ e
  refine ⟨(s.heap.push { cls := .type "range", data := .fields #[.int lo t, .int hi u, .int 1 v] }).objs.size, [(s.heap.push { cls := .type "range", data := .fields #[.int lo t, .int hi u, .int 1 v] }).objs.size], _, _, H, rfl,
    I1.kept (t' := tk) fun b o e => Heap.get?_push_of_some _ e, turn_range _ lo (hi - lo).toNat, ?_, fun b hb => ?_, q⟩
  · have e1 : lo + ((0 : Nat) : Int) * 1 = lo := by simp
    have e2 : (((hi - lo).toNat : Nat) : Int) - ((0 : Nat) : Int) = Builtin.Range.rangeSize lo hi 1 := by rw [rangeSize_one]; split <;> omega
    show IsRangeIter _ _ (lo + ((0 : Nat) : Int) * 1) ((((hi - lo).toNat : Nat) : Int) - ((0 : Nat) : Int)) 1
    rw [e1, e2]
    exact Heap.get?_push_size _ rfl
  · have e : b = (s.heap.push { cls := .type "range", data := .fields #[.int lo t, .int hi u, .int 1 v] }).objs.size := by simpa using hb
    subst e
    exact I1.fpOk (Nat.le_refl _) (I1.hok.fresh (Nat.le_refl _))
def iRng1 (ta : TA) : TI := fun σ H R => ta σ H fun vs H1 => ∃ j : Int, vs = [.int j] ∧ -(2 ^ 62) ≤ j ∧ j < 2 ^ 62 ∧ R (Itr 0 j.toNat) H1
def iRng2 (ta : TA) : TI := fun σ H R => ta σ H fun vs H1 => ∃ i j : Int, vs = [.int i, .int j] ∧ (-(2 ^ 62) ≤ i ∧ i < 2 ^ 62 ∧ -(2 ^ 62) ≤ j ∧ j < 2 ^ 62) ∧ R (Itr i (j - i).toNat) H1
theorem pi_range1 {a : Expr} {ta : TA} {p pos : Pos} (hg : Gl X "range") (hm : X.mg "range" = none) (ha : PA X [a] ta) (hs : starEach [a] X.env = [(false, eval a X.env)] := by rfl) : PI X tg (.Call (.Name "range" p) [a] [] pos) (iRng1 ta) := by
  unfold PA at *; unfold PI at *
  exact by
    intro pins s σ H R I h
    refine Call_ (ld_blt I hg hm boot_range (PyProof.Rows.callWith_type1 (thn (ha pos pins s σ H _ I h) fun us s1 ⟨vs, H1, I1, r1, q1⟩ => ?_) hs rfl))
    obtain ⟨j, e, q1, q2, q⟩ := q1
    subst e
    cases r1 with
    | cons r rr =>
      cases rr
      obtain ⟨t, rfl⟩ := r
      exact call_range_1 (range_it I1 (by omega) (by omega) q1 q2 (by simpa using q))

theorem pi_range2 {a b : Expr} {ta : TA} {p pos : Pos} (hg : Gl X "range") (hm : X.mg "range" = none) (ha : PA X [a, b] ta) (hs : starEach [a, b] X.env = [(false, eval a X.env), (false, eval b X.env)] := by rfl) (hs2 : starEach [b] X.env = [(false, eval b X.env)] := by rfl) :
    PI X tg (.Call (.Name "range" p) [a, b] [] pos) (iRng2 ta) := by
  unfold PA at *; unfold PI at *
  exact by
    intro pins s σ H R I h
    refine Call_ (ld_blt I hg hm boot_range (PyProof.Rows.callWith_type1 (thn (ha pos pins s σ H _ I h) fun us s1 ⟨vs, H1, I1, r1, q1⟩ => ?_) (by rw [hs, hs2]) (by rw [hs2]; rfl)))
    obtain ⟨i, j, e, ⟨q1, q2, q3, q4⟩, q⟩ := q1
    subst e
    cases r1 with
    | cons r rr =>
      cases rr with
      | cons r' rr =>
        cases rr
        obtain ⟨t, rfl⟩ := r
        obtain ⟨t', rfl⟩ := r'
        exact call_range_2 (range_it I1 q1 q2 q3 q4 q)

/-! ### for -/
/-- W: the invariant by the turn and a measure; N: what the body is to reach -/
def tFor (wi : TI) (g : TG) (tb : TS) : TS := fun D σ H => wi σ H fun J H1 => ∃ W : Nat → Nat → St → Hp → Prop, (∃ m, W 0 m σ H1) ∧ ∀ i m σ H, W i m σ H →
  (J.stop i H ∧ D.nx σ H) ∨ (J.go i H ∧ ∃ N : St → Hp → Prop, (∀ σ' H', N σ' H' → ∃ m', m' < m ∧ W (i + 1) m' σ' H') ∧ ∀ x H', J.yld i H x H' → g x σ H' fun σ2 H2 => tb { D with nx := N, ct := N, bk := D.nx } σ2 H2)
/-- the records at fp as they stand -/
def pinsAt (fp : List Addr) (h : Heap) : List (Addr × Obj) := fp.filterMap fun b => (h.get? b).map fun o => (b, o)
theorem mem_pinsAt {fp : List Addr} {h : Heap} {b : Addr} {o : Obj} (hb : b ∈ fp) (e : h.get? b = some o) : (b, o) ∈ pinsAt fp h := List.mem_filterMap.mpr ⟨b, hb, by rw [e]; rfl⟩
theorem of_pinsAt {fp : List Addr} {h : Heap} {p : Addr × Obj} (hp : p ∈ pinsAt fp h) : p.1 ∈ fp ∧ h.get? p.1 = some p.2 := by
  obtain ⟨b, hb, e⟩ := List.mem_filterMap.mp hp
  cases q : h.get? b with
  | none => rw [q] at e; cases e
  | some o =>
    rw [q] at e
    have e' : (b, o) = p := Option.some.inj e
    subst e'
    exact ⟨hb, q⟩
theorem Inv.pinned {pins : List (Addr × Obj)} {σ : St} {H : Hp} {s : Shared} {fp : List Addr} (I : Inv X pins σ H s) (hf : ∀ b ∈ fp, FpOk X pins H b) (ho : ∀ b ∈ fp, ∃ o, s.heap.get? b = some o ∧ ∀ v, o.data ≠ .cell v) : Inv X (pins ++ pinsAt fp s.heap) σ H s :=
  I.pins_of fun p hp => (List.mem_append.mp hp).elim (fun z => I.pin p (List.mem_append_right _ z)) fun z => by
    obtain ⟨hb, e⟩ := of_pinsAt z
    obtain ⟨f0, f1, f2, _⟩ := hf p.1 hb
    obtain ⟨o, e', d⟩ := ho p.1 hb
    rw [e] at e'; cases e'
    exact ⟨e, f0, f1, f2, d⟩
theorem Inv.unpinned {pins pl : List (Addr × Obj)} {σ : St} {H : Hp} {s : Shared} (I : Inv X (pins ++ pl) σ H s) : Inv X pins σ H s := I.pins_of fun p hp => I.pin p (List.mem_append_right _ (List.mem_append_left _ hp))
theorem ps_for {iter : Expr} {body : List Stmt} {wi : TI} {g : TG} {tb : TS} {pos : Pos} (hp : PassesOwn (model X.prog X.w) X.A X.env X.xe) (hc : X.calm = true) (hi : PI X tg iter wi) (hg : PG X tg g) (hb : PSs X body tb)
    (hs : ∀ x, foldedSetIterable iter X.env x = pure x := by intro _; rfl) : PS X (.For tg iter body [] pos) (tFor wi g tb) := by
  unfold PS at *; unfold PSs at *; unfold PG at *; unfold PI at *
  exact by
    intro pins s σ H D I h
    refine wpAny_For (thn (hi pins s σ H _ I h) fun v s1 h1 => thn h1 fun itv s2 h2 => ?_) hs
    obtain ⟨it, fp, tn, J, H2, e, I2, T, st2, f2, W, ⟨m0, w0⟩, turn⟩ := h2
    subst e
    -- what stays true of the iterator's objects through the loop
    have stat : ∀ {H' : Hp}, (∀ b ∈ fp, H' b = none) → ∀ b ∈ fp, FpOk X pins H' b := fun hn b hb => ⟨hn b hb, (f2 b hb).2⟩
    refine codeAny_forLoop_any (fun n s' => ∃ i σ' H', Inv X pins σ' H' s' ∧ tn i s'.heap ∧ (∀ b ∈ fp, H' b = none) ∧ W i n σ' H') ?_ m0 ⟨0, σ, H2, I2, st2, fun b hb => (f2 b hb).1, w0⟩
    rintro n s3 ⟨i, σ3, H3, I3, st3, fr3, w3⟩
    rcases turn i n σ3 H3 w3 with ⟨stop, qn⟩ | ⟨go, N, hN, step⟩
    · refine wpAny_passesOwn hp (thn (T.done X rfl rfl rfl hc i pins s3 σ3 H3 X.xe I3 (stat fr3) st3 stop) fun r s4 ⟨hr, I4⟩ => ?_)
      subst hr
      exact wpAny_execs_nil ⟨σ3, H3, I4, qn⟩
    · refine wpAny_passesOwn hp (thn (T.item X rfl rfl rfl hc i pins s3 σ3 H3 X.xe I3 (stat fr3) st3 go) fun r s4 ⟨u, hr, h4⟩ => ?_)
      subst hr
      refine wpAny_passesOwn hp (thn h4 fun _ s5 ⟨x, H5, I5, r5, y5, st5, fr5⟩ => ?_)
      have I5' := I5.pinned (stat fr5) (T.obj _ _ st5)
      refine wpAny_passesOwn hp (thn (hg _ s5 σ3 H5 x u _ I5' r5 (step x H5 y5)) fun _ s6 ⟨σ6, H6, I6, q6⟩ => ?_)
      refine wpAny_passesOwn hp (thn (hb _ s6 σ6 H6 _ I6 q6) fun f s7 q7 => ?_)
      have again : ∀ {σ7 : St} {H7 : Hp}, Inv X (pins ++ pinsAt fp s5.heap) σ7 H7 s7 → N σ7 H7 → ∃ m, m < n ∧ ∃ i σ' H', Inv X pins σ' H' s7 ∧ tn i s7.heap ∧ (∀ b ∈ fp, H' b = none) ∧ W i m σ' H' := fun {σ7 H7} I7 n7 => by
        obtain ⟨m', hm, w7⟩ := hN σ7 H7 n7
        refine ⟨m', hm, i + 1, σ7, H7, I7.unpinned, T.keep _ _ _ st5 fun b hb o e => (I7.pin (b, o) (List.mem_append_right _ (List.mem_append_right _ (mem_pinsAt hb e)))).1, fun b hb => ?_, w7⟩
        obtain ⟨o, e, d⟩ := T.obj _ _ st5 b hb
        exact (I7.pin (b, o) (List.mem_append_right _ (List.mem_append_right _ (mem_pinsAt hb e)))).2.1
      cases f with
      | next => obtain ⟨σ7, H7, I7, n7⟩ := q7; exact again I7 n7
      | cont => obtain ⟨σ7, H7, I7, n7⟩ := q7; exact again I7 n7
      | brk => obtain ⟨σ7, H7, I7, q7⟩ := q7; exact ⟨σ7, H7, I7.unpinned, q7⟩
      | ret v => obtain ⟨x7, σ7, H7, I7, r7, q7⟩ := q7; exact ⟨x7, σ7, H7, I7.unpinned, r7, q7⟩

end

/-! ### the forms one uses -/
/-- over a list that the body leaves as it is -/
theorem for_list {K : PySem.W.Frag} {a : Addr} {xs : List V} {g : TG} {tb : TS} {D : Ends} {σ : St} {H : Hp} (Pv : Nat → St → Hp → Prop) (h0 : Pv 0 σ H) (hl : ∀ i σ H, i ≤ xs.length → Pv i σ H → SqL K H a xs)
    (hs : ∀ i x σ H, xs[i]? = some x → Pv i σ H → g x σ H fun σ2 H2 => tb { D with nx := Pv (i + 1), ct := Pv (i + 1), bk := D.nx } σ2 H2) (hd : ∀ σ H, Pv xs.length σ H → D.nx σ H) :
    ∃ W : Nat → Nat → St → Hp → Prop, (∃ m, W 0 m σ H) ∧ ∀ i m σ H, W i m σ H →
      ((Itl K a).stop i H ∧ D.nx σ H) ∨ ((Itl K a).go i H ∧ ∃ N : St → Hp → Prop, (∀ σ' H', N σ' H' → ∃ m', m' < m ∧ W (i + 1) m' σ' H') ∧ ∀ x H', (Itl K a).yld i H x H' → g x σ H' fun σ2 H2 => tb { D with nx := N, ct := N, bk := D.nx } σ2 H2) := by
  refine ⟨fun i m σ H => m = xs.length - i ∧ i ≤ xs.length ∧ Pv i σ H, ⟨xs.length, by simp, Nat.zero_le _, h0⟩, ?_⟩
  rintro i m σ H ⟨rfl, hi, p⟩
  have q := hl i σ H hi p
  by_cases hlt : i < xs.length
  · refine .inr ⟨⟨xs, xs[i], q, by simp [hlt]⟩, Pv (i + 1), fun σ' H' p' => ⟨xs.length - (i + 1), by omega, rfl, hlt, p'⟩, fun x H' y => ?_⟩
    obtain ⟨e, y⟩ := y
    subst e
    exact hs i x σ _ (y xs q) p
  · have e : i = xs.length := by omega
    subst e
    exact .inl ⟨⟨xs, q, Nat.le_refl _⟩, hd σ H p⟩
theorem for_tup {K : PySem.W.Frag} {a : Addr} {xs : List V} {g : TG} {tb : TS} {D : Ends} {σ : St} {H : Hp} (Pv : Nat → St → Hp → Prop) (h0 : Pv 0 σ H) (hl : ∀ i σ H, i ≤ xs.length → Pv i σ H → SqT K H a xs)
    (hs : ∀ i x σ H, xs[i]? = some x → Pv i σ H → g x σ H fun σ2 H2 => tb { D with nx := Pv (i + 1), ct := Pv (i + 1), bk := D.nx } σ2 H2) (hd : ∀ σ H, Pv xs.length σ H → D.nx σ H) :
    ∃ W : Nat → Nat → St → Hp → Prop, (∃ m, W 0 m σ H) ∧ ∀ i m σ H, W i m σ H →
      ((Itt K a).stop i H ∧ D.nx σ H) ∨ ((Itt K a).go i H ∧ ∃ N : St → Hp → Prop, (∀ σ' H', N σ' H' → ∃ m', m' < m ∧ W (i + 1) m' σ' H') ∧ ∀ x H', (Itt K a).yld i H x H' → g x σ H' fun σ2 H2 => tb { D with nx := N, ct := N, bk := D.nx } σ2 H2) := by
  refine ⟨fun i m σ H => m = xs.length - i ∧ i ≤ xs.length ∧ Pv i σ H, ⟨xs.length, by simp, Nat.zero_le _, h0⟩, ?_⟩
  rintro i m σ H ⟨rfl, hi, p⟩
  have q := hl i σ H hi p
  by_cases hlt : i < xs.length
  · refine .inr ⟨⟨xs, xs[i], q, by simp [hlt]⟩, Pv (i + 1), fun σ' H' p' => ⟨xs.length - (i + 1), by omega, rfl, hlt, p'⟩, fun x H' y => ?_⟩
    obtain ⟨e, y⟩ := y
    subst e
    exact hs i x σ _ (y xs q) p
  · have e : i = xs.length := by omega
    subst e
    exact .inl ⟨⟨xs, q, Nat.le_refl _⟩, hd σ H p⟩
theorem for_range {lo : Int} {n : Nat} {g : TG} {tb : TS} {D : Ends} {σ : St} {H : Hp} (Pv : Nat → St → Hp → Prop) (h0 : Pv 0 σ H)
    (hs : ∀ i σ H, i < n → Pv i σ H → g (.int (lo + i)) σ H fun σ2 H2 => tb { D with nx := Pv (i + 1), ct := Pv (i + 1), bk := D.nx } σ2 H2) (hd : ∀ σ H, Pv n σ H → D.nx σ H) :
    ∃ W : Nat → Nat → St → Hp → Prop, (∃ m, W 0 m σ H) ∧ ∀ i m σ H, W i m σ H →
      ((Itr lo n).stop i H ∧ D.nx σ H) ∨ ((Itr lo n).go i H ∧ ∃ N : St → Hp → Prop, (∀ σ' H', N σ' H' → ∃ m', m' < m ∧ W (i + 1) m' σ' H') ∧ ∀ x H', (Itr lo n).yld i H x H' → g x σ H' fun σ2 H2 => tb { D with nx := N, ct := N, bk := D.nx } σ2 H2) := by
  refine ⟨fun i m σ H => m = n - i ∧ i ≤ n ∧ Pv i σ H, ⟨n, by simp, Nat.zero_le _, h0⟩, ?_⟩
  rintro i m σ H ⟨rfl, hi, p⟩
  by_cases hlt : i < n
  · refine .inr ⟨hlt, Pv (i + 1), fun σ' H' p' => ⟨n - (i + 1), by omega, rfl, hlt, p'⟩, fun x H' y => ?_⟩
    obtain ⟨e, y⟩ := y
    subst e y
    exact hs i σ _ hlt p
  · have e : i = n := by omega
    subst e
    exact .inl ⟨Nat.le_refl _, hd σ H p⟩
end L2

namespace L2
open PySem PySem.Spec PyProof.Rows

abbrev R2 := V → V → Hp → VK → Prop
/-- a two-place operation on values: f is binaryOp op, inplaceOp op or compareOp op -/
@[irreducible] def OpR (X : Cx) (f : Value → Value → Sem Value) (r : R2) : Prop :=
  ∀ (pins : List (Addr × Obj)) (s : Shared) (σ : St) (H : Hp) (x y : V) (v u : Value) (Q : VK), Inv X pins σ H s → RelV x v → RelV y u → r x y H Q →
    wpAny (model X.prog X.w) X.A (f v u) (EP X pins σ Q) X.xe s
/-- a one-place operation -/
@[irreducible] def UnR (X : Cx) (f : Value → Sem Value) (r : V → Hp → VK → Prop) : Prop :=
  ∀ (pins : List (Addr × Obj)) (s : Shared) (σ : St) (H : Hp) (x : V) (v : Value) (Q : VK), Inv X pins σ H s → RelV x v → r x H Q →
    wpAny (model X.prog X.w) X.A (f v) (EP X pins σ Q) X.xe s
/-- a call of a value that is known (a builtin, a type) with values -/
@[irreducible] def CallR (X : Cx) (f : Value) (r : List V → Hp → VK → Prop) : Prop :=
  ∀ (pins : List (Addr × Obj)) (s : Shared) (σ : St) (H : Hp) (xs : List V) (us : List Value) (Q : VK), Inv X pins σ H s → Vals xs us → r xs H Q →
    wpAny (model X.prog X.w) X.A (call f us) (EP X pins σ Q) X.xe s
/-- a value's truth -/
@[irreducible] def TruR (X : Cx) (r : V → Hp → (Bool → Hp → Prop) → Prop) : Prop :=
  ∀ (pins : List (Addr × Obj)) (s : Shared) (σ : St) (H : Hp) (x : V) (v : Value) (Q : Bool → Hp → Prop), Inv X pins σ H s → RelV x v → r x H Q →
    wpAny (model X.prog X.w) X.A (truthy v) (TP X pins σ Q) X.xe s

def tOp (r : R2) (ta tb : TE) : TE := fun σ H Q => ta σ H fun x H1 => tb σ H1 fun y H2 => r x y H2 Q
def tUn (r : V → Hp → VK → Prop) (ta : TE) : TE := fun σ H Q => ta σ H fun x H1 => r x H1 Q
/-- ints in, under C, and a value out -/
def rI (C : Int → Int → Prop) (g : Int → Int → V) : R2 := fun x y H Q => ∃ i j, x = .int i ∧ y = .int j ∧ C i j ∧ Q (g i j) H
def rI0 (g : Int → Int → V) : R2 := fun x y H Q => ∃ i j, x = .int i ∧ y = .int j ∧ Q (g i j) H
def rU (g : Int → V) : V → Hp → VK → Prop := fun x H Q => ∃ i, x = .int i ∧ Q (g i) H

section
variable {X : Cx} {a b c : Expr} {ta tb tc : TE} {pos : Pos}

theorem binT (ha : PE X a ta) (hb : PE X b tb) {pins : List (Addr × Obj)} {s : Shared} {σ : St} {H : Hp} {R : V → V → Hp → Prop} (I : Inv X pins σ H s)
    (h : ta σ H fun x H1 => tb σ H1 fun y H2 => R x y H2) {Q : Value → Shared → Prop} {f : Value → Value → Sem Value}
    (hf : ∀ v u s2 x y H2, Inv X pins σ H2 s2 → RelV x v → RelV y u → R x y H2 → wpAny (model X.prog X.w) X.A (f v u) Q X.xe s2) :
    wpAny (model X.prog X.w) X.A (eval a X.env) (fun v s₁ => wpAny (model X.prog X.w) X.A (eval b X.env) (fun u s₂ => wpAny (model X.prog X.w) X.A (f v u) Q X.xe s₂) X.xe s₁) X.xe s := by
  unfold PE at *
  exact by
    refine thn (ha pins s σ H _ I h) fun v s1 ⟨x, H1, I1, r1, q1⟩ => ?_
    refine thn (hb pins s1 σ H1 _ I1 q1) fun u s2 ⟨y, H2, I2, r2, q2⟩ => ?_
    exact hf v u s2 x y H2 I2 r1 r2 q2

theorem pe_op {op : Operator} {r : R2} (ho : OpR X (binaryOp op) r) (ha : PE X a ta) (hb : PE X b tb) : PE X (.BinOp a op b pos) (tOp r ta tb) := by
  unfold PE; unfold OpR at ho
  exact by
    intro pins s σ H Q I h
    exact wpAny_BinOp (binT ha hb I h fun v u s2 x y H2 I2 rx ry q => ho pins s2 σ H2 x y v u Q I2 rx ry q)

theorem pe_un {op : UnaryOp} {r : V → Hp → VK → Prop} (ho : UnR X (unaryOp op) r) (ha : PE X a ta) : PE X (.UnaryOp op a pos) (tUn r ta) := by
  unfold PE at *; unfold UnR at *
  exact by
    intro pins s σ H Q I h
    exact UnaryOp_ (thn (ha pins s σ H _ I h) fun v s1 ⟨x, H1, I1, r1, q1⟩ => ho pins s1 σ H1 x v Q I1 r1 q1)

/-! ### ints -/
theorem opI {f : Value → Value → Sem Value} {C : Int → Int → Prop} {g : Int → Int → Int}
    (rule : ∀ (i j : Int) (t u : Tok) (s : Shared) (Q : Value → Shared → Prop) (E : Value → Shared → Prop), C i j → Q (.int (g i j) s.toks) { s with toks := s.toks + 1 } → wpAny (model X.prog X.w) X.A (f (.int i t) (.int j u)) Q E s) :
    OpR X f (rI C fun i j => .int (g i j)) := by
  unfold OpR at *
  exact by
    intro pins s σ H x y v u Q I rx ry h
    obtain ⟨i, j, rfl, rfl, hc, q⟩ := h
    obtain ⟨t, rfl⟩ := rx
    obtain ⟨t', rfl⟩ := ry
    exact rule i j t t' s _ _ hc ⟨.int (g i j), H, I.tok _, ⟨_, rfl⟩, q⟩

theorem opI0 {f : Value → Value → Sem Value} {g : Int → Int → Int}
    (rule : ∀ (i j : Int) (t u : Tok) (s : Shared) (Q : Value → Shared → Prop) (E : Value → Shared → Prop), Q (.int (g i j) s.toks) { s with toks := s.toks + 1 } → wpAny (model X.prog X.w) X.A (f (.int i t) (.int j u)) Q E s) :
    OpR X f (rI0 fun i j => .int (g i j)) := by
  unfold OpR at *
  exact by
    intro pins s σ H x y v u Q I rx ry h
    obtain ⟨i, j, rfl, rfl, q⟩ := h
    obtain ⟨t, rfl⟩ := rx
    obtain ⟨t', rfl⟩ := ry
    exact rule i j t t' s _ _ ⟨.int (g i j), H, I.tok _, ⟨_, rfl⟩, q⟩

theorem opB0 {f : Value → Value → Sem Value} {g : Int → Int → Bool}
    (rule : ∀ (i j : Int) (t u : Tok) (s : Shared) (Q : Value → Shared → Prop) (E : Value → Shared → Prop), Q (.bool (g i j)) s → wpAny (model X.prog X.w) X.A (f (.int i t) (.int j u)) Q E s) :
    OpR X f (rI0 fun i j => .bl (g i j)) := by
  unfold OpR at *
  exact by
    intro pins s σ H x y v u Q I rx ry h
    obtain ⟨i, j, rfl, rfl, q⟩ := h
    obtain ⟨t, rfl⟩ := rx
    obtain ⟨t', rfl⟩ := ry
    exact rule i j t t' s _ _ ⟨.bl (g i j), H, I, rfl, q⟩

def CDiv (i j : Int) : Prop := 0 < j ∧ j < 1073741824
def CPow (i j : Int) : Prop := 0 ≤ j ∧ j ≤ 1000000 ∧ i.natAbs < 2 ^ 64
def CMul (i j : Int) : Prop := (-(2 ^ 64) < i ∧ i < 2 ^ 64) ∨ (-(2 ^ 64) < j ∧ j < 2 ^ 64)
theorem CMul.ok {i j : Int} (h : CMul i j) : IntMulOk i j := by
  rcases h with ⟨h1, h2⟩ | ⟨h1, h2⟩
  · exact .of_left (intBits_le_64 h1 h2)
  · exact .of_right (intBits_le_64 h1 h2)
theorem op_add : OpR X (binaryOp .Add) (rI0 fun i j => .int (i + j)) := by
  first
  | exact (opI0 fun _ _ _ _ _ _ _ q => add_int q)
  | (unfold OpR at *; exact (opI0 fun _ _ _ _ _ _ _ q => add_int q))

theorem op_sub : OpR X (binaryOp .Sub) (rI0 fun i j => .int (i - j)) := by
  first
  | exact (opI0 fun _ _ _ _ _ _ _ q => sub_int q)
  | (unfold OpR at *; exact (opI0 fun _ _ _ _ _ _ _ q => sub_int q))

theorem op_mul : OpR X (binaryOp .Mult) (rI CMul fun i j => .int (i * j)) := by
  first
  | exact (opI fun _ _ _ _ _ _ _ hc q => mul_int q hc.ok)
  | (unfold OpR at *; exact (opI fun _ _ _ _ _ _ _ hc q => mul_int q hc.ok))

/-- // by a positive divisor -/
theorem op_fdiv : OpR X (binaryOp .FloorDiv) (rI CDiv fun i j => .int (i / j)) := opI fun i j _ _ _ _ _ hc q => by
  have h1 : (0 : Int) < j := hc.1
  have h2 : j < 1073741824 := hc.2
  exact floordiv_int (by omega) (by rw [Int.fdiv_eq_ediv_of_nonneg i (by omega)]; exact q) (.inl (PyProof.noPylong_small (by omega)))
/-- % by a positive divisor of any size -/
theorem op_mod : OpR X (binaryOp .Mod) (rI (fun _ j => 0 < j) fun i j => .int (i % j)) := opI fun i j _ _ _ _ _ hc q => by
  have h1 : (0 : Int) < j := hc
  exact mod_int' (by omega) (by rw [Int.fmod_eq_emod_of_nonneg i (by omega)]; exact q)
theorem op_pow : OpR X (binaryOp .Pow) (rI CPow fun i j => .int (i ^ j.toNat)) := by
  first
  | exact (opI fun _ _ _ _ _ _ _ hc q => pow_int_small hc.1 hc.2.1 hc.2.2 q)
  | (unfold OpR at *; exact (opI fun _ _ _ _ _ _ _ hc q => pow_int_small hc.1 hc.2.1 hc.2.2 q))

theorem unI {f : Value → Sem Value} {g : Int → Int}
    (rule : ∀ (i : Int) (t : Tok) (s : Shared) (Q : Value → Shared → Prop) (E : Value → Shared → Prop), Q (.int (g i) s.toks) { s with toks := s.toks + 1 } → wpAny (model X.prog X.w) X.A (f (.int i t)) Q E s) :
    UnR X f (rU fun i => .int (g i)) := by
  unfold UnR at *
  exact by
    intro pins s σ H x v Q I rx h
    obtain ⟨i, rfl, q⟩ := h
    obtain ⟨t, rfl⟩ := rx
    exact rule i t s _ _ ⟨.int (g i), H, I.tok _, ⟨_, rfl⟩, q⟩

theorem un_neg : UnR X (unaryOp .USub) (rU fun i => .int (-i)) := by
  first
  | exact (unI fun _ _ _ _ _ q => neg_int q)
  | (unfold UnR at *; exact (unI fun _ _ _ _ _ q => neg_int q))

/-! ### bools among ints: n += (a < b) -/
end

/-! ### comparisons -/
/-- the scalars that == tells apart as data does -/
def scal : V → V → Bool
  | .non, .non => true | .non, .int _ => true | .int _, .non => true | .non, .bl _ => true | .bl _, .non => true | .non, .str _ => true | .str _, .non => true
  | .int _, .int _ => true | .bl _, .bl _ => true | .str _, .str _ => true | .byt _, .byt _ => true
  | .int _, .str _ => true | .str _, .int _ => true | .bl _, .str _ => true | .str _, .bl _ => true
  | _, _ => false
def rEq : R2 := fun x y H Q => scal x y = true ∧ Q (.bl (decide (x = y))) H
def rNe : R2 := fun x y H Q => scal x y = true ∧ Q (.bl (!decide (x = y))) H

theorem dec_int {i j : Int} : decide (V.int i = V.int j) = (i == j) := by
  rw [Bool.eq_iff_iff]
  simp
theorem dec_bl {i j : Bool} : decide (V.bl i = V.bl j) = (i == j) := by
  rw [Bool.eq_iff_iff]
  simp
theorem dec_str {i j : Str} : decide (V.str i = V.str j) = (i == j) := by
  rw [Bool.eq_iff_iff]
  simp
theorem dec_byt {i j : Array UInt8} : decide (V.byt i = V.byt j) = (i.toList == j.toList) := by
  rw [Bool.eq_iff_iff]
  cases i
  cases j
  simp

section
variable {X : Cx} {a b c : Expr} {ta tb tc : TE} {pos : Pos}
theorem fin_bl {pins : List (Addr × Obj)} {σ : St} {H : Hp} {s : Shared} {Q : VK} {k k' : Bool} (I : Inv X pins σ H s) (q : Q (.bl k) H) (e : k = k') : EP X pins σ Q (.bool k') s := by
  subst e
  exact ⟨.bl k, H, I, rfl, q⟩
theorem op_eq : OpR X (compareOp .Eq) rEq := by
  unfold OpR at *
  exact by
    intro pins s σ H x y v u Q I rx ry h
    obtain ⟨hs, q⟩ := h
    cases x with
    | non =>
      cases rx
      cases y with
      | non => cases ry; exact PySem.EqNone.eq_none_none (fin_bl I q (by simp))
      | bl j => cases ry; exact PySem.EqNone.eq_none_bool (fin_bl I q (by simp))
      | int j => obtain ⟨t', rfl⟩ := ry; exact PySem.EqNone.eq_none_int (fin_bl I q (by simp))
      | str j => obtain ⟨t', rfl⟩ := ry; exact PySem.EqNone.eq_none_str (fin_bl I q (by simp))
      | _ => exact absurd (show false = true from hs) Bool.false_ne_true
    | bl i =>
      cases rx
      cases y with
      | non => cases ry; exact PySem.EqNone.eq_bool_none (fin_bl I q (by simp))
      | bl j => cases ry; exact eq_bool (fin_bl I q dec_bl)
      | str j => obtain ⟨t', rfl⟩ := ry; exact PySem.EqMixed.eq_bool_str (fin_bl I q (by simp))
      | _ => exact absurd (show false = true from hs) Bool.false_ne_true
    | int i =>
      obtain ⟨t, rfl⟩ := rx
      cases y with
      | non => cases ry; exact PySem.EqNone.eq_int_none (fin_bl I q (by simp))
      | int j => obtain ⟨t', rfl⟩ := ry; exact eq_int (fin_bl I q dec_int)
      | str j => obtain ⟨t', rfl⟩ := ry; exact PySem.EqMixed.eq_int_str (fin_bl I q (by simp))
      | _ => exact absurd (show false = true from hs) Bool.false_ne_true
    | str i =>
      obtain ⟨t, rfl⟩ := rx
      cases y with
      | non => cases ry; exact PySem.EqNone.eq_str_none (fin_bl I q (by simp))
      | bl j => cases ry; exact PySem.EqMixed.eq_str_bool (fin_bl I q (by simp))
      | int j => obtain ⟨t', rfl⟩ := ry; exact PySem.EqMixed.eq_str_int (fin_bl I q (by simp))
      | str j => obtain ⟨t', rfl⟩ := ry; exact eq_str (fin_bl I q dec_str)
      | _ => exact absurd (show false = true from hs) Bool.false_ne_true
    | byt i =>
      obtain ⟨t, rfl⟩ := rx
      cases y with
      | byt j => obtain ⟨t', rfl⟩ := ry; exact PySem.W.eq_bytes (fin_bl I q dec_byt)
      | _ => exact absurd (show false = true from hs) Bool.false_ne_true
    | _ => cases y <;> exact absurd (show false = true from hs) Bool.false_ne_true

theorem op_ne : OpR X (compareOp .NotEq) rNe := by
  unfold OpR at *
  exact by
    intro pins s σ H x y v u Q I rx ry h
    obtain ⟨hs, q⟩ := h
    cases x with
    | non =>
      cases rx
      cases y with
      | non => cases ry; exact PySem.EqNone.ne_none_none (fin_bl I q (by simp))
      | bl j => cases ry; exact PySem.EqNone.ne_none_bool (fin_bl I q (by simp))
      | int j => obtain ⟨t', rfl⟩ := ry; exact PySem.EqNone.ne_none_int (fin_bl I q (by simp))
      | str j => obtain ⟨t', rfl⟩ := ry; exact PySem.EqNone.ne_none_str (fin_bl I q (by simp))
      | _ => exact absurd (show false = true from hs) Bool.false_ne_true
    | bl i =>
      cases rx
      cases y with
      | non => cases ry; exact PySem.EqNone.ne_bool_none (fin_bl I q (by simp))
      | bl j => cases ry; exact ne_bool (fin_bl I q (congrArg not dec_bl))
      | str j => obtain ⟨t', rfl⟩ := ry; exact PySem.EqMixed.ne_bool_str (fin_bl I q (by simp))
      | _ => exact absurd (show false = true from hs) Bool.false_ne_true
    | int i =>
      obtain ⟨t, rfl⟩ := rx
      cases y with
      | non => cases ry; exact PySem.EqNone.ne_int_none (fin_bl I q (by simp))
      | int j => obtain ⟨t', rfl⟩ := ry; exact ne_int (fin_bl I q (congrArg not dec_int))
      | str j => obtain ⟨t', rfl⟩ := ry; exact PySem.EqMixed.ne_int_str (fin_bl I q (by simp))
      | _ => exact absurd (show false = true from hs) Bool.false_ne_true
    | str i =>
      obtain ⟨t, rfl⟩ := rx
      cases y with
      | non => cases ry; exact PySem.EqNone.ne_str_none (fin_bl I q (by simp))
      | bl j => cases ry; exact PySem.EqMixed.ne_str_bool (fin_bl I q (by simp))
      | int j => obtain ⟨t', rfl⟩ := ry; exact PySem.EqMixed.ne_str_int (fin_bl I q (by simp))
      | str j => obtain ⟨t', rfl⟩ := ry; exact ne_str (fin_bl I q (congrArg not dec_str))
      | _ => exact absurd (show false = true from hs) Bool.false_ne_true
    | byt i =>
      obtain ⟨t, rfl⟩ := rx
      cases y with
      | byt j => obtain ⟨t', rfl⟩ := ry; exact PySem.W.ne_bytes (fin_bl I q (congrArg not dec_byt))
      | _ => exact absurd (show false = true from hs) Bool.false_ne_true
    | _ => cases y <;> exact absurd (show false = true from hs) Bool.false_ne_true

theorem op_lt : OpR X (compareOp .Lt) (rI0 fun i j => .bl (decide (i < j))) := by
  first
  | exact (opB0 fun _ _ _ _ _ _ _ q => lt_int q)
  | (unfold OpR at *; exact (opB0 fun _ _ _ _ _ _ _ q => lt_int q))

theorem op_le : OpR X (compareOp .LtE) (rI0 fun i j => .bl (decide (i ≤ j))) := by
  first
  | exact (opB0 fun _ _ _ _ _ _ _ q => le_int q)
  | (unfold OpR at *; exact (opB0 fun _ _ _ _ _ _ _ q => le_int q))

theorem op_gt : OpR X (compareOp .Gt) (rI0 fun i j => .bl (decide (j < i))) := by
  first
  | exact (opB0 fun _ _ _ _ _ _ _ q => gt_int q)
  | (unfold OpR at *; exact (opB0 fun _ _ _ _ _ _ _ q => gt_int q))

theorem op_ge : OpR X (compareOp .GtE) (rI0 fun i j => .bl (decide (j ≤ i))) := by
  first
  | exact (opB0 fun _ _ _ _ _ _ _ q => ge_int q)
  | (unfold OpR at *; exact (opB0 fun _ _ _ _ _ _ _ q => ge_int q))

theorem nomark (b : Expr) {op : CmpOp} (h : op ≠ .In := by decide) (h2 : op ≠ .NotIn := by decide) : behindInMarks op b = false := by
  have e1 : (op == CmpOp.In) = false := by cases op <;> first | rfl | exact absurd rfl h
  have e2 : (op == CmpOp.NotIn) = false := by cases op <;> first | rfl | exact absurd rfl h2
  cases b <;> simp [behindInMarks, e1, e2]
/-- a comparison as a value; hm: nomark b, or (for in, not in) by with_unfolding_all rfl -/
theorem pe_cmpR {op : CmpOp} {r : R2} (ho : OpR X (compareOp op) r) (ha : PE X a ta) (hb : PE X b tb) (hm : behindInMarks op b = false) : PE X (.Compare a [op] [b] pos) (tOp r ta tb) := by
  unfold PE; unfold OpR at ho
  exact by
    intro pins s σ H Q I h
    exact wpAny_Compare1 (binT ha hb I h fun v u s2 x y H2 I2 rx ry q => ho pins s2 σ H2 x y v u Q I2 rx ry q) hm

/-- a reading of a value as a test -/
def tTest (t : TE) : TT := fun σ H Q => t σ H fun x H' => ∃ k, x = .bl k ∧ Q k H'
theorem pt_cmpR {op : CmpOp} {r : R2} (ho : OpR X (compareOp op) r) (ha : PE X a ta) (hb : PE X b tb) (hm : behindInMarks op b = false) : PT X (.Compare a [op] [b] pos) (tTest (tOp r ta tb)) := by
  unfold PE at *; unfold PT at *; unfold OpR at *
  exact by
    intro pins s σ H Q I h
    refine wpAny_isTrue_Compare1 (thn (ha pins s σ H _ I h) fun v s1 ⟨x, H1, I1, r1, q1⟩ => thn (hb pins s1 σ H1 _ I1 q1) fun u s2 ⟨y, H2, I2, r2, q2⟩ =>
      thn (ho pins s2 σ H2 x y v u _ I2 r1 r2 q2) fun c s3 ⟨z, H3, I3, r3, k, e, q3⟩ => ?_) hm
    subst e
    cases r3
    exact wpAny_truthy_bool ⟨H3, I3, q3⟩

/-- a op1 b op2 c -/
def tChain (r r' : R2) (ta tb tc : TE) : TE := fun σ H Q => ta σ H fun x H1 => tb σ H1 fun y H2 => r x y H2 fun z H3 => ∃ k, z = .bl k ∧
  (if k = true then tc σ H3 fun w' H4 => r' y w' H4 Q else Q (.bl false) H3)
theorem pe_chain {op op' : CmpOp} {r r' : R2} (ho : OpR X (compareOp op) r) (ho' : OpR X (compareOp op') r') (ha : PE X a ta) (hb : PE X b tb) (hc : PE X c tc)
    (hm : lastMarks [op, op'] [b, c] = false := by with_unfolding_all rfl) : PE X (.Compare a [op, op'] [b, c] pos) (tChain r r' ta tb tc) := by
  unfold PE at *; unfold OpR at *
  exact by
    intro pins s σ H Q I h
    refine Compare_chain (thn (ha pins s σ H _ I h) fun v s1 ⟨x, H1, I1, r1, q1⟩ => chain_link (thn (hb pins s1 σ H1 _ I1 q1) fun u s2 ⟨y, H2, I2, r2, q2⟩ =>
      thn (ho pins s2 σ H2 x y v u _ I2 r1 r2 q2) fun d s3 ⟨z, H3, I3, r3, k, e, q3⟩ => ?_)) hm
    subst e
    cases r3
    refine wpAny_truthy_bool ?_
    cases k with
    | false => exact ite_ff ⟨.bl false, H3, I3, rfl, q3⟩
    | true => exact ite_tt (chain_last (thn (hc pins s3 σ H3 _ I3 q3) fun w' s4 ⟨z', H4, I4, r4, q4⟩ => ho' pins s4 σ H4 y z' u w' Q I4 r2 r4 q4))

theorem pt_chain {op op' : CmpOp} {r r' : R2} (ho : OpR X (compareOp op) r) (ho' : OpR X (compareOp op') r') (ha : PE X a ta) (hb : PE X b tb) (hc : PE X c tc)
    (hm : lastMarks [op, op'] [b, c] = false := by with_unfolding_all rfl) : PT X (.Compare a [op, op'] [b, c] pos) (tTest (tChain r r' ta tb tc)) := by
  unfold PE at *; unfold PT at *; unfold OpR at *
  exact by
    intro pins s σ H Q I h
    refine isTrue_chain (thn (ha pins s σ H _ I h) fun v s1 ⟨x, H1, I1, r1, q1⟩ => test_link (thn (hb pins s1 σ H1 _ I1 q1) fun u s2 ⟨y, H2, I2, r2, q2⟩ =>
      thn (ho pins s2 σ H2 x y v u _ I2 r1 r2 q2) fun d s3 ⟨z, H3, I3, r3, k, e, q3⟩ => ?_)) hm
    subst e
    cases r3
    refine wpAny_truthy_bool ?_
    cases k with
    | false =>
      obtain ⟨k', e', q'⟩ := q3
      cases e'
      exact ite_ff ⟨H3, I3, q'⟩
    | true =>
      refine ite_tt (test_last (thn (hc pins s3 σ H3 _ I3 q3) fun w' s4 ⟨z', H4, I4, r4, q4⟩ => thn (ho' pins s4 σ H4 y z' u w' _ I4 r2 r4 q4) fun d' s5 ⟨z2, H5, I5, r5, k2, e2, q5⟩ => ?_))
      subst e2
      cases r5
      exact wpAny_truthy_bool ⟨H5, I5, q5⟩

/-! ### truth -/
/-- a value's truth by the abstract heap -/
def TruV (K : PySem.W.Frag) (x : V) (H : Hp) (k : Bool) : Prop :=
  match x with
  | .non => k = false
  | .bl b => k = b
  | .int i => k = (i != 0)
  | .str y => y.length ≤ sizeLine ∧ k = ((y.length : Int) != 0)
  | .byt y => y.size ≤ sizeLine ∧ k = ((y.size : Int) != 0)
  | .ref p => (∃ xs, SqL K H p xs ∧ k = !xs.isEmpty) ∨ (∃ xs, SqT K H p xs ∧ k = !xs.isEmpty) ∨ ∃ kvs, H p = some (.dK kvs) ∧ k = !kvs.isEmpty
  | _ => False
theorem isEmpty_kv {κ : Type} {kvs : List (κ × V)} {vs : List (κ × Value)} (r : KV kvs vs) : (!vs.isEmpty) = !kvs.isEmpty := by
  cases r <;> rfl
theorem isEmpty_of {xs : List V} {its : List Value} (r : Vals xs its) : (!its.toArray.isEmpty) = !xs.isEmpty := by
  cases r <;> simp
theorem line63 : (sizeLine : Nat) < 2 ^ 63 := by rw [sizeLine_eq]; decide
theorem tru_ok : TruR X (fun x H Q => ∃ k, TruV X.K x H k ∧ Q k H) := by
  unfold TruR at *
  exact by
    intro pins s σ H x v Q I rx h
    obtain ⟨k, e, q⟩ := h
    have hl := line63
    have hs : sizeLine = 16777216 := sizeLine_eq
    cases x with
    | non =>
      cases rx
      have e' : k = false := e
      subst e'
      exact truthy_none ⟨H, I, q⟩
    | bl b =>
      cases rx
      have e' : k = b := e
      subst e'
      exact wpAny_truthy_bool ⟨H, I, q⟩
    | int i =>
      obtain ⟨t, rfl⟩ := rx
      have e' : k = (i != 0) := e
      subst e'
      exact PySem.P.truthy_int ⟨H, I, q⟩
    | str y =>
      obtain ⟨t, rfl⟩ := rx
      obtain ⟨hy, e'⟩ : y.length ≤ sizeLine ∧ k = ((y.length : Int) != 0) := e
      subst e'
      exact PySem.P.truthy_str (by omega) ⟨H, I.tok _, q⟩
    | byt y =>
      obtain ⟨t, rfl⟩ := rx
      obtain ⟨hy, e'⟩ : y.size ≤ sizeLine ∧ k = ((y.size : Int) != 0) := e
      subst e'
      exact PySem.W.truthy_bytes (by omega) ⟨H, I.tok _, q⟩
    | ref p =>
      cases rx
      have e' : (∃ xs, SqL X.K H p xs ∧ k = !xs.isEmpty) ∨ (∃ xs, SqT X.K H p xs ∧ k = !xs.isEmpty) ∨ ∃ kvs, H p = some (.dK kvs) ∧ k = !kvs.isEmpty := e
      rcases e' with ⟨xs, hx, e'⟩ | ⟨xs, hx, e'⟩ | ⟨kvs, hx, e'⟩
      · subst e'
        obtain ⟨its, r, pl, hz⟩ := I.list hx
        have hlen := r.length
        exact wpAny_truthy_list pl.isList (by simp only [List.size_toArray]; omega) ⟨H, I.tok _, by rw [isEmpty_of r]; exact q⟩
      · subst e'
        obtain ⟨its, r, pl, hz⟩ := I.tuple hx
        have hlen := r.length
        exact truthy_tuple pl (by simp only [List.size_toArray]; omega) ⟨H, I.tok _, by rw [isEmpty_of r]; exact q⟩
      · subst e'
        obtain ⟨hz, hS, vs, r, m⟩ : kvs.length ≤ sizeLine ∧ (p == sysModules) = false ∧ ∃ vs, KV kvs vs ∧ s.heap.DictOf (mixKind X.prog X.w) p vs := I.hok p _ hx
        have hlen : kvs.length = vs.length := Paired.length r
        exact wpAny_truthy_dict hS m (by omega) ⟨H, I.tok _, by rw [isEmpty_kv r]; exact q⟩
    | _ => exact (show False from e).elim

/-- any expression whose test is its value's truth (a name, a call, a subscript, a field ..: he by fun _ => rfl) -/
theorem pt_truth (ha : PE X a ta) (he : ∀ whole, isTrue a X.env whole = (do let v ← whole; standAt a.pos; holding [v] (truthy v))) :
    PT X a (fun σ H Q => ta σ H fun x H' => ∃ k, TruV X.K x H' k ∧ Q k H') := by
  unfold PE at *; unfold PT at *; have tru_ok := tru_ok (X := X); unfold TruR at tru_ok
  exact by
    intro pins s σ H Q I h
    exact isTrue_plain (thn (ha pins s σ H _ I h) fun v s1 ⟨x, H1, I1, r1, q1⟩ => tru_ok pins s1 σ H1 x v Q I1 r1 q1) (he _)

/-! ### strs and bytes -/
/-! ### scalar builtins, by CallR -/
theorem vals1 {x : V} {us : List Value} (r : Vals [x] us) : ∃ u, us = [u] ∧ RelV x u := by
  cases r with
  | cons r1 r2 => cases r2; exact ⟨_, rfl, r1⟩
theorem vals2 {x y : V} {us : List Value} (r : Vals [x, y] us) : ∃ u w', us = [u, w'] ∧ RelV x u ∧ RelV y w' := by
  cases r with
  | cons r1 r2 =>
    cases r2 with
    | cons r3 r4 => cases r4; exact ⟨_, _, rfl, r1, r3⟩
theorem call_min2 (hc : X.calm = true) : CallR X (.builtin "min") (fun xs H Q => ∃ i j, xs = [.int i, .int j] ∧ Q (.int (if j < i then j else i)) H) := by
  unfold CallR at *
  exact by
    intro pins s σ H xs us Q I r h
    obtain ⟨i, j, rfl, q⟩ := h
    obtain ⟨u, w', rfl, ⟨t, rfl⟩, ⟨t', rfl⟩⟩ := vals2 r
    refine min_two_ints (I.ok.hd hc) fun h' tk k => ⟨_, H, I.kept k, ?_, q⟩
    by_cases hj : j < i
    · rw [if_pos hj, if_pos hj]; exact ⟨_, rfl⟩
    · rw [if_neg hj, if_neg hj]; exact ⟨_, rfl⟩

end
end L2

namespace L2
open PySem PySem.Spec PyProof.Rows

/-! ### an instance, its attributes a map -/
structure ObjM (h : Heap) (x dx C : Addr) (mA : Str → Option Value) : Prop where
  obj : h.get? x = some (PySem.W.instObj C dx)
  ns : h.Ns1 dx mA
  ne : dx ≠ x

theorem lookIn_ns {h : Heap} {dx : Addr} {mA : Str → Option Value} (n : h.Ns1 dx mA) : ∃ od, h.get? dx = some od ∧ ∀ name, PySem.W.lookIn name od = some (mA name) := by
  obtain ⟨o, es, ep, ho, hd, hk, _, hm⟩ := n
  refine ⟨o, ho, fun name => ?_⟩
  have e := hm name
  unfold nsFind findBy at e
  rw [← Array.find?_toList] at e
  unfold PySem.W.lookIn
  rw [hd]
  dsimp only
  split
  · rename_i y q
    rw [q] at e
    exact congrArg some e
  · rename_i q
    rw [q] at e
    have a : es.toList.any (·.refKey) = false := by
      rw [List.any_eq_false]
      intro y hy
      obtain ⟨z, t, hkey⟩ := hk y (Array.mem_toList_iff.mp hy)
      simp [DictEntry.refKey, hkey]
    have a' : ¬ es.toList.any (·.refKey) = true := by rw [a]; exact Bool.false_ne_true
    rw [if_neg a']
    exact congrArg some e

theorem ObjM.look {h : Heap} {x dx C : Addr} {mA : Str → Option Value} (I : ObjM h x dx C mA) : ∃ od, PySem.W.InstAt h x (PySem.W.instObj C dx) C (some od) ∧ ∀ name, PySem.W.lookIn name od = some (mA name) :=
  let ⟨od, ho, hl⟩ := lookIn_ns I.ns
  ⟨od, ⟨I.obj, rfl, rfl, ho⟩, hl⟩

section
variable {prog : Program} {w : World} {A : Around} {E : Value → Shared → Prop} {s : Shared} {K : PySem.W.Frag} {x dx C f : Addr} {mA : Str → Option Value} {name : Str} {v : Value}

end

/-! ### the attributes as a list of pairs -/
section
variable {P : Program} {w : World} {H H' : Hp} {h h' : Heap} {a C dx : Addr} {fs fs' : List (Str × V)}
theorem ins_get (hok : HOk P w H h) (e : H a = some (.ins C dx fs)) : ∃ mA, ObjM h a dx C mA ∧ (∀ f, RelO (fs.lookup f) (mA f)) ∧ PySem.Within mA (fs.map (·.1)) ∧ fs.length ≤ 1000 ∧ H dx = some (.own a) := by
  obtain ⟨d, z, ne, ob, mA, n, r, q⟩ := (show ObjOk P w H h a (.ins C dx fs) from hok a _ e)
  exact ⟨mA, ⟨ob, n, ne⟩, r, q, z, d⟩
end

/-! ### what of the text a class must have -/
structure Cls (K : PySem.W.Frag) (C : Addr) : Prop where
  pg : PySem.W.plainGet K C Str.empty = true
  hd : PySem.W.hasDictIn K C = true
  po : PySem.W.plainOver K C = true
  sa : PySem.W.findIn K (.ref C) "__setattr__" = some (some (.builtin "object.__setattr__"))
theorem Cls.get {K : PySem.W.Frag} {C : Addr} (c : Cls K C) (f : Str) : PySem.W.plainGet K C f = true := c.pg
section
variable {X : Cx} {pins : List (Addr × Obj)} {σ : St} {H : Hp} {s : Shared} {a C dx : Addr} {fs : List (Str × V)} {f : Str} {v : V} {A : Around} {E : Value → Shared → Prop}

end

/-! ### readings and rules -/
section
variable {X : Cx} {o e value : Expr} {f : Str} {pos pos' tpos : Pos} {ta tv : TE}
end

/-! ### isinstance -/
section
variable {X : Cx} {pins : List (Addr × Obj)} {σ : St} {H : Hp} {s : Shared} {A : Around} {E : Value → Shared → Prop} {Q : Value → Shared → Prop} {c : Value} {b : Bool}
/-- the type of a value, as the fragment's deciders take it; for an instance its class -/
inductive TyOf (K : PySem.W.Frag) (H : Hp) : V → Value → Prop where
  | non : TyOf K H .non (.type "NoneType")
  | bl (x : Bool) : TyOf K H (.bl x) (.type "bool")
  | int (i : Int) : TyOf K H (.int i) (.type "int")
  | str (x : Str) : TyOf K H (.str x) (.type "str")
  | flt (x : UInt64) : TyOf K H (.flt x) (.type "float")
  | lst {a : Addr} {xs : List V} (e : H a = some (.lst xs)) : TyOf K H (.ref a) (.type "list")
  | frz {a : Addr} {o : Obj} {xs : List V} (e : H a = some (.frz o (.lst xs))) : TyOf K H (.ref a) (.type "list")
  | tup {a : Addr} {xs : List V} (e : H a = some (.tup xs)) : TyOf K H (.ref a) (.type "tuple")
  | dK {a : Addr} {kvs : List (Key × V)} (e : H a = some (.dK kvs)) : TyOf K H (.ref a) (.type "dict")
  | dT {a : Addr} {kvs : List (List Key × V)} (e : H a = some (.dT kvs)) : TyOf K H (.ref a) (.type "dict")
  | ins {a C dx : Addr} {fs : List (Str × V)} (e : H a = some (.ins C dx fs)) (cl : Cls K C) (ha : PySem.W.findIn K (.ref C) "__class__" = some (some (.builtin "object.__class__")))
      (hn : PySem.W.specialIn K (.builtin "object.__class__") "__get__" = some (some (.builtin "getset_descriptor.__get__"))) (htk : PySem.W.takesIn K (.builtin "object.__class__") = some true)
      (hm : PySem.W.mroIn K C (.type "object") = some true) : TyOf K H (.ref a) (.ref C)
/-- isinstance(x, c) for one class c, a built-in or an own one: kitOne's answer -/
theorem isinst_ok {x : V} {u t : Value} (I : Inv X pins σ H s) (rx : RelV x u) (ty : TyOf X.K H x t) (e : PySem.W.kitOne X.K t c = some b) (h : ∀ tk, Q (.bool b) { s with toks := tk }) :
    wpAny (model X.prog X.w) A (call (.builtin "isinstance") [u, c]) Q E s := by
  cases ty with
  | non => cases (show u = Value.none from rx); exact PySem.W.kia_one PySem.W.kitx_none I.kIn True.intro e (fun z => nomatch z) h
  | bl y => cases (show u = Value.bool y from rx); exact PySem.W.kia_one PySem.W.kitx_bool I.kIn True.intro e (fun z => nomatch z) h
  | int i => obtain ⟨t, q⟩ := (show ∃ t, u = Value.int i t from rx); cases q; exact PySem.W.kia_one PySem.W.kitx_int I.kIn True.intro e (fun z => nomatch z) h
  | str y => obtain ⟨t, q⟩ := (show ∃ t, u = Value.str y t from rx); cases q; exact PySem.W.kia_one PySem.W.kitx_str I.kIn True.intro e (fun z => nomatch z) h
  | flt y => obtain ⟨t, q⟩ := (show ∃ t, u = Value.float y t from rx); cases q; exact PySem.W.kia_one PySem.W.kitx_float I.kIn True.intro e (fun z => nomatch z) h
  | @lst a xs ea =>
    cases (show u = Value.ref a from rx)
    obtain ⟨_, _, n, _, h1⟩ := (show ObjOk X.prog X.w H s.heap a (.lst xs) from I.hok a _ ea)
    exact PySem.W.kia_one PySem.W.kitx_list I.kIn ⟨_, h1, rfl⟩ e (fun z => nomatch z) h
  | @frz a ob xs ea =>
    cases (show u = Value.ref a from rx)
    obtain ⟨_, _, _, n, _, h1⟩ := (show ObjOk X.prog X.w H s.heap a (.frz ob (.lst xs)) from I.hok a _ ea)
    exact PySem.W.kia_one PySem.W.kitx_list I.kIn ⟨_, h1, rfl⟩ e (fun z => nomatch z) h
  | @tup a xs ea =>
    cases (show u = Value.ref a from rx)
    obtain ⟨_, _, _, p⟩ := (show ObjOk X.prog X.w H s.heap a (.tup xs) from I.hok a _ ea)
    obtain ⟨o, h1, h2, _⟩ := p
    exact PySem.W.kia_one PySem.W.kitx_tuple I.kIn ⟨o, h1, h2⟩ e (fun z => nomatch z) h
  | @dK a kvs ea =>
    cases (show u = Value.ref a from rx)
    obtain ⟨_, _, vs, _, p⟩ := (show ObjOk X.prog X.w H s.heap a (.dK kvs) from I.hok a _ ea)
    obtain ⟨o, es, ep, h1, h2, _⟩ := p
    exact PySem.W.kia_one PySem.W.kitx_dict I.kIn ⟨o, h1, h2.1⟩ e (fun z => nomatch z) h
  | @dT a kvs ea =>
    cases (show u = Value.ref a from rx)
    obtain ⟨_, _, xs, _, o, es, ep, h1, h2, _⟩ := (show ObjOk X.prog X.w H s.heap a (.dT kvs) from I.hok a _ ea)
    exact PySem.W.kia_one PySem.W.kitx_dict I.kIn ⟨o, h1, h2.1⟩ e (fun z => nomatch z) h
  | @ins a C dx fs ea cl ha hn htk hm =>
    cases (show u = Value.ref a from rx)
    obtain ⟨mA, O, _⟩ := ins_get I.hok ea
    obtain ⟨od, J, _⟩ := O.look
    exact PySem.W.kia_one (PySem.W.kitx_own (cl.get _) cl.hd ha hn htk hm) I.kIn J e (fun z => nomatch z) h
end
end L2

namespace L2
open PySem PySem.Spec PyProof.Rows

/-! ### room -/
structure Room (k : Nat) (A : Around) : Prop where
  hd : A.handled = none
  dp : A.depth + 3 * k + 5 < recursionLimit
  un : A.units + 16 * k + 200 < cLine
theorem Room.mono {j k : Nat} {A : Around} (r : Room k A) (h : j ≤ k) : Room j A := ⟨r.hd, by have := r.dp; omega, by have := r.un; omega⟩
theorem Room.deeper {k : Nat} {A : Around} (r : Room (k + 1) A) (env : Env) : Room k (A.deeper env) :=
  ⟨r.hd, by have := r.dp; show A.depth + 1 + 3 * k + 5 < _; omega, by have := r.un; show A.units + 3 + 16 * k + 200 < _; omega⟩
theorem Room.depth {k : Nat} {A : Around} (r : Room k A) : A.depth < recursionLimit := by have := r.dp; omega
theorem Room.units {k : Nat} {A : Around} (r : Room k A) : A.units + 64 < cLine := by have := r.un; omega
/-! ### argument lists and displays -/
def tNil : TA := fun _ H Q => Q [] H
def tCons (ta : TE) (tr : TA) : TA := fun σ H Q => ta σ H fun x H1 => tr σ H1 fun xs H2 => Q (x :: xs) H2
section
variable {X : Cx} {e : Expr} {es : List Expr} {te : TE} {t : TA} {pos : Pos}
theorem pa_nil : PA X [] tNil := by
  first
  | exact (fun _ _ _ _ H Q I h => Calls.spliced_nil ⟨[], H, I, .nil, h⟩)
  | (unfold PA at *; exact (fun _ _ _ _ H Q I h => Calls.spliced_nil ⟨[], H, I, .nil, h⟩))

theorem pa_cons (ha : PE X e te) (hr : PA X es t) (hs : starEach (e :: es) X.env = (false, eval e X.env) :: starEach es X.env := by rfl) : PA X (e :: es) (tCons te t) := by
  unfold PE at *; unfold PA at *
  exact by
    intro pos pins s σ H Q I h
    rw [hs]
    show wpAny _ _ (spliced ((false, eval e X.env) :: backTo pos (starEach es X.env))) _ _ s
    refine Calls.spliced_cons (thn (ha pins s σ H _ I h) fun u s1 ⟨x, H1, I1, r1, q1⟩ => ?_)
    exact thn (hr pos pins s1 σ H1 _ I1 q1) fun us s2 ⟨xs, H2, I2, r2, q2⟩ => ⟨x :: xs, H2, I2, .cons r1 r2, q2⟩

/-- a tuple, a list of written items -/
def tTup (t : TA) : TE := fun σ H Q => t σ H fun xs H1 => xs.length ≤ sizeLine ∧ ∀ p, H1 p = none → Q (.ref p) (upd H1 p (.tup xs))
def tLst (t : TA) : TE := fun σ H Q => t σ H fun xs H1 => xs.length ≤ sizeLine ∧ ∀ p, H1 p = none → Q (.ref p) (upd H1 p (.lst xs))
theorem pe_tup {x1} (h : PA X es t) : PE X (.Tuple es x1 pos) (tTup t) := by
  unfold PE at *; unfold PA at *
  exact by
    intro pins s σ H Q I hq
    refine wpAny_Tuple_spliced (thn (h pos pins s σ H _ I hq) fun us s1 ⟨xs, H1, I1, r, z, q⟩ => ⟨by rw [← r.length]; exact z, ?_⟩)
    have hf : H1 s1.heap.objs.size = none := I1.hok.fresh (Nat.le_refl _)
    refine ⟨.ref s1.heap.objs.size, upd H1 s1.heap.objs.size (.tup xs), I1.laid (t' := s1.toks) (fun b u e => Heap.get?_push_of_some _ e) (Nat.le_refl _) ?_, rfl, q _ hf⟩
    exact ⟨z, us, r, ⟨_, Heap.get?_push_size _ rfl, rfl, _, rfl⟩⟩

theorem pe_lst (h : PA X es t) : PE X (.List es pos) (tLst t) := by
  unfold PE at *; unfold PA at *
  exact by
    intro pins s σ H Q I hq
    refine wpAny_List_spliced (thn (h pos pins s σ H _ I hq) fun us s1 ⟨xs, H1, I1, r, z, q⟩ => ⟨by rw [← r.length]; exact z, ?_⟩)
    have hf : H1 s1.heap.objs.size = none := I1.hok.fresh (Nat.le_refl _)
    refine ⟨.ref s1.heap.objs.size, upd H1 s1.heap.objs.size (.lst xs), I1.laid (t' := s1.toks) (fun b u e => Heap.get?_push_of_some _ e) (Nat.le_refl _) ?_, rfl, q _ hf⟩
    exact ⟨z, us, 0, r, Heap.get?_push_size _ rfl⟩

end

/-! ### what a def promises -/
/-- a def's promise: the bound arguments in the parameters' order, the heap, the wanted end, the wanted exception -/
abbrev Sp := List V → Hp → VK → XK → Prop
/-- how an exception lies behind a call (file 08 gives it): the callers' frames, abstract heap and state ahead of the call, the wish, the exception, the state -/
abbrev CXT := List Env → Hp → Shared → XK → Value → Shared → Prop

/-- the state at a call -/
structure Env0 (P : Program) (w : World) (K : PySem.W.Frag) (mg : Str → Option Value) (base : Heap) (A : Around) (outer : List Env) (s : Shared) (H : Hp) : Prop where
  frames : A.frames = some outer
  mod : Mod K mg base
  bs : ∀ b o, base.get? b = some o → s.heap.get? b = some o ∧ H b = none
  bsz : base.objs.size ≤ s.heap.objs.size
  funs : s.heap.FunFrames base outer
  frf : ∀ b ∈ frs outer, H b = none
  hok : HOk P w H s.heap
  bare : AllBare s.gens
/-- a call's end -/
def CE (outer : List Env) (P : Program) (w : World) (H : Hp) (s : Shared) (Q : VK) (u : Value) (s' : Shared) : Prop :=
  ∃ v H', s'.os = s.os ∧ AllBare s'.gens ∧ Un (frs outer) [] H H' s.heap s'.heap ∧ HOk P w H' s'.heap ∧ RelV v u ∧ Q v H'
def CR (CX : CXT) (outer : List Env) (P : Program) (w : World) (H : Hp) (s : Shared) (Q : VK) (E : XK) (r : Result) (s' : Shared) : Prop :=
  match r with
  | .ok (.ret u) => CE outer P w H s Q u s'
  | .ok _ => False
  | .error e => CX outer H s E e s'
structure FnOk (P : Program) (w : World) (K : PySem.W.Frag) (mg : Str → Option Value) (base : Heap) (CX : CXT) (k : Nat) (f : Addr) (fd : FuncData) (ps : List Str) (sp : Sp) : Prop where
  len : ∀ vs H Q E, sp vs H Q E → vs.length = ps.length
  run : ∀ (A : Around) (outer : List Env) (s : Shared) (H : Hp) (args : Args) (us : List Value) (vs : List V) (Q : VK) (E : XK), Room k A → Env0 P w K mg base A outer s H → BindsTo s fd args (ps.zip us) → Vals vs us → sp vs H Q E →
    codeAny (model P w) A (.call (.ref f) args) (CR CX outer P w H s Q E) s
section
variable {X : Cx} {pins : List (Addr × Obj)} {σ : St} {H : Hp} {s s' : Shared}
/-- from a body: what a callee wants -/
theorem Inv.env0 (I : Inv X pins σ H s) : Env0 X.prog X.w X.K X.mg X.base X.A X.stack s H :=
  ⟨I.ok.frames, I.ok.mod, I.bs, Nat.le_trans I.ok.bsz I.sz, I.stack, I.stkFree, I.hok, I.bare⟩
/-- behind a call -/
theorem Inv.after {Q : VK} {u : Value} (I : Inv X pins σ H s) (h : CE X.stack X.prog X.w H s Q u s') : EP X pins σ Q u s' := by
  obtain ⟨v, H', os, bare, un, hok, r, q⟩ := h
  obtain ⟨hh, g, d, t, os'⟩ := s'
  obtain rfl : os' = s.os := os
  exact ⟨v, H', I.call (h' := hh) (g' := g) (d' := d) (t' := t) (ch := []) un hok bare (fun b z => absurd z (by simp)), r, q⟩
end

/-! ### calls -/
/-- f(..): the written arguments, then the defaults dvs; E: what is wanted of an exception -/
def tCall (sp : Sp) (dvs : List V) (E : XK) (t : TA) : TE := fun σ H Q => t σ H fun vs H1 => sp (vs ++ dvs) H1 Q E
/-- how the parameters are bound: us the positional arguments, kw the keywords' values by name, ds the defaults that fill up -/
def Binds (K : PySem.W.Frag) (fd : FuncData) (ps : List Str) (ds : List Value) : Prop :=
  ∀ (s : Shared) (us : List Value), K.In s.heap → (us ++ ds).length = ps.length → BindsTo s fd ⟨us, []⟩ (ps.zip (us ++ ds))
/-- every parameter is given -/
theorem Binds.all {K : PySem.W.Frag} {fd : FuncData} {ps : List Str} (h : ∀ us : List Value, us.length = ps.length → bindArgs fd ⟨us, []⟩ = pure (ps.zip us)) : Binds K fd ps [] := fun s us _ hl => by
  rw [List.append_nil] at hl ⊢
  exact .of_eq (h us hl)

/-- an exception of a callee reaches what this body wants of exceptions -/
def Passes (CX : CXT) (X : Cx) (E : XK) : Prop := ∀ (pins : List (Addr × Obj)) (σ : St) (H : Hp) (s : Shared) (e : Value) (s' : Shared), Inv X pins σ H s → CX X.stack H s E e s' → X.xe e s'

section
variable {X : Cx} {CX : CXT} {k : Nat} {f C : Addr} {fd : FuncData} {ps : List Str} {sp : Sp} {dvs : List V} {ds : List Value} {E : XK} {x m : Str} {p pos apos : Pos} {e o : Expr} {es : List Expr} {ta : TE} {t : TA}

/-- the callee runs -/
theorem run_fn {pins : List (Addr × Obj)} {σ : St} {H : Hp} {s : Shared} {Q : VK} {us : List Value} {vs : List V} (F : FnOk X.prog X.w X.K X.mg X.base CX k f fd ps sp) (hr : Room k X.A) (hb : Binds X.K fd ps ds) (hd : Vals dvs ds) (hx : Passes CX X E)
    (I : Inv X pins σ H s) (r : Vals vs us) (h : sp (vs ++ dvs) H Q E) : wpAny (model X.prog X.w) X.A (call (.ref f) us) (EP X pins σ Q) X.xe s := by
  have r2 : Vals (vs ++ dvs) (us ++ ds) := r.append hd
  have hl : (us ++ ds).length = ps.length := by rw [← r2.length]; exact F.len _ _ _ _ h
  refine wpAny_call (codeAny_mono (F.run X.A X.stack s H ⟨us, []⟩ (us ++ ds) (vs ++ dvs) Q E hr I.env0 (hb s us I.kIn hl) r2 h) fun r s' hq => ?_)
  cases r with
  | error e => exact hx pins σ H s e s' I hq
  | ok fl =>
    cases fl with
    | ret u => exact I.after hq
    | next => exact False.elim hq
    | brk => exact False.elim hq
    | cont => exact False.elim hq

theorem pe_call (F : FnOk X.prog X.w X.K X.mg X.base CX k f fd ps sp) (hr : Room k X.A) (hg : Gl X x) (hm : X.mg x = some (.ref f)) (hk : PySem.W.keepIn X.K (.ref f) = true) (hb : Binds X.K fd ps ds) (hd : Vals dvs ds) (hx : Passes CX X E)
    (ha : PA X (e :: es) t) (hdb : (x == ("__debug__" : Str)) = false := by decide) (he : starEach (e :: es) X.env = (false, eval e X.env) :: starEach es X.env := by rfl) (hpl : (backTo pos (starEach es X.env)).any (·.1) = false := by rfl) :
    PE X (.Call (.Name x p) (e :: es) [] pos) (tCall sp dvs E t) := by
  unfold PE at *; unfold PA at *
  exact by
    intro pins s σ H Q I h
    refine wpAny_Call_Name_kw (ld_glob I hg hm ?_ hdb)
    refine PySem.W.callWith_K (h₀ := X.base) I.ok.mod.kin hk (thn (ha pos pins s σ H _ I h) fun us s1 ⟨vs, H1, I1, r, q⟩ => ⟨I1.kIn, ?_⟩) he hpl
    exact run_fn F hr hb hd hx I1 r q

end

/-! ### keywords -/
section
variable {X : Cx} {CX : CXT} {k : Nat} {f C : Addr} {fd : FuncData} {ps ks : List Str} {sp : Sp} {E : XK} {x m : Str} {p pos apos kpos : Pos} {e o : Expr} {es : List Expr} {kws : List Keyword} {te ta : TE} {t tk : TA} {nm : Option Str}
variable {g : List Value → List Value → List Value} {gV : List V → List V → List V}
end

/-! ### a def's body keeps its promise -/
/-- names: the parameters first -/
structure FnScope (N P : List Str) (sc : Scope) : Prop where
  kind : sc.kind = .function
  co : sc.isCoroutine = false
  gen : sc.isGenerator = false
  nd : N.Nodup
  pre : N.take P.length = P
  par : ∀ x ∈ P, sc.names.lookup x = some .local ∨ sc.names.lookup x = some .cell
  nofree : ∀ y ∈ sc.names, y.2 ≠ .free

theorem bindL_out {kindOf : Str → Option NameKind} {x : Str} : ∀ {binds : List (Str × Value)} {m : Str → Option Value}, (∀ v, (x, v) ∉ binds) → bindL kindOf binds m x = m x
  | [], _, _ => rfl
  | (n, v) :: r, m, h => by
    unfold bindL
    rw [bindL_out fun w hw => h w (List.mem_cons_of_mem _ hw)]
    split
    · have : x ≠ n := by rintro rfl; exact h v List.mem_cons_self
      simp [this]
    · rfl
theorem bindC_out {kindOf : Str → Option NameKind} {x : Str} : ∀ {binds : List (Str × Value)} {m : Str → Option Value}, (∀ v, (x, v) ∉ binds) → bindC kindOf binds m x = m x
  | [], _, _ => rfl
  | (n, v) :: r, m, h => by
    unfold bindC
    rw [bindC_out fun w hw => h w (List.mem_cons_of_mem _ hw)]
    split
    · rfl
    · have : x ≠ n := by rintro rfl; exact h v List.mem_cons_self
      simp [this]
theorem bindL_get {kindOf : Str → Option NameKind} {x : Str} {v : Value} : ∀ {P : List Str} {vs : List Value} {i : Nat} {m : Str → Option Value}, P.Nodup → P[i]? = some x → vs[i]? = some v → kindOf x = some .local →
    bindL kindOf (P.zip vs) m x = some v
  | [], _, _, _, _, h, _, _ => by simp at h
  | _ :: _, [], _, _, _, _, h, _ => by simp at h
  | p :: P, w :: vs, 0, m, nd, h1, h2, hk => by
    simp at h1 h2; subst h1; subst h2
    show bindL kindOf ((p, w) :: P.zip vs) m p = _
    unfold bindL
    rw [bindL_out fun v hv => (List.nodup_cons.mp nd).1 (List.of_mem_zip hv).1, if_pos hk]
    simp
  | p :: P, w :: vs, i + 1, m, nd, h1, h2, hk => by
    show bindL kindOf ((p, w) :: P.zip vs) m x = _
    unfold bindL
    exact bindL_get (i := i) (List.nodup_cons.mp nd).2 (by simpa using h1) (by simpa using h2) hk
theorem bindC_get {kindOf : Str → Option NameKind} {x : Str} {v : Value} : ∀ {P : List Str} {vs : List Value} {i : Nat} {m : Str → Option Value}, P.Nodup → P[i]? = some x → vs[i]? = some v → kindOf x ≠ some .local →
    bindC kindOf (P.zip vs) m x = some v
  | [], _, _, _, _, h, _, _ => by simp at h
  | _ :: _, [], _, _, _, _, h, _ => by simp at h
  | p :: P, w :: vs, 0, m, nd, h1, h2, hk => by
    simp at h1 h2; subst h1; subst h2
    show bindC kindOf ((p, w) :: P.zip vs) m p = _
    unfold bindC
    rw [bindC_out fun v hv => (List.nodup_cons.mp nd).1 (List.of_mem_zip hv).1, if_neg hk]
    simp
  | p :: P, w :: vs, i + 1, m, nd, h1, h2, hk => by
    show bindC kindOf ((p, w) :: P.zip vs) m x = _
    unfold bindC
    exact bindC_get (i := i) (List.nodup_cons.mp nd).2 (by simpa using h1) (by simpa using h2) hk

/-- the names' values at the entry -/
def start (N : List Str) (vs : List V) : St := vs.map some ++ List.replicate (N.length - vs.length) none

/-- the context of a def's body, at its entry; an exception leaves the frame, then lies as CX says -/
def cxOf (CX : CXT) (P : Program) (w : World) (K : PySem.W.Frag) (mg : Str → Option Value) (base : Heap) (N : List Str) (qual : Str) (scope : Scope) (f : Addr) (cd : Value) (A : Around) (outer : List Env) (s : Shared) (H : Hp) (E : XK) : Cx where
  prog := P
  w := w
  K := K
  mg := mg
  base := base
  A := A.deeper (envOfC qual scope s.heap.objs.size f cd)
  N := N
  s₀ := s
  H₀ := H
  env := envOfC qual scope s.heap.objs.size f cd
  outer := outer
  stack := envOfC qual scope s.heap.objs.size f cd :: outer
  ex := []
  calm := true
  fn := fun _ => true
  pn := []
  xe := fun e s' => wpAny (model P w) (A.deeper (envOfC qual scope s.heap.objs.size f cd)) (leaving (envOfC qual scope s.heap.objs.size f cd) e) (fun _ s'' => CX outer H s E e s'') (fun e' s'' => CX outer H s E e' s'') s'

theorem cell_has {sc : Scope} {n : Nat} {x : Str} (h : sc.names.lookup x = some .cell) : ∃ c, (cellsFrom n sc.names []).lookup x = some c := by
  have q := PySem.W.cellsFrom_some sc.names n [] (.inl h)
  exact Option.isSome_iff_exists.mp q

theorem inv_start {CX : CXT} {P : Program} {w : World} {K : PySem.W.Frag} {mg : Str → Option Value} {base : Heap} {N ps : List Str} {qual : Str} {scope : Scope} {f : Addr} {cd : Value} {A : Around} {outer : List Env} {s s1 : Shared} {H : Hp} {E : XK} {us : List Value} {vs : List V}
    (S : FnScope N ps scope) (hd : A.handled = none) (e0 : Env0 P w K mg base A outer s H) (hl : vs.length = ps.length) (r : Vals vs us)
    (x : InCallC s s.heap.objs.size (bindL (envOfC qual scope s.heap.objs.size f cd).kindOf (ps.zip us) fun _ => none) (cellsFrom (s.heap.objs.size + 1) scope.names []) (bindC (envOfC qual scope s.heap.objs.size f cd).kindOf (ps.zip us) fun _ => none) s1) :
    Inv (cxOf CX P w K mg base N qual scope f cd A outer s H E) [] (start N vs) H s1 := by
  have hpl : ps.length ≤ N.length := by have := congrArg List.length S.pre; rw [List.length_take] at this; omega
  obtain ⟨h1, tk, rfl, hk⟩ := x.done
  have noA : ∀ b : Addr, b ∉ (cxOf CX P w K mg base N qual scope f cd A outer s H E).ex := fun b z => absurd (show b ∈ ([] : List Addr) from z) (by simp)
  refine ⟨⟨e0.mod, S.kind, rfl, rfl, Nat.le_refl _, fun y z c h1 h2 => ?_, fun y hy => ?_, fun y c _ h => ?_, fun _ => hd, Around.frames_deeper e0.frames, .inr ⟨rfl, rfl⟩, fun b z => absurd z (noA b), e0.bs, e0.bsz, fun b _ _ => noA b, fun b z => absurd z (noA b), e0.funs, e0.frf⟩,
    rfl, e0.bare, Un.kept hk, ⟨_, x.toInCall.ns, fun i y v h1 h2 h3 => ?_⟩, fun y c h => ⟨_, x.cell y c h⟩, e0.hok.fresh (Nat.le_refl _), fun y c h => ?_, fun p hp => absurd (show p ∈ ([] : List (Addr × Obj)) from hp) (by simp), e0.hok.kept hk, ?_⟩
  · exact name_of_addr x.apart (PySem.mem_of_lookup h1) (PySem.mem_of_lookup h2)
  · have hy : scope.names.lookup y = some .cell ∨ scope.names.lookup y = some .free := hy
    rcases hy with hy | hy
    · exact cell_has hy
    · exact absurd rfl (S.nofree _ (PySem.mem_of_lookup hy))
  · exact Nat.le_of_lt (x.above y c (PySem.mem_of_lookup h))
  · have hi : i < vs.length := by
      unfold start at h2
      by_cases hi : i < vs.length
      · exact hi
      · rw [List.getElem?_append_right (by simpa using hi)] at h2
        rw [List.getElem?_replicate] at h2
        split at h2 <;> cases h2
    have ha : vs[i]? = some v := by
      unfold start at h2
      rw [List.getElem?_append_left (by simpa using hi), List.getElem?_map] at h2
      cases e : vs[i]? with
      | none => rw [e] at h2; cases h2
      | some a => rw [e] at h2; cases h2; rfl
    obtain ⟨u, hu, rv⟩ := r.get ha
    have hp : ps[i]? = some y := by
      rw [← S.pre, List.getElem?_take_of_lt (by omega)]; exact h1
    have ndP : ps.Nodup := by rw [← S.pre]; exact S.nd.sublist (List.take_sublist _ _)
    refine ⟨u, rv, ?_⟩
    rcases S.par y (List.mem_of_getElem? hp) with k | k
    · exact .inl ⟨k, bindL_get ndP hp hu k⟩
    · obtain ⟨c, e⟩ := cell_has (n := s.heap.objs.size + 1) k
      refine .inr ⟨.inl k, c, e, ?_⟩
      have q := x.cell y c e
      rw [bindC_get ndP hp hu (by show scope.names.lookup y ≠ _; rw [k]; decide)] at q
      exact q
  · exact e0.hok.fresh (Nat.le_of_lt (x.above y c (PySem.mem_of_lookup h)))
  · unfold start
    show _ = N.length
    rw [List.length_append, List.length_map, List.length_replicate]
    omega

/-- THE RULE: a def (or a method) of the text, by its body. The body's reading t is chosen for each entry; it is run at the parameters' values -/
theorem fn_of {CX : CXT} {P : Program} {w : World} {K : PySem.W.Frag} {mg : Str → Option Value} {base : Heap} {k : Nat} {f : Addr} {name qual : Str} {params : Arguments} {body : List Stmt} {scope : Scope} {dV kV doc pm cdv ct oc : Value} {an od : Option Addr}
    {osl : Array (Option Value)} {N ps : List Str} {sp : Sp} (lk : K.lookup f = some ⟨oc, od, .func (PySem.W.fnOf name qual params body scope dV kV doc pm an cdv ct), osl⟩) (hcd : PySem.W.codeIn K cdv qual = true) (S : FnScope N ps scope)
    (len : ∀ vs H Q E, sp vs H Q E → vs.length = ps.length)
    (hbody : ∀ (A : Around) (outer : List Env) (s : Shared) (H : Hp) (vs : List V) (Q : VK) (E : XK), Room k (A.deeper (envOfC qual scope s.heap.objs.size f cdv)) → sp vs H Q E →
      ∃ t, PSs (cxOf CX P w K mg base N qual scope f cdv A outer s H E) body t ∧ t { nx := fun _ H' => Q .non H', rt := Q } (start N vs) H) :
    FnOk P w K mg base CX (k + 1) f (PySem.W.fnOf name qual params body scope dV kV doc pm an cdv ct) ps sp := by
  unfold PSs at *
  exact by
    refine ⟨len, fun A outer s H args us vs Q E hr e0 hb r hsp => ?_⟩
    have hl := len _ _ _ _ hsp
    have KX : K.In s.heap := e0.mod.kin.keeps fun b o e => (e0.bs b o e).1
    have lim : s.heap.NoLimit := e0.mod.nolimit.keeps fun b o e => (e0.bs b o e).1
    have hkind : ∀ y ∈ ps.zip us, scope.names.lookup y.1 = some .local ∨ (scope.names.lookup y.1 = some .cell ∧ ((cellsFrom (s.heap.objs.size + 1) scope.names []).lookup y.1).isSome = true) := fun ⟨n, v⟩ hy => by
      rcases S.par n (List.of_mem_zip hy).1 with q | q
      · exact .inl q
      · exact .inr ⟨q, PySem.W.cellsFrom_some _ _ _ (.inl q)⟩
    refine codeAny_call_function hr.depth (KX _ _ lk) rfl S.co S.gen rfl (PySem.W.codeRec_of KX hcd) (hb _ _ _ _ ?_)
    refine wpAny_newFunctionEnv_cells S.kind hkind fun env he s1 x => ?_
    subst he
    refine ⟨lim.keeps x.toInCall.keep, codeAny_func ?_⟩
    obtain ⟨t, ht, hq⟩ := hbody A outer s H vs Q E (hr.deeper _) hsp
    have I : Inv (cxOf CX P w K mg base N qual scope f cdv A outer s H E) [] (start N vs) H s1 := inv_start S hr.hd e0 hl r x
    refine wpAny_mono (ht [] s1 (start N vs) H _ I hq) (fun fl s' hs => ?_) fun e s' hs => hs
    have fin : ∀ {σ' : St} {H' : Hp} {v : V} {u : Value}, Inv (cxOf CX P w K mg base N qual scope f cdv A outer s H E) [] σ' H' s' → RelV v u → Q v H' → CE outer P w H s Q u s' :=
      fun {σ' H' v u} J rv q => ⟨v, H', J.os, J.bare, J.base, J.hok, rv, q⟩
    cases fl with
    | ret u =>
      obtain ⟨v, σ', H', J, rv, q⟩ := hs
      exact fin J rv q
    | next =>
      obtain ⟨σ', H', J, q⟩ := hs
      exact fin (v := V.non) (u := Value.none) J rfl q
    | brk =>
      obtain ⟨_, _, _, q⟩ := hs
      exact False.elim q
    | cont =>
      obtain ⟨_, _, _, q⟩ := hs
      exact False.elim q

end L2

namespace L2
open PySem PySem.Spec PyProof.Rows
section
variable {X : Cx} {x : Str} {p pos : Pos} {e : Expr} {es : List Expr} {t : TA} {id T : String} {r : List V → Hp → VK → Prop}

def tCB (r : List V → Hp → VK → Prop) (t : TA) : TE := fun σ H Q => t σ H fun vs H1 => r vs H1 Q
/-- f(e, ..), f a built-in function -/
theorem pe_callB (hc : CallR X (.builtin id) r) (hg : Gl X x) (hm : X.mg x = none) (hv : bootBuiltins x = some (.builtin id)) (ha : PA X (e :: es) t) (hn : x ≠ "__name__" := by decide) (hdb : (x == ("__debug__" : Str)) = false := by decide)
    (he : starEach (e :: es) X.env = (false, eval e X.env) :: starEach es X.env := by rfl) (hpl : (backTo pos (starEach es X.env)).any (·.1) = false := by rfl) : PE X (.Call (.Name x p) (e :: es) [] pos) (tCB r t) := by
  unfold PE at *; unfold PA at *; unfold CallR at *
  exact by
    intro pins s σ H Q I h
    refine wpAny_Call_Name_kw (ld_blt I hg hm hv ?_ hn hdb)
    exact PyProof.Rows.callWith_builtin1 (thn (ha pos pins s σ H _ I h) fun us s1 ⟨vs, H1, I1, r1, q1⟩ => hc pins s1 σ H1 vs us Q I1 r1 q1) he hpl

/-- T(e, ..), T a built-in type -/
theorem pe_callTy (hc : CallR X (.type T) r) (hg : Gl X x) (hm : X.mg x = none) (hv : bootBuiltins x = some (.type T)) (ha : PA X (e :: es) t) (hn : x ≠ "__name__" := by decide) (hdb : (x == ("__debug__" : Str)) = false := by decide)
    (he : starEach (e :: es) X.env = (false, eval e X.env) :: starEach es X.env := by rfl) (hpl : (backTo pos (starEach es X.env)).any (·.1) = false := by rfl) : PE X (.Call (.Name x p) (e :: es) [] pos) (tCB r t) := by
  unfold PE at *; unfold PA at *; unfold CallR at *
  exact by
    intro pins s σ H Q I h
    refine wpAny_Call_Name_kw (ld_blt I hg hm hv ?_ hn hdb)
    exact PyProof.Rows.callWith_type1 (thn (ha pos pins s σ H _ I h) fun us s1 ⟨vs, H1, I1, r1, q1⟩ => hc pins s1 σ H1 vs us Q I1 r1 q1) he hpl

end
end L2

namespace HT
open PySem PyProof.Rows

section
open PySem.SeqAt
open PySem.AutoSeq1 (wpAny_loadPart')
open PySem.MeetsSeq PySem.MeetsSeq2 PySem.MeetsSeq3

end

section
variable {prog : Program} {w : World} {A : Around} {E : Value → Shared → Prop} {s : Shared}

/-! ### t[a:b], not the whole -/
/-- a slice's bound as a place among n (d where it is left out) -/
def sIx (n d : Nat) : Option Int → Nat
  | none => d
  | some v => if v < 0 then (v + (n : Int)).toNat else min v.toNat n
theorem sIx_le (n d : Nat) (hd : d ≤ n) (o : Option Int) : sIx n d o ≤ n := by
  cases o with
  | none => exact hd
  | some v =>
    show (if v < 0 then (v + (n : Int)).toNat else min v.toNat n) ≤ n
    by_cases hv : v < 0
    · rw [if_pos hv]; omega
    · rw [if_neg hv]; exact Nat.min_le_right _ _
theorem clip_eq (v : Int) (n d : Nat) : (if v < 0 then max (v + (n : Int)) 0 else min v (n : Int)) = ((sIx n d (some v) : Nat) : Int) := by
  show (if v < 0 then max (v + (n : Int)) 0 else min v (n : Int)) = (((if v < 0 then (v + (n : Int)).toNat else min v.toNat n) : Nat) : Int)
  by_cases hv : v < 0
  · simp only [if_pos hv]; omega
  · simp only [if_neg hv]; omega
theorem adjust_gen (lo hi : Option Int) (n : Nat) : Builtin.Slice.sliceAdjust lo hi 1 (n : Int) = (((sIx n 0 lo : Nat) : Int), ((sIx n n hi : Nat) : Int)) := by
  have h1 : ¬ ((1 : Int) < 0) := by omega
  unfold Builtin.Slice.sliceAdjust
  simp only [h1, if_false]
  refine Prod.ext ?_ ?_
  · cases lo with
    | none => rfl
    | some v => exact clip_eq v n 0
  · cases hi with
    | none => rfl
    | some v => exact clip_eq v n n
theorem places_gen (i j : Nat) : Builtin.Slice.slicePlaces (i : Int) (j : Int) 1 = j - i := by
  unfold Builtin.Slice.slicePlaces
  have h1 : (1 : Int) > 0 := by omega
  simp only [h1, if_true, Int.ediv_one]
  split <;> omega
theorem slicePart_ {v : Value} {o : Option Int} {Q : Option Int → Shared → Prop} (p : IsPart v o) (h : Q o s) : wpAny (model prog w) A (Builtin.Slice.slicePartIndex v) Q E s := by
  cases p with
  | none => exact slicePart_none h
  | int i t => exact slicePart_int h
theorem sliceApplied_gen {sl : Addr} {vl vu : Value} {lo hi : Option Int} {n : Nat} {Q : Int × Int × Nat → Shared → Prop} (hs : s.heap.IsSliceOf sl vl vu .none) (pl : IsPart vl lo) (pu : IsPart vu hi)
    (h : Q (((sIx n 0 lo : Nat) : Int), 1, sIx n n hi - sIx n 0 lo) s) : wpAny (model prog w) A (Builtin.Slice.sliceApplied (.ref sl) (pure (n : Int))) Q E s := by
  obtain ⟨os, hos, hcs, hds⟩ := id hs
  unfold Builtin.Slice.sliceApplied Builtin.Slice.sliceFields
  refine wpAny_bind (wpAny_bind (wpAny_field hos hds (x := vl) rfl (wpAny_bind (wpAny_field hos hds (x := vu) rfl (wpAny_bind (wpAny_field hos hds (x := .none) rfl (wpAny_pure ?_)))))))
  refine wpAny_bind (slicePart_none ?_)
  show wpAny _ _ (if ((1 : Int) == 0) = true then _ else _) _ _ s
  rw [if_neg (by decide)]
  refine wpAny_bind (slicePart_ pl (wpAny_bind (slicePart_ pu (wpAny_bind (wpAny_pure ?_)))))
  show wpAny _ _ (match Builtin.Slice.sliceAdjust lo hi 1 (n : Int) with | (lo, hi) => pure (lo, (1 : Int), Builtin.Slice.slicePlaces lo hi 1)) _ _ s
  rw [adjust_gen lo hi n]
  show wpAny _ _ (pure (((sIx n 0 lo : Nat) : Int), (1 : Int), Builtin.Slice.slicePlaces ((sIx n 0 lo : Nat) : Int) ((sIx n n hi : Nat) : Int) 1)) _ _ s
  rw [places_gen]
  exact wpAny_pure h
theorem pick_gen (xs : Array Value) (i k : Nat) : ((List.range k).filterMap fun (m : Nat) => xs[((i : Int) + (m : Int) * 1).toNat]?).toArray = ((xs.toList.drop i).take k).toArray := by
  have e : (fun (m : Nat) => xs[((i : Int) + (m : Int) * 1).toNat]?) = fun m => xs[i + m]? := by
    funext m
    have : ((i : Int) + (m : Int) * 1).toNat = i + m := by omega
    rw [this]
  rw [e]
  have := pick_run xs i k
  rw [List.filterMap_map] at this
  have e2 : ((fun x => xs[x]?) ∘ fun x => i + x) = fun m => xs[i + m]? := rfl
  rw [e2] at this
  rw [this]

theorem getItem_tuple_cut {t sl : Addr} {items : Array Value} {vl vu : Value} {lo hi : Option Int} {Q : Value → Shared → Prop} (ht : IsTup s.heap t items) (hs : s.heap.IsSliceOf sl vl vu .none) (pl : IsPart vl lo) (pu : IsPart vu hi)
    (hw : ¬ (sIx items.size 0 lo = 0 ∧ sIx items.size items.size hi = items.size))
    (h : Q (.ref s.heap.objs.size) { s with heap := s.heap.push { cls := .type "tuple", data := .seq ((items.toList.drop (sIx items.size 0 lo)).take (sIx items.size items.size hi - sIx items.size 0 lo)).toArray } })
    (hsz : items.size ≤ sizeLine) : wpAny (model prog w) A (getItem (.ref t) (.ref sl)) Q E s := by
  have htake : sizeOk (.seq ((items.toList.drop (sIx items.size 0 lo)).take (sIx items.size items.size hi - sIx items.size 0 lo)).toArray) := by
    show ((items.toList.drop (sIx items.size 0 lo)).take (sIx items.size items.size hi - sIx items.size 0 lo)).toArray.size ≤ sizeLine
    rw [List.size_toArray, List.length_take, List.length_drop, Array.length_toList]
    omega
  have hj : sIx items.size items.size hi ≤ items.size := sIx_le _ _ (Nat.le_refl _) hi
  obtain ⟨os, hos, hcs, hds⟩ := id hs
  have hTs : s.TypeIs (.ref sl) "slice" := ⟨os, hos, hcs⟩
  unfold getItem
  try with_reducible refine wpAny_holding ?_
  first | refine wpAny_bind (wpAny_pure ?_) | skip
  refine wpAny_bind (wpAny_sequenceKey ht.typeIs (by decide) ?_)
  refine wpAny_bind (wpAny_callSpecial?_slot (name := Str.ofString "__getitem__") ht.typeIs PyProof.Rows.slot_tuple_getitem
    (wpAny_call_entry PyProof.Rows.slot_tuple_getitem ht.typeIs entry_tuple_getitem ?_ (args_tuple_getitem _ _)))
  show wpAny _ _ (Builtin.Tuple.tupleItemsOf (.ref t) >>= _) _ _ s
  refine wpAny_bind (tupleItemsOf_ ht ?_)
  refine wpAny_bind (wpAny_typeOf hTs ?_)
  rw [if_pos (by decide)]
  refine wpAny_bind (sliceApplied_gen hs pl pu ?_)
  have hno : ¬ ((((sIx items.size 0 lo : Nat) : Int) == 0 && (1 : Int) == 1 && (sIx items.size items.size hi - sIx items.size 0 lo) == items.size) = true) := by
    intro q
    rw [Bool.and_eq_true, Bool.and_eq_true] at q
    have q1 : ((sIx items.size 0 lo : Nat) : Int) = 0 := eq_of_beq q.1.1
    have q2 : sIx items.size items.size hi - sIx items.size 0 lo = items.size := eq_of_beq q.2
    exact hw ⟨by omega, by omega⟩
  show wpAny _ _ (if (((sIx items.size 0 lo : Nat) : Int) == 0 && (1 : Int) == 1 && (sIx items.size items.size hi - sIx items.size 0 lo) == items.size) = true then _ else _) _ _ s
  rw [if_neg hno, pick_gen]
  first
    | exact wpAny_bind (m := Builtin.Tuple.tupleExact _) (wpAny_newObj_type (wpAny_pure ⟨_, rfl, wpAny_pure h⟩) htake)
    | exact wpAny_bind (m := Builtin.Tuple.tupleExact _) (wpAny_newObj_type (wpAny_bind (wpAny_pure (wpAny_pure ⟨_, rfl, wpAny_pure h⟩))) htake)
    | exact wpAny_bind (wpAny_bind (m := Builtin.Tuple.tupleExact _) (wpAny_newObj_type (wpAny_pure (wpAny_pure ⟨_, rfl, wpAny_pure h⟩)) htake))
    | exact wpAny_bind (wpAny_bind (m := Builtin.Tuple.tupleExact _) (wpAny_newObj_type (wpAny_pure ⟨_, rfl, wpAny_pure h⟩) htake))
end
end HT

namespace L2
open PySem PySem.Spec PyProof.Rows

/-! ### the parts of a slice -/
abbrev TO := St → Hp → (Option Int → Hp → Prop) → Prop
/-- a slice's part (left out, or an int) -/
@[irreducible] def PO (X : Cx) (e : Option Expr) (t : TO) : Prop :=
  ∀ (pins : List (Addr × Obj)) (s : Shared) (σ : St) (H : Hp) (Q : Option Int → Hp → Prop), Inv X pins σ H s → t σ H Q →
    wpAny (model X.prog X.w) X.A (evalPart e X.env) (fun u s' => ∃ o H', Inv X pins σ H' s' ∧ IsPart u o ∧ Q o H') X.xe s
def tNoPart : TO := fun _ H Q => Q none H
def tPart (t : TE) : TO := fun σ H Q => t σ H fun x H1 => ∃ i, x = .int i ∧ Q (some i) H1

section
variable {X : Cx} {e : Expr} {te : TE} {lo hi : Option Expr} {tl th : TO} {pos p2 : Pos}

theorem po_none : PO X none tNoPart := by
  unfold PO at *
  exact by
    intro pins s σ H Q I h
    rw [evalPart_none]
    exact wpAny_pure ⟨none, H, I, .none, h⟩

theorem po_some (h : PE X e te) : PO X (some e) (tPart te) := by
  unfold PE at *; unfold PO at *
  exact by
    intro pins s σ H Q I hw
    rw [evalPart_some]
    refine thn (h pins s σ H _ I hw) fun u s1 ⟨x, H1, I1, r1, q1⟩ => ?_
    obtain ⟨i, rfl, q⟩ := q1
    obtain ⟨t, rfl⟩ := r1
    exact ⟨some i, H1, I1, .int i t, q⟩

/-- what a slice of a value is, by values: the slice object stands at sl -/
@[irreducible] def SlR (X : Cx) (r : V → Option Int → Option Int → Hp → VK → Prop) : Prop :=
  ∀ (pins : List (Addr × Obj)) (s : Shared) (σ : St) (H : Hp) (x : V) (v vl vu : Value) (lo hi : Option Int) (sl : Addr) (Q : VK), Inv X pins σ H s → RelV x v → s.heap.IsSliceOf sl vl vu .none → IsPart vl lo → IsPart vu hi → r x lo hi H Q →
    ∃ T id, typeLookup (.type T) "__getitem__" = pure (some (.builtin id)) ∧ s.TypeIs v T ∧ wpAny (model X.prog X.w) X.A (getItem v (.ref sl)) (EP X pins σ Q) X.xe s
def tSl (r : V → Option Int → Option Int → Hp → VK → Prop) (te : TE) (tl th : TO) : TE := fun σ H Q => te σ H fun x H1 => tl σ H1 fun l H2 => th σ H2 fun u H3 => r x l u H3 Q
/-- a[lo:hi], any a -/
theorem pe_slice {r : V → Option Int → Option Int → Hp → VK → Prop} (hr : SlR X r) (he : PE X e te) (hl : PO X lo tl) (hu : PO X hi th) : PE X (.Subscript e (.Slice lo hi none p2) pos) (tSl r te tl th) := by
  unfold PE at *; unfold PO at *; unfold SlR at *
  exact by
    intro pins s σ H Q I h
    refine Subscript_ (thn (he pins s σ H _ I h) fun v s1 ⟨x, H1, I1, r1, q1⟩ => ?_)
    refine wpAny_Slice (thn (hl pins s1 σ H1 _ I1 q1) fun vl s2 ⟨l, H2, I2, pl, q2⟩ => thn (hu pins s2 σ H2 _ I2 q2) fun vu s3 ⟨u, H3, I3, pu, q3⟩ => ?_)
    rw [evalPart_none]
    refine wpAny_pure ?_
    have I4 : Inv X pins σ H3 { s3 with heap := s3.heap.push { cls := .type "slice", data := .fields #[vl, vu, .none] } } := I3.kept (t' := s3.toks) fun b ob q => Heap.get?_push_of_some _ q
    obtain ⟨T, id, hT, ht, hg⟩ := hr pins { s3 with heap := s3.heap.push { cls := .type "slice", data := .fields #[vl, vu, .none] } } σ H3 x v vl vu l u s3.heap.objs.size Q I4 r1 (Heap.IsSliceOf.new ..) pl pu q3
    show wpAny (model X.prog X.w) X.A (subscriptTail e (.Slice lo hi none p2) v (.ref s3.heap.objs.size)) (EP X pins σ Q) X.xe { s3 with heap := s3.heap.push { cls := .type "slice", data := .fields #[vl, vu, .none] } }
    exact tail_any (ops := [.ref s3.heap.objs.size, v]) ht hT hg (by with_unfolding_all rfl)

/-- the items of xs[lo:hi] -/
def cutV (xs : List V) (lo hi : Option Int) : List V := (xs.drop (HT.sIx xs.length 0 lo)).take (HT.sIx xs.length xs.length hi - HT.sIx xs.length 0 lo)
theorem cutV_length (xs : List V) (lo hi : Option Int) : (cutV xs lo hi).length ≤ xs.length := by
  unfold cutV
  rw [List.length_take, List.length_drop]
  omega
/-- t[lo:hi], not the whole of it (the whole would be t itself) -/
def rSlT (K : PySem.W.Frag) : V → Option Int → Option Int → Hp → VK → Prop := fun x lo hi H Q => ∃ a xs, x = .ref a ∧ SqT K H a xs ∧
  ¬ (HT.sIx xs.length 0 lo = 0 ∧ HT.sIx xs.length xs.length hi = xs.length) ∧ ∀ p, H p = none → Q (.ref p) (upd H p (.tup (cutV xs lo hi)))
theorem sl_tup : SlR X (rSlT X.K) := by
  unfold SlR at *
  exact by
    intro pins s σ H x v vl vu lo hi sl Q I rx hs pl pu h
    obtain ⟨a, xs, rfl, hx, hw, q⟩ := h
    cases rx
    obtain ⟨its, r, ht, hz⟩ := I.tuple hx
    have hlen : its.toArray.size = xs.length := by rw [List.size_toArray]; exact r.length.symm
    refine ⟨"tuple", _, PyProof.Rows.slot_tuple_getitem.lookup, ht.typeIs, ?_⟩
    refine HT.getItem_tuple_cut ht hs pl pu (by rw [hlen]; exact hw) ?_ (by rw [hlen]; exact hz)
    rw [hlen]
    refine ⟨.ref s.heap.objs.size, _, I.laid (t' := s.toks) (o := .tup (cutV xs lo hi)) (fun b ob q => Heap.get?_push_of_some _ q) (Nat.le_refl _) ?_, rfl, q _ (I.hok.fresh (Nat.le_refl _))⟩
    exact ⟨Nat.le_trans (cutV_length xs lo hi) hz, _, (r.drop (HT.sIx xs.length 0 lo)).take (HT.sIx xs.length xs.length hi - HT.sIx xs.length 0 lo), IsTup.new _ _⟩

/-! ### t < u, t + u -/
end
end L2

namespace L2
open PySem PySem.Spec PyProof.Rows

/-! ### places -/
/-- the place that an index of any sign means -/
def ixN (n : Nat) (i : Int) : Option Nat := if 0 ≤ i then (if i < n then some i.toNat else none) else if -(n : Int) ≤ i then some (i + n).toNat else none
def atI {α : Type} (xs : List α) (i : Int) : Option α := (ixN xs.length i).bind fun j => xs[j]?
theorem ixN_seq {n : Nat} {i : Int} {j : Nat} (h : ixN n i = some j) : seqIndex? i n = some j ∧ j < n ∧ -(n : Int) ≤ i ∧ i < n := by
  unfold ixN at h
  by_cases h0 : 0 ≤ i
  · rw [if_pos h0] at h
    by_cases h1 : i < n
    · rw [if_pos h1] at h
      have e : i.toNat = j := Option.some.inj h
      exact ⟨by rw [seqIndex_of h0 h1, e], by omega, by omega, h1⟩
    · rw [if_neg h1] at h; cases h
  · rw [if_neg h0] at h
    by_cases h1 : -(n : Int) ≤ i
    · rw [if_pos h1] at h
      have e : (i + n).toNat = j := Option.some.inj h
      exact ⟨by rw [seqIndex_neg (by omega) h1, e], by omega, h1, by omega⟩
    · rw [if_neg h1] at h; cases h
theorem atI_get {α : Type} {xs : List α} {i : Int} {v : α} (h : atI xs i = some v) : ∃ j, seqIndex? i xs.length = some j ∧ xs[j]? = some v ∧ j < xs.length ∧ -(xs.length : Int) ≤ i ∧ i < xs.length := by
  unfold atI at h
  cases e : ixN xs.length i with
  | none => rw [e] at h; cases h
  | some j =>
    rw [e] at h
    obtain ⟨h1, h2, h3, h4⟩ := ixN_seq e
    exact ⟨j, h1, h, h2, h3, h4⟩
theorem atI_nat {α : Type} {xs : List α} {j : Nat} {v : α} (h : xs[j]? = some v) : atI xs (j : Int) = some v := by
  have hj : j < xs.length := (List.getElem?_eq_some_iff.mp h).1
  have e : ixN xs.length (j : Int) = some j := by
    unfold ixN
    rw [if_pos (by omega), if_pos (by omega)]; simp
  unfold atI; rw [e]; exact h
theorem atI_last {α : Type} (xs : List α) (v : α) : atI (xs ++ [v]) (-1) = some v := by
  have hl : (xs ++ [v]).length = xs.length + 1 := by simp
  have e : ixN (xs ++ [v]).length (-1) = some xs.length := by
    unfold ixN
    rw [hl, if_neg (by decide), if_pos (by omega)]
    congr 1
    omega
  unfold atI
  rw [e]
  show (xs ++ [v])[xs.length]? = some v
  simp

/-! ### what may be subscripted -/
/-- what stands as an index of a plain subscript -/
def PlainIx (b : Expr) : Prop := ∀ o i, subscripted b false o i = operate [o, i] (getItem o i)
/-- a subscript by values -/
@[irreducible] def IxR (X : Cx) (r : R2) : Prop :=
  ∀ (value slice : Expr) (pins : List (Addr × Obj)) (s : Shared) (σ : St) (H : Hp) (x y : V) (v u : Value) (Q : VK), Inv X pins σ H s → RelV x v → RelV y u → r x y H Q →
    subscripted slice false v u = operate [v, u] (getItem v u) → wpAny (model X.prog X.w) X.A (subscriptTail value slice v u) (EP X pins σ Q) X.xe s
/-- a call of a builtin's method by values: the receiver, the arguments -/
@[irreducible] def MtR (X : Cx) (id : String) (r : V → List V → Hp → VK → Prop) : Prop :=
  ∀ (pins : List (Addr × Obj)) (s : Shared) (σ : St) (H : Hp) (x : V) (xs : List V) (v : Value) (us : List Value) (Q : VK), Inv X pins σ H s → RelV x v → Vals xs us → r x xs H Q →
    wpAny (model X.prog X.w) X.A (call (.builtin id) (v :: us)) (EP X pins σ Q) X.xe s
section
variable {X : Cx} {a b : Expr} {ta tb : TE} {pos : Pos}
/-- a[b] -/
theorem pe_ix {r : R2} (hr : IxR X r) (ha : PE X a ta) (hb : PE X b tb) (hs : PlainIx b) : PE X (.Subscript a b pos) (tOp r ta tb) := by
  unfold PE; unfold IxR at hr
  exact by
    intro pins s σ H Q I h
    exact Subscript_ (binT ha hb I h fun v u s2 x y H2 I2 rx ry q => hr a b pins s2 σ H2 x y v u Q I2 rx ry q (hs _ _))

def rIxL (K : PySem.W.Frag) : R2 := fun x y H Q => ∃ p xs i v, x = .ref p ∧ y = .int i ∧ SqL K H p xs ∧ atI xs i = some v ∧ Q v H
def rIxT (K : PySem.W.Frag) : R2 := fun x y H Q => ∃ p xs i v, x = .ref p ∧ y = .int i ∧ SqT K H p xs ∧ atI xs i = some v ∧ Q v H
theorem ix_list : IxR X (rIxL X.K) := by
  unfold IxR at *
  exact by
    intro value slice pins s σ H x y v u Q I rx ry h hs
    obtain ⟨p, xs, i, z, rfl, rfl, hq, he, q⟩ := h
    cases rx
    obtain ⟨t, rfl⟩ := ry
    obtain ⟨its, r, pl, hz⟩ := I.list hq
    obtain ⟨j, h1, h2, h3, h4, h5⟩ := atI_get he
    obtain ⟨w, ew, rw'⟩ := r.get h2
    have hl := r.length
    have hn := line63
    have fin : EP X pins σ Q w s := ⟨z, H, I, rw', q⟩
    by_cases h0 : 0 ≤ i
    · have hj : i.toNat = j := by
        rw [seqIndex_of h0 h5] at h1
        exact Option.some.inj h1
      exact item_listR pl.isList h0 (by omega) (by rw [hj]; simpa using ew) fin hs
    · have hj : (i + (its.toArray.size : Int)).toNat = j := by
        rw [seqIndex_neg (by omega) h4] at h1
        rw [List.size_toArray, ← hl]
        exact Option.some.inj h1
      exact subscriptTail_builtinR (x := w) pl.isList.typeIs slot_list_getitem.lookup
        (wpAny_getItem_list_neg (Q := fun r s' => r = w ∧ EP X pins σ Q r s') pl.isList (by omega) (by rw [List.size_toArray] <;> omega) (by omega) (by rw [hj]; simpa using ew) ⟨rfl, fin⟩) hs

theorem ix_tup : IxR X (rIxT X.K) := by
  unfold IxR at *
  exact by
    intro value slice pins s σ H x y v u Q I rx ry h hs
    obtain ⟨p, xs, i, z, rfl, rfl, hq, he, q⟩ := h
    cases rx
    obtain ⟨t, rfl⟩ := ry
    obtain ⟨its, r, pl, hz⟩ := I.tuple hq
    obtain ⟨j, h1, h2, h3, h4, h5⟩ := atI_get he
    obtain ⟨w, ew, rw'⟩ := r.get h2
    have hl := r.length
    have hn := line63
    have fin : EP X pins σ Q w s := ⟨z, H, I, rw', q⟩
    exact subscriptTail_builtinR (x := w) pl.typeIs slot_tuple_getitem.lookup
      (getItem_tuple (j := j) (Q := fun r s' => r = w ∧ EP X pins σ Q r s') pl (by omega) (by omega) (by rw [List.size_toArray, ← hl]; exact h1) (by simpa using ew) ⟨rfl, fin⟩) hs

/-! ### xs[i] = v, any sign -/
/-- the list's object behind a store -/
theorem mapSeq_set (its : List Value) (n j : Nat) (u : Value) : Obj.mapSeq (·.setIfInBounds j u) { cls := .type "list", data := .seq its.toArray n } = { cls := .type "list", data := .seq (its.set j u).toArray n } := by
  simp [Obj.mapSeq]
theorem Inv.lst {pins : List (Addr × Obj)} {σ : St} {H : Hp} {s : Shared} {p : Addr} {xs : List V} (I : Inv X pins σ H s) (h : H p = some (.lst xs)) :
    ∃ (its : List Value) (n : Nat), Vals xs its ∧ s.heap.get? p = some { cls := .type "list", data := .seq its.toArray n } ∧ xs.length ≤ sizeLine := by
  obtain ⟨z, its, n, r, e⟩ := I.hok p _ h
  exact ⟨its, n, r, e, z⟩
/-- the list at p is written by an update of its object -/
theorem Inv.lstUpd {pins : List (Addr × Obj)} {σ : St} {H : Hp} {s : Shared} {p : Addr} {xs ys : List V} {its its' : List Value} {n n' : Nat} {f : Obj → Obj} (I : Inv X pins σ H s) (h : H p = some (.lst xs))
    (ho : s.heap.get? p = some { cls := .type "list", data := .seq its.toArray n }) (hf : f { cls := .type "list", data := .seq its.toArray n } = { cls := .type "list", data := .seq its'.toArray n' }) (r : Vals ys its') (hz : ys.length ≤ sizeLine) (t : Nat) :
    Inv X pins σ (upd H p (.lst ys)) { s with heap := s.heap.update p f, toks := t } := by
  have e : (s.heap.update p f).get? p = some { cls := .type "list", data := .seq its'.toArray n' } := by
    rw [Heap.get?_update_self f ho (by rw [hf] <;> rfl), hf]
  refine I.write (x := p) (e := p) (by rw [h]; trivial) (.inl rfl) (fun b u hb q => (Heap.get?_update_other _ _ (Ne.symm hb)).trans q) ⟨_, e⟩ ?_
  exact ⟨hz, its', n', r, e⟩
def rSetL : V → V → V → Hp → (Hp → Prop) → Prop := fun o i v H Q => ∃ p xs k j, o = .ref p ∧ i = .int k ∧ H p = some (.lst xs) ∧ ixN xs.length k = some j ∧ Q (upd H p (.lst (xs.set j v)))
theorem set_list : PSet X rSetL := by
  unfold PSet at *
  exact by
    intro pins s σ H o i v ov iv u Q I ro ri rv h
    obtain ⟨p, xs, k, j, rfl, rfl, hp, hj, q⟩ := h
    cases ro
    obtain ⟨t, rfl⟩ := ri
    obtain ⟨its, n, r, ho, hz⟩ := I.lst hp
    obtain ⟨h1, h2, h3, h4⟩ := ixN_seq hj
    have hl := r.length
    have hn := line63
    have I' : Inv X pins σ (upd H p (.lst (xs.set j v))) { s with heap := s.heap.update p (Obj.mapSeq (·.setIfInBounds j u)) } :=
      I.lstUpd hp ho (mapSeq_set its n j u) (r.set rv j) (by rw [List.length_set]; exact hz) s.toks
    by_cases h0 : 0 ≤ k
    · have hk : k.toNat = j := by
        rw [seqIndex_of h0 h4] at h1
        exact Option.some.inj h1
      exact PySem.W.ki_setAt ho h0 (by omega) (by rw [List.size_toArray, ← hl]; exact h4) (by rw [hk]; exact ⟨_, I', q⟩)
    · have hk : (k + (its.toArray.size : Int)).toNat = j := by
        rw [seqIndex_neg (by omega) h3] at h1
        rw [List.size_toArray, ← hl]
        exact Option.some.inj h1
      exact PySem.W.ki_setBack ho (by omega) (by rw [List.size_toArray, ← hl]; exact h3) (by omega) (by rw [hk]; exact ⟨_, I', q⟩)

/-! ### slices -/
/-! ### in, not in: flat items -/
def flatV : V → Bool
  | .non => true
  | .bl _ => true
  | .int _ => true
  | .str _ => true
  | _ => false
/-- == of flat values -/
def eqV : V → V → Bool
  | .non, .non => true
  | .bl a, .bl b => a == b
  | .bl a, .int b => (if a then 1 else 0) == b
  | .int a, .bl b => a == (if b then 1 else 0)
  | .int a, .int b => a == b
  | .str a, .str b => a == b
  | _, _ => false
theorem eqAt_V {A : Around} {s : Shared} {y x : V} {u v : Value} (ry : RelV y u) (rx : RelV x v) (fy : flatV y = true) (fx : flatV x = true) : SeqAt.EqAt A s u v (eqV y x) := by
  cases y with
  | non =>
    cases ry
    cases x with
    | non => cases rx; exact SeqAt.EqAt.same _
    | bl b => cases rx; exact SeqAt.EqAt.none_bool b
    | int b => obtain ⟨t, rfl⟩ := rx; exact SeqAt.EqAt.none_int b t
    | str b => obtain ⟨t, rfl⟩ := rx; exact SeqAt.EqAt.none_str b t
    | _ => exact absurd (show false = true from fx) Bool.false_ne_true
  | bl a =>
    cases ry
    cases x with
    | non => cases rx; exact SeqAt.EqAt.bool_none a
    | bl b => cases rx; exact SeqAt.EqAt.bool_bool a b
    | int b => obtain ⟨t, rfl⟩ := rx; exact SeqAt.EqAt.bool_int a b t
    | str b => obtain ⟨t, rfl⟩ := rx; exact SeqAt.EqAt.bool_str a b t
    | _ => exact absurd (show false = true from fx) Bool.false_ne_true
  | int a =>
    obtain ⟨t', rfl⟩ := ry
    cases x with
    | non => cases rx; exact SeqAt.EqAt.int_none a t'
    | bl b => cases rx; exact SeqAt.EqAt.int_bool a t' b
    | int b => obtain ⟨t, rfl⟩ := rx; exact SeqAt.EqAt.int_int a t' b t
    | str b => obtain ⟨t, rfl⟩ := rx; exact SeqAt.EqAt.int_str a t' b t
    | _ => exact absurd (show false = true from fx) Bool.false_ne_true
  | str a =>
    obtain ⟨t', rfl⟩ := ry
    cases x with
    | non => cases rx; exact SeqAt.EqAt.str_none a t'
    | bl b => cases rx; exact SeqAt.EqAt.str_bool a t' b
    | int b => obtain ⟨t, rfl⟩ := rx; exact SeqAt.EqAt.str_int a t' b t
    | str b => obtain ⟨t, rfl⟩ := rx; exact SeqAt.EqAt.str_str a t' b t
    | _ => exact absurd (show false = true from fx) Bool.false_ne_true
  | _ => exact absurd (show false = true from fy) Bool.false_ne_true
def inV (x : V) (xs : List V) : Bool := xs.any fun y => eqV y x
/-! ### len, list(x), tuple(x) of any list or tuple that is read -/
theorem call_len_seq : CallR X (.builtin "len") (fun xs H Q => ∃ p ys, xs = [.ref p] ∧ (SqL X.K H p ys ∨ SqT X.K H p ys) ∧ Q (.int ys.length) H) := by
  unfold CallR at *
  exact by
    intro pins s σ H xs us Q I r h
    obtain ⟨p, ys, rfl, hq, q⟩ := h
    obtain ⟨u, rfl, rx⟩ := vals1 r
    cases rx
    have hn := line63
    rcases hq with hq | hq
    · obtain ⟨its, r', pl, hz⟩ := I.list hq
      have hlen := r'.length
      exact Calls.call_len_list pl.isList (by simp only [List.size_toArray] <;> omega) ⟨.int ys.length, H, I.tok _, ⟨s.toks + 1, by rw [List.size_toArray, hlen]⟩, q⟩
    · obtain ⟨its, r', pl, hz⟩ := I.tuple hq
      have hlen := r'.length
      exact len_tuple pl (by simp only [List.size_toArray] <;> omega) ⟨.int ys.length, H, I.tok _, ⟨s.toks + 1, by rw [List.size_toArray, hlen]⟩, q⟩

theorem CallR.or {f : Value} {r r' : List V → Hp → VK → Prop} (h : CallR X f r) (h' : CallR X f r') : CallR X f (fun xs H Q => r xs H Q ∨ r' xs H Q) := by
  unfold CallR at *
  exact by
    intro pins s σ H xs us Q I rs q
    rcases q with q | q
    · exact h pins s σ H xs us Q I rs q
    · exact h' pins s σ H xs us Q I rs q

theorem call_list_of : CallR X (.type "list") (fun xs H Q => ∃ p ys, xs = [.ref p] ∧ (SqL X.K H p ys ∨ SqT X.K H p ys) ∧ ∀ l, H l = none → Q (.ref l) (upd H l (.lst ys))) := by
  unfold CallR at *
  exact by
    intro pins s σ H xs us Q I r h
    obtain ⟨p, ys, rfl, hq, q⟩ := h
    obtain ⟨u, rfl, rx⟩ := vals1 r
    cases rx
    have fin : ∀ (its : List Value), Vals ys its → ys.length ≤ sizeLine → ∀ (h' : Heap) (c' : Nat), (∀ b o', s.heap.get? b = some o' → h'.get? b = some o') →
        h'.get? s.heap.objs.size = some { cls := .type "list", dict := none, data := .seq its.toArray c', slots := #[] } → EP X pins σ Q (.ref s.heap.objs.size) { s with heap := h' } := fun its r' hz h' c' kp e =>
      ⟨.ref s.heap.objs.size, _, I.laid (t' := s.toks) kp (Nat.le_refl _) (show ObjOk X.prog X.w _ h' _ (.lst ys) from ⟨hz, its, c', r', e⟩), rfl, q _ (I.hok.fresh (Nat.le_refl _))⟩
    rcases hq with hq | hq
    · obtain ⟨its, r', pl, hz⟩ := I.list hq
      have hlen := r'.length
      obtain ⟨o, ho, hc, n, hd⟩ := pl.isList
      exact call_list_seq p (.inl rfl) ho hc hd (fun h' c' kp e => fin its r' hz h' c' kp e) (by simp only [List.size_toArray] <;> omega)
    · obtain ⟨its, r', pl, hz⟩ := I.tuple hq
      have hlen := r'.length
      obtain ⟨o, ho, hc, n, hd⟩ := pl
      exact call_list_seq p (.inr rfl) ho hc hd (fun h' c' kp e => fin its r' hz h' c' kp e) (by simp only [List.size_toArray] <;> omega)

/-! ### the call of a builtin's method: o.m(..) -/
/-- the value is of that builtin type -/
def tyV (K : PySem.W.Frag) (T : String) (x : V) (H : Hp) : Prop := match x with
  | .str _ => T = "str"
  | .int _ => T = "int"
  | .ref p => (T = "list" ∧ ∃ xs, SqL K H p xs) ∨ (T = "tuple" ∧ ∃ o, K.lookup p = some o ∧ o.cls = .type "tuple" ∧ o.dict = none) ∨
      (T = "dict" ∧ ((∃ kvs, H p = some (.dK kvs)) ∨ ∃ kvs, H p = some (.dT kvs))) ∨ (T = "set" ∧ ∃ S n, H p = some (.set S n))
  | _ => False
theorem tyV_is {pins : List (Addr × Obj)} {σ : St} {H : Hp} {s : Shared} {T : String} {x : V} {v : Value} (I : Inv X pins σ H s) (r : RelV x v) (ty : tyV X.K T x H) :
    s.TypeIs v T ∧ ∀ a, v = .ref a → ∃ ob, s.heap.get? a = some ob ∧ ob.dict = none := by
  cases x with
  | str z =>
    obtain ⟨t, rfl⟩ := r
    cases (show T = "str" from ty)
    exact ⟨typeIs_str s z t, fun _ e => nomatch e⟩
  | int i =>
    obtain ⟨t, rfl⟩ := r
    cases (show T = "int" from ty)
    exact ⟨typeIs_int s i t, fun _ e => nomatch e⟩
  | ref p =>
    cases r
    rcases ty with ⟨rfl, xs, hq⟩ | ⟨rfl, o, hk, hc, hd⟩ | ⟨rfl, hk⟩ | ⟨rfl, S, n, hk⟩
    · obtain ⟨its, _, pl, _⟩ := I.list hq
      refine ⟨pl.isList.typeIs, fun a e => ?_⟩
      cases e
      obtain ⟨o, n, e, c, hd, _⟩ := pl
      exact ⟨o, e, hd⟩
    · refine ⟨⟨o, I.kIn p o hk, hc⟩, fun a e => ?_⟩
      cases e
      exact ⟨o, I.kIn _ o hk, hd⟩
    · have z : ∃ o, s.heap.get? p = some o ∧ o.ExactDict := by
        rcases hk with ⟨kvs, hk⟩ | ⟨kvs, hk⟩
        · obtain ⟨_, _, _, _, o, _, _, e, ex, _⟩ := I.hok p _ hk
          exact ⟨o, e, ex⟩
        · obtain ⟨_, _, _, _, o, _, _, e, ex, _⟩ := I.hok p _ hk
          exact ⟨o, e, ex⟩
      obtain ⟨o, e, ex⟩ := z
      refine ⟨⟨o, e, ex.1⟩, fun a e2 => ?_⟩
      cases e2
      exact ⟨o, e, ex.2.1⟩
    · obtain ⟨o, _, _, _, e, ex, _⟩ := I.hok p _ hk
      refine ⟨⟨o, e, ex.1⟩, fun a e2 => ?_⟩
      cases e2
      exact ⟨o, e, ex.2.1⟩
  | _ => exact False.elim ty
def tBM (K : PySem.W.Frag) (T : String) (r : V → List V → Hp → VK → Prop) (to : TE) (t : TA) : TE := fun σ H Q => to σ H fun x H1 => tyV K T x H1 ∧ t σ H1 fun xs H2 => r x xs H2 Q
variable {o e : Expr} {es : List Expr} {to : TE} {t : TA} {name : Str} {apos cpos : Pos} {T id : String} {r : V → List V → Hp → VK → Prop}
theorem pe_bm (pa : PlainAttrs T) (slot : Slot T name id) (hty : typeOf (.builtin id) = pure (.type "method_descriptor")) (hm : MtR X id r) (ho : PE X o to) (ha : PA X (e :: es) t)
    (hbase : attributeBase o name X.env (eval o X.env) = eval o X.env := by rfl)
    (hfew : ((backTo cpos (starEach (e :: es) X.env)).all (fun x => !x.1) && (backToKw cpos (keywordEach [] X.env)).all (fun x => x.1.isSome)
      && decide ((e :: es).length + ([] : List Keyword).length + (if ([] : List Keyword).isEmpty then 0 else 1) < 30)) = true := by rfl)
    (hline : (apos.endLine == cpos.line) = true := by rfl) (hs : starEach (e :: es) X.env = (false, eval e X.env) :: starEach es X.env := by rfl) (hplain : (backTo cpos (starEach es X.env)).any (·.1) = false := by rfl) :
    PE X (.Call (.Attribute o name apos) (e :: es) [] cpos) (tBM X.K T r to t) := by
  unfold PE at *; unfold PA at *; unfold MtR at *
  exact by
    intro pins s σ H Q I h
    refine wpAny_Call_method_late hbase hfew hline rfl (thn (ho pins s σ H _ I h) fun v s1 ⟨x, H1, I1, r1, ty, q1⟩ => ?_)
    obtain ⟨h1, h2⟩ := tyV_is I1 r1 ty
    refine ⟨T, id, pa, slot, hty, h1, h2, ?_⟩
    have hA := ha cpos pins s1 σ H1 _ I1 q1
    rw [hs] at hA ⊢
    refine Calls.callWith_builtin (by show (false || (backTo cpos (starEach es X.env)).any (·.1)) = false; rw [hplain] <;> rfl) (Calls.evalArgs_plain ?_)
    exact thn hA fun us s2 ⟨vs, H2, I2, r2, q2⟩ => hm pins s2 σ H2 x vs v us Q I2 r1 r2 q2

/- xs.append(e), list.index on a module's tuple .. are MtR facts of 06m -/
end
end L2

namespace L2
open PySem PySem.Spec PyProof.Rows

@[irreducible] def MtM (X : Cx) (id : String) (r : V → List V → Hp → VK → Prop) : Prop :=
  ∀ (pins : List (Addr × Obj)) (s : Shared) (σ : St) (H : Hp) (x : V) (xs : List V) (v : Value) (us : List Value) (Q : VK), Inv X pins σ H s → RelV x v → Vals xs us → r x xs H Q →
    wpAny (model X.prog X.w) X.A (call (.builtin id) (v :: us)) (EP X pins σ Q) X.xe s

/-! ### lists of values -/
theorem Vals.one : ∀ {x : V} {us : List Value}, Vals [x] us → ∃ u, us = [u] ∧ RelV x u
  | _, _, .cons r .nil => ⟨_, rfl, r⟩
theorem Vals.two : ∀ {x y : V} {us : List Value}, Vals [x, y] us → ∃ u v, us = [u, v] ∧ RelV x u ∧ RelV y v
  | _, _, _, .cons r (.cons q .nil) => ⟨_, _, rfl, r, q⟩
section
variable {X : Cx} {pins : List (Addr × Obj)} {σ : St} {H : Hp} {s : Shared} {l b : Addr} {xs ys zs : List V}

/-! ### the two steps: a tracked list is rewritten, a new list is laid -/
theorem Inv.lset {its its' : List Value} {n : Nat} {f : Array Value → Array Value} {t' : Nat} (I : Inv X pins σ H s) (hH : H l = some (.lst xs))
    (e : s.heap.get? l = some { cls := .type "list", data := .seq its.toArray n }) (hf : f its.toArray = its'.toArray) (hv : Vals ys its') (hz : ys.length ≤ sizeLine) :
    Inv X pins σ (upd H l (.lst ys)) { s with heap := s.heap.update l (Obj.mapSeq f), toks := t' } := by
  have q := PySem.IsL.update e f
  rw [hf] at q
  refine I.write (x := l) (e := l) (by rw [hH]; exact trivial) (.inl rfl) (fun b' u hb hu => (Heap.get?_update_other s.heap (Obj.mapSeq f) (Ne.symm hb)).trans hu) ⟨_, q⟩ ?_
  exact ⟨hz, its', _, hv, q⟩
theorem Inv.lnew {its : List Value} {t' : Nat} (I : Inv X pins σ H s) (hv : Vals ys its) (hz : ys.length ≤ sizeLine) :
    Inv X pins σ (upd H s.heap.objs.size (.lst ys)) { s with heap := s.heap.push { cls := .type "list", data := .seq its.toArray }, toks := t' } :=
  I.laid (fun _ _ q => Heap.get?_push_of_some _ q) (Nat.le_refl _) ⟨hz, its, 0, hv, Heap.get?_push_size _ rfl⟩
theorem Inv.fresh (I : Inv X pins σ H s) : H s.heap.objs.size = none := I.hok.fresh (Nat.le_refl _)
theorem Inv.lstM (I : Inv X pins σ H s) (hH : H l = some (.lst xs)) : xs.length ≤ sizeLine ∧ ∃ (its : List Value) (n : Nat), Vals xs its ∧ xs.length = its.length ∧ s.heap.get? l = some { cls := .type "list", data := .seq its.toArray n } := by
  obtain ⟨z, its, n, r, e⟩ := I.hok l _ hH
  exact ⟨z, its, n, r, r.length, e⟩

end

section
variable {X : Cx}

/-! ### methods -/
def rAppend : V → List V → Hp → VK → Prop := fun x vs H Q => ∃ l xs y, x = .ref l ∧ vs = [y] ∧ H l = some (.lst xs) ∧ xs.length < sizeLine ∧ Q .non (upd H l (.lst (xs ++ [y])))
theorem mt_append : MtM X "list.append" rAppend := by
  unfold MtM at *
  exact by
    intro pins s σ H x vs v us Q I rx rv h
    obtain ⟨l, xs, y, rfl, rfl, hH, hz, q⟩ := h
    cases rx
    obtain ⟨u, rfl, ru⟩ := rv.one
    obtain ⟨z, its, n, r, hl, e⟩ := I.lstM hH
    refine call_meets F.slot_list_append ⟨_, e, rfl⟩ F.entry_list_append (F.args_list_append_2 _ _) (PySem.list_append l its.toArray n u (by rw [List.size_toArray]; omega)) ⟨e, ?_⟩
    refine ⟨.non, _, I.lset (its' := its ++ [u]) hH e (by simp) (r.append (.cons ru .nil)) ?_, rfl, q⟩
    rw [List.length_append, List.length_singleton]
    omega

/-! ### list + list, list += list, list * int -/
def rCat : R2 := fun x y H Q => ∃ l b xs zs, x = .ref l ∧ y = .ref b ∧ H l = some (.lst xs) ∧ H b = some (.lst zs) ∧ xs.length + zs.length ≤ sizeLine ∧ ∀ p, H p = none → Q (.ref p) (upd H p (.lst (xs ++ zs)))
theorem op_cat : OpR X (binaryOp .Add) rCat := by
  unfold OpR at *
  exact by
    intro pins s σ H x y v u Q I rx ry h
    obtain ⟨l, b, xs, zs, rfl, rfl, hH, hB, hz, q⟩ := h
    cases rx
    cases ry
    obtain ⟨z, its, n, r, hl, e⟩ := I.lstM hH
    obtain ⟨z2, its2, n2, r2, hl2, e2⟩ := I.lstM hB
    refine PySem.P.add_list e e2 ?_ (by rw [List.size_toArray, List.size_toArray]; omega)
    have ea : its.toArray ++ its2.toArray = (its ++ its2).toArray := by simp
    rw [ea]
    exact ⟨.ref _, _, I.lnew (t' := s.toks) (r.append r2) (by rw [List.length_append]; omega), rfl, q _ I.fresh⟩

/-! ### del xs[i] -/
end

/-! ### xs[a:b] = ys -/
section
variable {prog : Program} {w : World} {A : Around} {E : Value → Shared → Prop} {s : Shared}
set_option maxRecDepth 100000 in
end

section
variable {X : Cx}
end
end L2


namespace L2
open PySem PySem.Spec PyProof.Rows

/-! ### lists of pairs as tables -/
section
variable {κ : Type} [DecidableEq κ]
def valV (kvs : List (κ × V)) (k : κ) : Option V := (kvs.find? fun kv => decide (kv.1 = k)).map (·.2)
/-- in its place, or at the end -/
def putK (kvs : List (κ × V)) (k : κ) (v : V) : List (κ × V) :=
  if (kvs.any fun kv => decide (kv.1 = k)) = true then kvs.map (fun kv => if kv.1 = k then (kv.1, v) else kv) else kvs ++ [(k, v)]
theorem valV_nil {k : κ} : valV ([] : List (κ × V)) k = none := rfl
theorem valV_pos {p : κ × V} {r : List (κ × V)} {k : κ} (e : p.1 = k) : valV (p :: r) k = some p.2 := by simp [valV, List.find?_cons, e]
theorem valV_neg {p : κ × V} {r : List (κ × V)} {k : κ} (e : ¬ p.1 = k) : valV (p :: r) k = valV r k := by simp [valV, List.find?_cons, e]
theorem valV_any (k : κ) : ∀ kvs : List (κ × V), (kvs.any fun kv => decide (kv.1 = k)) = (valV kvs k).isSome
  | [] => rfl
  | p :: r => by
    rw [List.any_cons]
    by_cases e : p.1 = k
    · simp only [valV_pos e, decide_eq_true e, Bool.true_or, Option.isSome_some]
    · rw [valV_neg e, decide_eq_false e, Bool.false_or]; exact valV_any k r
theorem valV_map (k j : κ) (y : V) : ∀ kvs : List (κ × V), valV (kvs.map fun kv => if kv.1 = k then (kv.1, y) else kv) j = (valV kvs j).map fun x => if j = k then y else x
  | [] => rfl
  | p :: r => by
    have ih := valV_map k j y r
    rw [List.map_cons]
    by_cases h : p.1 = k
    · rw [if_pos h]
      by_cases e : p.1 = j
      · rw [valV_pos (p := (p.1, y)) e, valV_pos e, Option.map_some, if_pos (e.symm.trans h)]
      · rw [valV_neg (p := (p.1, y)) e, valV_neg e, ih]
    · rw [if_neg h]
      by_cases e : p.1 = j
      · rw [valV_pos (p := p) e, valV_pos e, Option.map_some, if_neg (fun z => h (e.trans z))]
      · rw [valV_neg (p := p) e, valV_neg e, ih]
theorem valV_snoc (k j : κ) (y : V) : ∀ kvs : List (κ × V), valV kvs k = none → valV (kvs ++ [(k, y)]) j = if j = k then some y else valV kvs j
  | [], _ => by
    by_cases e : k = j
    · rw [if_pos e.symm]; exact valV_pos (p := (k, y)) e
    · rw [if_neg (fun z => e z.symm)]; exact valV_neg (p := (k, y)) e
  | p :: r, hn => by
    rw [List.cons_append]
    have hk : ¬ p.1 = k := fun z => by rw [valV_pos z] at hn; cases hn
    rw [valV_neg hk] at hn
    have ih := valV_snoc k j y r hn
    by_cases e : p.1 = j
    · rw [valV_pos e, valV_pos e, if_neg (fun z => hk (e.trans z))]
    · rw [valV_neg e, valV_neg e, ih]
theorem valV_put (kvs : List (κ × V)) (k j : κ) (y : V) : valV (putK kvs k y) j = if j = k then some y else valV kvs j := by
  unfold putK
  by_cases a : (kvs.any fun kv => decide (kv.1 = k)) = true
  · rw [if_pos a, valV_map]
    rw [valV_any] at a
    by_cases e : j = k
    · obtain ⟨x, hx⟩ := Option.isSome_iff_exists.mp a
      rw [if_pos e, e, hx, Option.map_some, if_pos rfl]
    · rw [if_neg e]
      cases valV kvs j with
      | none => rfl
      | some x => rw [Option.map_some, if_neg e]
  · rw [if_neg a]
    refine valV_snoc k j y kvs ?_
    rw [valV_any] at a
    cases q : valV kvs k with
    | none => rfl
    | some x => rw [q] at a; exact (a rfl).elim
theorem length_putK (kvs : List (κ × V)) (k : κ) (v : V) : (putK kvs k v).length ≤ kvs.length + 1 := by
  unfold putK
  split
  · rw [List.length_map]; omega
  · rw [List.length_append, List.length_cons, List.length_nil]; omega
theorem RelO.isSome_eq {o : Option V} {u : Option Value} (r : RelO o u) : o.isSome = u.isSome := by
  cases o with
  | none => cases u with
    | none => rfl
    | some _ => exact (show False from r).elim
  | some _ => cases u with
    | none => exact (show False from r).elim
    | some _ => rfl
/-- raw tables of the same keys -/
theorem KV.val {kvs : List (κ × V)} {vs : List (κ × Value)} (r : KV kvs vs) (k : κ) : RelO (valV kvs k) (valueAt vs k) := by
  unfold KV at r
  induction r with
  | nil => exact True.intro
  | @cons p q ps qs h t ih =>
    obtain ⟨h1, h2⟩ := h
    by_cases e : p.1 = k
    · have e' : q.1 = k := h1.symm.trans e
      have b : valueAt (q :: qs) k = some q.2 := by simp [valueAt, List.find?_cons, e']
      rw [valV_pos e, b]; exact h2
    · have e' : ¬ q.1 = k := fun z => e (h1.trans z)
      have b : valueAt (q :: qs) k = valueAt qs k := by simp [valueAt, List.find?_cons, e']
      rw [valV_neg e, b]; exact ih
theorem KV.any {kvs : List (κ × V)} {vs : List (κ × Value)} (r : KV kvs vs) (k : κ) : (kvs.any fun kv => decide (kv.1 = k)) = vs.any fun kv => decide (kv.1 = k) := by
  unfold KV at r
  induction r with
  | nil => rfl
  | cons h t ih => rw [List.any_cons, List.any_cons, ih, h.1]
theorem KV.repl {kvs : List (κ × V)} {vs : List (κ × Value)} (r : KV kvs vs) (k : κ) {y : V} {u : Value} (ry : RelV y u) :
    KV (kvs.map fun kv => if kv.1 = k then (kv.1, y) else kv) (vs.map fun kv => if kv.1 = k then (kv.1, u) else kv) := by
  unfold KV at r ⊢
  induction r with
  | nil => exact .nil
  | @cons p q ps qs h t ih =>
    rw [List.map_cons, List.map_cons]
    refine .cons ?_ ih
    obtain ⟨h1, h2⟩ := h
    by_cases e : p.1 = k
    · rw [if_pos e, if_pos (h1.symm.trans e)]; exact ⟨h1, ry⟩
    · rw [if_neg e, if_neg (fun z => e (h1.trans z))]; exact ⟨h1, h2⟩
theorem KV.put {kvs : List (κ × V)} {vs : List (κ × Value)} (r : KV kvs vs) (k : κ) {y : V} {u : Value} (ry : RelV y u) : KV (putK kvs k y) (stored vs k u) := by
  unfold putK stored
  rw [r.any k]
  by_cases e : (vs.any fun kv => decide (kv.1 = k)) = true
  · rw [if_pos e, if_pos e]; exact r.repl k ry
  · rw [if_neg e, if_neg e]; exact Paired.snoc r ⟨rfl, ry⟩
theorem KV.length {kvs : List (κ × V)} {vs : List (κ × Value)} (r : KV kvs vs) : kvs.length = vs.length := Paired.length r
end


/-! ### a tracked dict, its keys ints and texts or tuples of these -/
theorem kV_is {P : Program} {w : World} {k : Key} {u : Value} (r : RelV (kV k) u) : (mixKind P w).is k u = true := by
  cases k with
  | inl i => obtain ⟨t, e⟩ := (show ∃ t, u = Value.int i t from r); subst e; exact mixKind_int P w i t
  | inr x => obtain ⟨t, e⟩ := (show ∃ t, u = Value.str x t from r); subst e; exact mixKind_str P w x t
theorem items_are {P : Program} {w : World} : ∀ {ks : List Key} {us : List Value}, Vals (ks.map kV) us → ItemsAre (mixKind P w) ks us
  | [], _, r => by rw [List.map_nil] at r; cases r; exact .nil
  | k :: ks, _, r => by
    rw [List.map_cons] at r
    cases r with
    | cons h t => exact .cons (kV_is h) (items_are t)

/-- raw entries of a dict with tuple keys -/
abbrev KT (H : Hp) : List (List Key × V) → List (List Key × Addr × Value) → Prop := Paired fun p q => p.1 = q.1 ∧ H q.2.1 = some (.tup (p.1.map kV)) ∧ RelV p.2 q.2.2
theorem KT.val {H : Hp} {kvs : List (List Key × V)} {xs : List (List Key × Addr × Value)} (r : KT H kvs xs) (k : List Key) : RelO (valV kvs k) ((atKey xs k).map (·.2)) := by
  induction r with
  | nil => exact True.intro
  | @cons p q ps qs h t ih =>
    obtain ⟨h1, _, h2⟩ := h
    by_cases e : p.1 = k
    · have e' : q.1 = k := h1.symm.trans e
      have b : atKey (q :: qs) k = some q.2 := by simp [atKey, List.find?_cons, e']
      rw [valV_pos e, b]; exact h2
    · have e' : ¬ q.1 = k := fun z => e (h1.trans z)
      have b : atKey (q :: qs) k = atKey qs k := by simp [atKey, List.find?_cons, e']
      rw [valV_neg e, b]; exact ih
theorem KT.repl {H : Hp} {kvs : List (List Key × V)} {xs : List (List Key × Addr × Value)} (r : KT H kvs xs) (k : List Key) {y : V} {u : Value} (ry : RelV y u) :
    KT H (kvs.map fun kv => if kv.1 = k then (kv.1, y) else kv) (xs.map (putAt k u)) := by
  induction r with
  | nil => exact .nil
  | @cons p q ps qs h t ih =>
    rw [List.map_cons, List.map_cons]
    refine .cons ?_ ih
    obtain ⟨h1, h2, h3⟩ := h
    unfold putAt
    by_cases e : p.1 = k
    · rw [if_pos e, if_pos (h1.symm.trans e)]; exact ⟨h1, h2, ry⟩
    · rw [if_neg e, if_neg (fun z => e (h1.trans z))]; exact ⟨h1, h2, h3⟩
theorem KT.put {H : Hp} {kvs : List (List Key × V)} {xs : List (List Key × Addr × Value)} (r : KT H kvs xs) (k : List Key) {b : Addr} {y : V} {u : Value} (hb : H b = some (.tup (k.map kV))) (ry : RelV y u) :
    KT H (putK kvs k y) (storedH xs k b u) := by
  have e : (kvs.any fun kv => decide (kv.1 = k)) = (atKey xs k).isSome := by
    rw [valV_any, (r.val k).isSome_eq, Option.isSome_map]
  unfold putK storedH
  rw [e]
  by_cases q : (atKey xs k).isSome = true
  · rw [if_pos q, if_pos q]; exact r.repl k ry
  · rw [if_neg q, if_neg q]; exact Paired.snoc r ⟨rfl, hb, ry⟩
theorem KT.keeps {H H' : Hp} {kvs : List (List Key × V)} {xs : List (List Key × Addr × Value)} (r : KT H kvs xs) (ht : ∀ b ys, H b = some (.tup ys) → H' b = some (.tup ys)) : KT H' kvs xs :=
  Paired.mapP r fun _ _ z => ⟨z.1, ht _ _ z.2.1, z.2.2⟩

section
variable {P : Program} {w : World} {H : Hp} {h : Heap} {a : Addr}
theorem rd_of {u : HO} (ok : HOk P w H h) (e : Rd H a u) : ObjOk P w H h a u := e.ok ok
theorem dk_rd {kvs : List (Key × V)} (ok : HOk P w H h) (e : Rd H a (.dK kvs)) : kvs.length ≤ sizeLine ∧ (a == sysModules) = false ∧ ∃ vs, KV kvs vs ∧ h.DictOf (mixKind P w) a vs :=
  show ObjOk P w H h a (.dK kvs) from rd_of ok e
theorem dk_of {kvs : List (Key × V)} (ok : HOk P w H h) (e : H a = some (.dK kvs)) : kvs.length ≤ sizeLine ∧ (a == sysModules) = false ∧ ∃ vs, KV kvs vs ∧ h.DictOf (mixKind P w) a vs := dk_rd ok (.inl e)
/-- a tracked tuple of ints and texts is a key -/
theorem key_of {ks : List Key} (ok : HOk P w H h) (e : H a = some (.tup (ks.map kV))) : (tupleKind (mixKind P w)).is h ks a := by
  obtain ⟨_, its, r, o, h1, h2, n, h3⟩ := (show ObjOk P w H h a (.tup (ks.map kV)) from ok a _ e)
  exact ⟨o, its.toArray, n, h1, h2, h3, by simpa using items_are r⟩
theorem dt_rd {kvs : List (List Key × V)} (ok : HOk P w H h) (e : Rd H a (.dT kvs)) : kvs.length ≤ sizeLine ∧ (a == sysModules) = false ∧
    ∃ xs, KT H kvs xs ∧ h.DictOfH (tupleKind (mixKind P w)) a xs := by
  obtain ⟨z, y, xs, r, o, es, ep, h1, h2, h3, h4, h5⟩ := (show ObjOk P w H h a (.dT kvs) from rd_of ok e)
  refine ⟨z, y, xs, r, o, es, ep, h1, h2, h3, h4, fun x hx => ?_, h5⟩
  have all : ∀ {l : List (List Key × V)} {m : List (List Key × Addr × Value)}, KT H l m → ∀ x ∈ m, (tupleKind (mixKind P w)).is h x.1 x.2.1 := by
    intro l m q
    induction q with
    | nil => intro x hx; exact nomatch hx
    | @cons p q ps qs hq t ih =>
      intro x hx
      rcases List.mem_cons.mp hx with e | hx
      · subst e
        exact key_of ok (by rw [← hq.1]; exact hq.2.1)
      · exact ih x hx
  exact all r x hx
theorem dt_of {kvs : List (List Key × V)} (ok : HOk P w H h) (e : H a = some (.dT kvs)) : kvs.length ≤ sizeLine ∧ (a == sysModules) = false ∧
    ∃ xs, KT H kvs xs ∧ h.DictOfH (tupleKind (mixKind P w)) a xs := dt_rd ok (.inl e)
end

/-- what the dict at a holds at the key y -/
def DGet (H : Hp) (a : Addr) (y : V) (r : Option V) : Prop :=
  (∃ kvs k, Rd H a (.dK kvs) ∧ y = kV k ∧ r = valV kvs k) ∨ ∃ kvs k b, Rd H a (.dT kvs) ∧ y = .ref b ∧ H b = some (.tup (k.map kV)) ∧ r = valV kvs k
/-- the heap behind a[y] = v -/
def DPut (H : Hp) (a : Addr) (y v : V) (H' : Hp) : Prop :=
  (∃ kvs k, H a = some (.dK kvs) ∧ y = kV k ∧ kvs.length < sizeLine ∧ H' = upd H a (.dK (putK kvs k v))) ∨
  ∃ kvs k b, H a = some (.dT kvs) ∧ y = .ref b ∧ H b = some (.tup (k.map kV)) ∧ kvs.length < sizeLine ∧ H' = upd H a (.dT (putK kvs k v))
theorem DGet.k {H : Hp} {a : Addr} {kvs : List (Key × V)} {k : Key} (e : H a = some (.dK kvs)) : DGet H a (kV k) (valV kvs k) := .inl ⟨kvs, k, .inl e, rfl, rfl⟩
theorem DPut.k {H : Hp} {a : Addr} {kvs : List (Key × V)} {k : Key} {v : V} (e : H a = some (.dK kvs)) (hl : kvs.length < sizeLine) : DPut H a (kV k) v (upd H a (.dK (putK kvs k v))) := .inl ⟨kvs, k, e, rfl, hl, rfl⟩
section
variable {X : Cx} {pins : List (Addr × Obj)} {σ : St} {H : Hp} {s : Shared} {a : Addr} {y v : V} {u r : Value} {o : Option V} {A : Around} {E : Value → Shared → Prop}

theorem Inv.big (I : Inv X pins σ H s) : sysModules < s.heap.objs.size := by
  have h : mainGlobals < s.heap.objs.size := (I.mod.glob.keeps I.bk).lt
  exact Nat.lt_trans (by decide) h

/-- y in d -/
theorem d_in {Q : Value → Shared → Prop} (hu : A.units + 1 < cLine) (I : Inv X pins σ H s) (g : DGet H a y o) (ry : RelV y u) (h : ∀ s', Inv X pins σ H s' → Q (.bool o.isSome) s') :
    wpAny (model X.prog X.w) A (compareOp .In u (.ref a)) Q E s := by
  rcases g with ⟨kvs, k, e, ey, l⟩ | ⟨kvs, k, b, e, ey, eb, l⟩
  · subst ey
    obtain ⟨z, hd, vs, rel, dd⟩ := dk_rd I.hok e
    refine wpAny_in_of (kV_is ry) hd dd.mapOf ?_
    rw [← (rel.val k).isSome_eq, ← l]
    exact h _ (I.tok _)
  · subst ey
    cases (show u = Value.ref b from ry)
    obtain ⟨z, hd, xs, rel, dd⟩ := dt_rd I.hok e
    refine wpAny_in_heap (tupleKind_room_in1 hu) (key_of I.hok eb) hd dd ?_
    have q := (rel.val k).isSome_eq
    rw [Option.isSome_map] at q
    rw [← q, ← l]
    exact h _ (I.tok _)
/-- a dict's object is replaced -/
theorem d_write {h' : Heap} {t' : Nat} {ob : HO} (I : Inv X pins σ H s) (mu : Mut (H a)) (hs : Heap.SameBut a s.heap h') (he : ∃ q, h'.get? a = some q) (new : ObjOk X.prog X.w (upd H a ob) h' a ob) :
    Inv X pins σ (upd H a ob) { s with heap := h', toks := t' } :=
  I.write (x := a) (e := a) mu (.inl rfl) (fun b q hb z => (hs.2 b hb).trans z) he new
theorem dk_new {P : Program} {w : World} {H' : Hp} {h' : Heap} {kvs : List (Key × V)} {vs : List (Key × Value)} (z : kvs.length ≤ sizeLine) (hd : (a == sysModules) = false) (rel : KV kvs vs) (dd : h'.DictOf (mixKind P w) a vs) :
    ObjOk P w H' h' a (.dK kvs) := ⟨z, hd, vs, rel, dd⟩
/-- d[y] = v -/
theorem d_setItem {H' : Hp} {Q : Unit → Shared → Prop} (hu : A.units + 1 < cLine) (I : Inv X pins σ H s) (g : DPut H a y v H') (ry : RelV y u) (rv : RelV v r) (h : ∀ s', Inv X pins σ H' s' → Q () s') :
    wpAny (model X.prog X.w) A (setItem (.ref a) u r) Q E s := by
  rcases g with ⟨kvs, k, e, ey, l, eH⟩ | ⟨kvs, k, b, e, ey, eb, l, eH⟩
  · subst ey eH
    obtain ⟨z, hd, vs, rel, dd⟩ := dk_of I.hok e
    have hz : vs.length ≤ sizeLine := by rw [← rel.length]; exact z
    have hl : (putK kvs k v).length ≤ sizeLine := by have := length_putK kvs k v; omega
    refine wpAny_setItem_pairs (hsz := hz) (kV_is ry) dd fun h' dd' hs => h _ ?_
    have he : ∃ q, h'.get? a = some q := let ⟨q, _, _, hq, _⟩ := dd'; ⟨q, hq⟩
    exact d_write I (by rw [e]; exact True.intro) hs he (dk_new hl hd (rel.put k rv) dd')
  · subst ey eH
    cases (show u = Value.ref b from ry)
    obtain ⟨z, hd, xs, rel, dd⟩ := dt_of I.hok e
    have hz : xs.length ≤ sizeLine := by rw [← Paired.length rel]; exact z
    have hl : (putK kvs k v).length ≤ sizeLine := by have := length_putK kvs k v; omega
    refine wpAny_setItem_heap (hsz := hz) (tupleKind_room_in1 hu) (key_of I.hok eb) dd fun h' dd' hs => h _ ?_
    obtain ⟨q, es, ep, hq, h2, h3, h4, _, h5⟩ := dd'
    refine d_write I (by rw [e]; exact True.intro) hs ⟨q, hq⟩ ⟨hl, hd, _, (rel.put k eb rv).keeps fun c ys ec => ?_, q, es, ep, hq, h2, h3, h4, h5⟩
    rw [upd_ne (ne_of ec e (fun z => nomatch z))]
    exact ec
end

section
variable {X : Cx} {pins : List (Addr × Obj)} {σ : St} {H : Hp} {s : Shared} {a : Addr} {kvs : List (Key × V)} {k : Key} {u : Value} {A : Around} {E : Value → Shared → Prop}
end


/-! ### readings and rules -/
/-- y in d, y not in d -/
def tDIn (ty td : TE) : TE := fun σ H Q => ty σ H fun y H1 => td σ H1 fun x H2 => ∃ a o, x = .ref a ∧ DGet H2 a y o ∧ Q (.bl o.isSome) H2
/-- d[y] = v -/
def sDPut (td ty tv : TE) : TS := fun D σ H => tv σ H fun v H1 => td σ H1 fun x H2 => ty σ H2 fun y H3 => ∃ a H4, x = .ref a ∧ DPut H3 a y v H4 ∧ D.nx σ H4
section
variable {X : Cx} {o i e value : Expr} {pos pos' tpos : Pos} {td ty tv : TE}
theorem pc_din (hu : X.A.units + 1 < cLine) (hi : PE X i ty) (ho : PE X o td) : PC X .In i o (tDIn ty td) := by
  unfold PE at *; unfold PC at *
  exact by
    intro pins s σ H Q I h
    refine thn (hi pins s σ H _ I h) fun iv s1 ⟨y, H1, I1, ry, q1⟩ => thn (ho pins s1 σ H1 _ I1 q1) fun u s2 ⟨x, H2, I2, rx, a, ov, ex, g, q2⟩ => ?_
    subst ex
    obtain rfl : u = Value.ref a := rx
    exact d_in hu I2 g ry fun s3 I3 => ⟨.bl ov.isSome, H2, I3, rfl, q2⟩

theorem ps_dput (hu : X.A.units + 1 < cLine) (ho : PE X o td) (hi : PE X i ty) (hv : PE X value tv) (hs : swapsWith value (some (.Subscript o i pos')) pos.line X.env = pure false) :
    PS X (.Assign [.Subscript o i pos'] value pos) (sDPut td ty tv) := by
  unfold PE at *; unfold PS at *
  exact by
    intro pins s σ H D I h
    refine wpAny_Assign_Subscript (thn (hv pins s σ H _ I h) fun r s1 ⟨v, H1, I1, rv, q1⟩ => thn (ho pins s1 σ H1 _ I1 q1) fun u s2 ⟨x, H2, I2, rx, q2⟩ => thn (hi pins s2 σ H2 _ I2 q2) fun iv s3 ⟨y, H3, I3, ry, a, H4, ex, g, q3⟩ => ?_) hs
    subst ex
    obtain rfl : u = Value.ref a := rx
    exact d_setItem hu I3 g ry rv fun s4 I4 => ⟨σ, H4, I4, q3⟩

end


/-! ### displays -/
theorem dk_empty {P : Program} {w : World} {H : Hp} (h : Heap) (hb : sysModules < h.objs.size) : ObjOk P w H (h.push { cls := .type "dict", data := .dict #[] }) h.objs.size (.dK []) :=
  ⟨Nat.zero_le _, beq_eq_false_iff_ne.mpr (Ne.symm (Nat.ne_of_lt hb)), [], .nil, Heap.DictOf.new h⟩
/-- {}, to be a dict of the kind that is wanted -/
def tDNewK : TE := fun _ H Q => ∀ p, H p = none → Q (.ref p) (upd H p (.dK []))
section
variable {X : Cx} {pos : Pos}
theorem pe_dnewK : PE X (.Dict [] [] pos) tDNewK := by
  unfold PE at *
  exact (fun pins s σ H Q I h =>
    wpAny_Dict_empty ⟨.ref s.heap.objs.size, _, I.laid (a := s.heap.objs.size) (o := .dK []) (t' := s.toks) (fun _ _ q => Heap.get?_push_of_some _ q) (Nat.le_refl _) (dk_empty s.heap I.big), rfl, h _ (I.hok.fresh (Nat.le_refl _))⟩)

end

/-! ### methods -/
section
variable {X : Cx} {pins : List (Addr × Obj)} {σ : St} {H : Hp} {s : Shared} {a : Addr} {y d : V} {u r : Value} {o : Option V} {A : Around} {E : Value → Shared → Prop}
end

section
variable {X : Cx} {o e f : Expr} {apos cpos : Pos} {td ty tx : TE}
end

/-! ### dict(d): a copy -/
section
variable {X : Cx} {pins : List (Addr × Obj)} {σ : St} {H : Hp} {s : Shared} {a : Addr} {kvs : List (Key × V)} {A : Around} {E : Value → Shared → Prop}
end


section
variable {X : Cx} {pins : List (Addr × Obj)} {σ : St} {H : Hp} {s : Shared} {a : Addr} {y : V} {u : Value} {A : Around} {E : Value → Shared → Prop}
end
end L2

namespace Att
open PySem PySem.W PySem.Calls PyProof.Rows

/-! ### the script -/
theorem ints_of_wellAll {P : Params} {h : Heap} : ∀ (ns : List Int) (vs : List Value), WellAll P h vs (ns.map WData.int) → IntsAre vs ns := by
  intro ns
  induction ns with
  | nil =>
    intro vs w
    rw [List.map_nil] at w
    cases w
    exact .nil
  | cons n ns ih =>
    intro vs w
    rw [List.map_cons] at w
    cases w with
    | cons a b =>
      cases a
      exact .cons _ _ (ih _ b)

theorem script_of {l : OpenLaw} {n : Nat} (hn : l.most = some n) {P : Params} {h : Heap} {args : List WData} {vals : List Value}
    (hpre : l.row.toRowW.claim.pre args = true) (hwl : WellAll P h vals args) :
    ∃ a vs ns, vals = [Value.ref a] ∧ args = [WData.list (ns.map WData.int)] ∧ h.get? a = some { cls := .type "list", data := .seq vs.toArray } ∧ IntsAre vs ns ∧ ns.length ≤ n := by
  have hsh : WShape.hasAll [] args [.list .int] = true := (pre_splitW hpre).1
  have hc : l.pre.holds [] { args := args } = true := (pre_splitW hpre).2
  obtain ⟨d, r, rfl, h1, h2⟩ := hasAllW_cons hsh
  obtain rfl := hasAllW_nil h2
  obtain ⟨xs, rfl, h3⟩ := hasW_list h1
  obtain ⟨ns, rfl⟩ := items_int h3
  have hlen : ns.length ≤ n := by
    unfold OpenLaw.pre at hc
    have h4 : (WTm.not (.lt (.lit (.int (n : Int))) (.len (.arg 0)))).holds [] { args := [.list (ns.map .int)] } = true := by
      have h4 := (holds_andW hc).1
      rw [hn] at h4
      exact h4
    have h5 := condW_of h4 (w_not (w_lt w_lit (w_len_list (w_arg rfl))))
    rw [List.length_map] at h5
    refine Nat.le_of_not_lt fun q => ?_
    have q' : (n : Int) < ((ns.length : Nat) : Int) := by omega
    first
      | (rw [decide_eq_true q'] at h5; exact absurd h5 (by decide))
      | (simp at h5; omega)
  cases hwl with
  | cons w1 w2 =>
    cases w2
    cases w1 with
    | list ho hall => exact ⟨_, _, ns, rfl, rfl, ho, ints_of_wellAll ns _ hall, hlen⟩

theorem post_true (l : OpenLaw) (args : List WData) : l.row.toRowW.claim.post args (.bool true) args = true :=
  postW_of (r := l.row.toRowW) (X := (true == true))
    (show WShape.has [] (.bool true) .bool = true by first | rfl | decide | simp [WShape.has, WShape.arms, WShape.armsAll])
    (show (WTm.eq .res (.lit (.bool true))).value [] { args := args, res := some (.bool true), after := args } = some (.bool (true == true)) from w_eq_bool (w_res rfl) w_lit) rfl

/-! ### the attachment: holds_open's last premise (the goal 'hc' behind k_head) from a wpAny of the law's body -/
/-- the same from a codeAny of the CALL (for a layer whose function contracts speak of calls) -/
theorem attach_call {l : OpenLaw} {n : Nat} {q : Program} {loose : List Str} {XP : (Str → Option Value) → Heap → Prop} {YP : World → Heap → Prop} {d : DefRec}
    (hn : l.most = some n) (hdf : d.params.defaults = [])
    (call : ∀ (w : World) (s₀ s₁ : Shared) (mg mb : Str → Option Value) (fa : Addr) (o : Obj) (pm cd doc : Value) (a : Addr) (vs : List Value) (ns : List Int),
      Ground q loose [] XP w s₀ mg mb s₁.heap → YP w s₁.heap →
      s₁.heap.get? fa = some o → o.data = .func (docDef d.name d.params d.body d.scope pm cd doc) → s₁.heap.CodeRec cd d.name → mg d.name = some (.ref fa) →
      s₁.heap.get? a = some { cls := .type "list", data := .seq vs.toArray } → IntsAre vs ns → ns.length ≤ n → s₁.gens = #[] →
      codeAny (model l.prog w) callerA (.call (.ref fa) ⟨[.ref a], []⟩) (fun r s' => r = .ok (.ret (.bool true)) ∧ OldK s₁.heap s'.heap ∧ s'.os = s₁.os ∧ AllBare s'.gens) s₁) :
    WalkO q loose XP YP l.row.toRowW d [] (fun f vs => PySem.call f vs) := by
  intro w s₀ s₁ mg mb G Y fa o pm cd doc dV kV ho hd hcd hD hmg hg args vals as hpre hlay hrd hwl hlo
  obtain rfl : dV = .none := Dflts.none hD hdf
  obtain rfl : kV = .none := Dflts.noKw hD
  obtain ⟨a, vs, ns, rfl, rfl, hobj, hints, hlen⟩ := script_of hn hpre hwl
  refine enter_call (codeAny_mono (call w s₀ s₁ mg mb fa o pm cd doc a vs ns G Y ho (fd_plain hd) hcd hmg hobj hints hlen hg) fun r s' hq => ?_)
  obtain ⟨rfl, h2, h3, h4⟩ := hq
  exact ⟨.inl ⟨.bool true, .bool true, [], rfl, fun _ => rfl, .bool true, post_true l _, fun _ => ⟨List.Pairwise.nil, fun _ hm => (nomatch hm)⟩⟩, h2, h3, h4⟩

/-! ### rules over ANY heap (no ledger) from facts about the written part K: the library's own take a ledger (News) for what they write -/
section
variable {prog : Program} {w : World} {A : Around} {E : Value → Shared → Prop} {s : Shared} {K : Frag}

/-! the whole heap as the ledger: makes every rule that writes through a ledger a rule over any heap -/
def ledger (h : Heap) (L d : Addr) : List (Addr × Obj) := (List.range h.objs.size).filterMap fun a => if a = L ∨ a = d then none else (h.get? a).map fun o => (a, o)
end
end Att

namespace L2
open PySem PySem.Spec PyProof.Rows

theorem vals_ints : ∀ {vs : List Value} {ns : List Int}, IntsAre vs ns → Vals (ns.map V.int) vs
  | _, _, .nil => .nil
  | _, _, .cons n t h => .cons ⟨t, rfl⟩ (vals_ints h)

/-- nothing is tracked but the script, known to the object (or it is an object of the module) -/
def Only (H : Hp) : Prop := ∀ b, H b = none ∨ ∃ o xs, H b = some (.frz o (.lst xs))

/-- THE HEAD: the law's promise, at the heap behind the top. F, the promise of the law's def, may use that base is part of the heap (so K.In base, base.Ns mainGlobals mg stand in Mod) -/
theorem law_call {P : Program} {w : World} {K : PySem.W.Frag} {mg mb : Str → Option Value} {CX : CXT} {k : Nat} {fa a : Addr} {fd : FuncData} {x : Str} {sp : Sp} {s₁ : Shared} {vs : List Value} {ns : List Int}
    (KX : K.In s₁.heap) (hns : s₁.heap.Ns mainGlobals mg) (hb : s₁.heap.Ns builtinsNs mb) (hbb : ∀ x : Str, x ≠ "__name__" → mb x = bootBuiltins x) (hlim : s₁.heap.NoLimit) (hg : s₁.gens = #[])
    (ha : s₁.heap.get? a = some { cls := .type "list", data := .seq vs.toArray }) (hi : IntsAre vs ns) (hl : ns.length ≤ sizeLine) (hr : Room k callerA)
    (F : ∀ base : Heap, K.In base → base.Ns mainGlobals mg → FnOk P w K mg base CX k fa fd [x] sp) (hbind : ∀ (s : Shared) (u : Value), BindsTo s fd ⟨[u], []⟩ [(x, u)])
    (hsp : ∀ H : Hp, Only H → SqL K H a (ns.map V.int) → sp [.ref a] H (fun v _ => v = .bl true) fun _ _ _ => False)
    (hCX : ∀ H e s', CX [] H s₁ (fun _ _ _ => False) e s' → False) :
    codeAny (model P w) callerA (.call (.ref fa) ⟨[.ref a], []⟩) (fun r s' => r = .ok (.ret (.bool true)) ∧ OldK s₁.heap s'.heap ∧ s'.os = s₁.os ∧ AllBare s'.gens) s₁ := by
  have rv := vals_ints hi
  have lenV := hi.length
  -- from an abstract heap in which nothing but the script may be tracked
  have core : ∀ H : Hp, Only H → SqL K H a (ns.map V.int) → HOk P w H s₁.heap → (∀ b, H b ≠ none → b = a) → (H a ≠ none → K.lookup a = none) →
      codeAny (model P w) callerA (.call (.ref fa) ⟨[.ref a], []⟩) (fun r s' => r = .ok (.ret (.bool true)) ∧ OldK s₁.heap s'.heap ∧ s'.os = s₁.os ∧ AllBare s'.gens) s₁ := by
    intro H hO hS hok hA hK
    have base_of : ∀ {b : Addr} {o : Obj}, s₁.heap.get? b = some o → H b = none → (hidT s₁.heap H).get? b = some o := fun e n => hidT_get e n
    have noA : ∀ {b : Addr} {o : Obj} {es : Array DictEntry} {ep : Nat}, s₁.heap.get? b = some o → o.data = .dict es ep → H b = none := fun {b o es ep} e d => by
      cases q : H b with
      | none => rfl
      | some u =>
        have e' : b = a := hA b (by rw [q]; simp)
        subst e'
        rw [ha] at e; cases e
        have d' : Data.seq vs.toArray _ = Data.dict es ep := d
        cases d'
    have nsK : ∀ {b : Addr} {m : Str → Option Value}, s₁.heap.Ns b m → (hidT s₁.heap H).Ns b m := fun {b m} ⟨o, es, ep, e, d, r⟩ => ⟨o, es, ep, base_of e (noA e d), d, r⟩
    have hKb : K.In (hidT s₁.heap H) := fun b o e => base_of (KX b o e) (by
      cases q : H b with
      | none => rfl
      | some u =>
        have e' : b = a := hA b (by rw [q]; simp)
        subst e'
        rw [hK (by rw [q]; simp)] at e; cases e)
    have hM : Mod K mg (hidT s₁.heap H) := ⟨hKb, nsK hns, ⟨mb, nsK hb, hbb⟩, let ⟨mc, h1, h2⟩ := hlim; ⟨mc, nsK h1, h2⟩⟩
    have e0 : Env0 P w K mg (hidT s₁.heap H) callerA [] s₁ H := ⟨rfl, hM, fun b o e => of_hidT e, Nat.le_of_eq (hidT_size _ _), trivial, fun b hb => absurd (show b ∈ ([] : List Addr) from hb) (by simp), hok, .of_eq hg⟩
    refine codeAny_mono ((F _ hKb (nsK hns)).run callerA [] s₁ H ⟨[.ref a], []⟩ [.ref a] [.ref a] _ _ hr e0 (hbind s₁ (.ref a)) (.cons rfl .nil) (hsp H hO hS)) fun r s' h => ?_
    cases r with
    | error e => exact (hCX H e s' h).elim
    | ok fl =>
      cases fl with
      | next => exact False.elim h
      | brk => exact False.elim h
      | cont => exact False.elim h
      | ret u =>
        obtain ⟨v, H', os, bare, un, hok', r', q⟩ := h
        have q' : v = .bl true := q
        subst q'
        obtain rfl : u = Value.bool true := r'
        refine ⟨rfl, OldK.of_keep fun b o e => ?_, os, bare⟩
        cases q : H b with
        | none => exact un.keep b o e q (by intro z; exact absurd (show b ∈ ([] : List Addr) from z) (by simp)) (by simp)
        | some u =>
          rcases hO b with z | ⟨ob, xs, z⟩
          · rw [q] at z; cases z
          · have z2 := un.frzs b ob _ z
            obtain ⟨e1, _⟩ := hok b _ z
            obtain ⟨e2, _⟩ := hok' b _ z2
            rw [e] at e1; cases e1
            exact e2
  cases hk : K.lookup a with
  | some o =>
    -- the script is one of the module's own objects
    have e := KX a o hk
    rw [ha] at e
    cases e
    refine core (fun _ => none) (fun _ => .inl rfl) (.inr ⟨_, vs.toArray, _, hk, rfl, rfl, rfl, by rw [List.size_toArray, lenV]; exact hl, by simpa using rv⟩) (fun b u z => by have z' : (none : Option HO) = some u := z; cases z') (fun b z => absurd rfl z) fun z => absurd rfl z
  | none =>
    refine core (fun b => if b = a then some (.frz { cls := .type "list", data := .seq vs.toArray } (.lst (ns.map V.int))) else none) (fun b => ?_) (.inl (.inr ⟨{ cls := .type "list", data := .seq vs.toArray }, if_pos rfl⟩)) (fun b u z => ?_) (fun b z => ?_) fun _ => hk
    · by_cases hb : b = a
      · exact .inr ⟨_, _, if_pos hb⟩
      · exact .inl (if_neg hb)
    · by_cases hb : b = a
      · have z' := (if_pos hb).symm.trans z
        cases z'
        subst hb
        exact ⟨ha, by rw [List.length_map]; exact hl, vs, _, rv, ha⟩
      · have z' := (if_neg hb).symm.trans z
        cases z'
    · by_cases hb : b = a
      · exact hb
      · exact absurd (if_neg hb) z
end L2

namespace L2
open PySem PySem.Spec PyProof.Rows

/-- the goal that k_head leaves (case hc), from the law's promise. F gives the function object fd (K's own) once, then the promise over every base -/
theorem walk_of {l : PySem.W.OpenLaw} {n k : Nat} {q : Program} {loose : List Str} {XP : (Str → Option Value) → Heap → Prop} {YP : World → Heap → Prop} {d : DefRec} {K : Params → PySem.W.Frag} {CX : World → CXT} {sp : World → Sp} {x : Str}
    (hn : l.most = some n) (hn2 : n ≤ sizeLine) (hdf : d.params.defaults = []) (hr : Room k callerA)
    (hY : ∀ (w : World) (h : Heap), YP w h → (K w.params).In h)
    (F : ∀ (w : World) (mg : Str → Option Value) (fa : Addr) (h : Heap), (K w.params).In h → h.Ns mainGlobals mg → mg d.name = some (.ref fa) →
      ∃ fd : FuncData, (∀ (s : Shared) (u : Value), BindsTo s fd ⟨[u], []⟩ [(x, u)]) ∧
        ∀ base : Heap, (K w.params).In base → base.Ns mainGlobals mg → FnOk l.prog w (K w.params) mg base (CX w) k fa fd [x] (sp w))
    (hsp : ∀ (w : World) (H : Hp) (a : Addr) (ns : List Int), ns.length ≤ n → Only H → SqL (K w.params) H a (ns.map V.int) → sp w [.ref a] H (fun v _ => v = .bl true) fun _ _ _ => False)
    (hCX : ∀ (w : World) (H : Hp) (s : Shared) (e : Value) (s' : Shared), CX w [] H s (fun _ _ _ => False) e s' → False) :
    PySem.W.WalkO q loose XP YP l.row.toRowW d [] (fun f vs => PySem.call f vs) := by
  refine Att.attach_call hn hdf fun w s₀ s₁ mg mb fa o pm cd doc a vs ns G Y ho hd hcd hmg hobj hints hlen hg => ?_
  have KX := hY w _ Y
  obtain ⟨fd, hb, hF⟩ := F w mg fa _ KX G.T.g hmg
  exact law_call KX G.T.g G.T.b G.T.builtins G.T.nolimit hg hobj hints (Nat.le_trans hlen hn2) hr hF hb (fun H hO hS => hsp w H a ns hlen hO hS) fun H e s' => hCX w H s₁ e s'
/-- the same where the promise hangs on the written part alone: (sp := My.sp_law), no hole under a binder -/
theorem walk_ofK {l : PySem.W.OpenLaw} {n k : Nat} {q : Program} {loose : List Str} {XP : (Str → Option Value) → Heap → Prop} {YP : World → Heap → Prop} {d : DefRec} {K : Params → PySem.W.Frag} {CX : CXT} {sp : PySem.W.Frag → Sp} {x : Str}
    (hn : l.most = some n) (hn2 : n ≤ sizeLine) (hdf : d.params.defaults = []) (hr : Room k callerA)
    (hY : ∀ (w : World) (h : Heap), YP w h → (K w.params).In h)
    (F : ∀ (w : World) (mg : Str → Option Value) (fa : Addr) (h : Heap), (K w.params).In h → h.Ns mainGlobals mg → mg d.name = some (.ref fa) →
      ∃ fd : FuncData, (∀ (s : Shared) (u : Value), BindsTo s fd ⟨[u], []⟩ [(x, u)]) ∧
        ∀ base : Heap, (K w.params).In base → base.Ns mainGlobals mg → FnOk l.prog w (K w.params) mg base CX k fa fd [x] (sp (K w.params)))
    (hsp : ∀ (K : PySem.W.Frag) (H : Hp) (a : Addr) (ns : List Int), ns.length ≤ n → Only H → SqL K H a (ns.map V.int) → sp K [.ref a] H (fun v _ => v = .bl true) fun _ _ _ => False)
    (hCX : ∀ (H : Hp) (s : Shared) (e : Value) (s' : Shared), CX [] H s (fun _ _ _ => False) e s' → False) :
    PySem.W.WalkO q loose XP YP l.row.toRowW d [] (fun f vs => PySem.call f vs) :=
  walk_of (K := K) (CX := fun _ => CX) (sp := fun w => sp (K w.params)) hn hn2 hdf hr hY F (fun w H a ns h1 h2 h3 => hsp (K w.params) H a ns h1 h2 h3) fun _ H s e s' => hCX H s e s'
end L2

/- THE LAST THEOREM (shape; LID, My.* are yours):
   My.Adr: a structure of the addresses that your layer names (classes, functions); My.Txt K t: a structure (Prop) of the equations over K;
   My.txt_mk : {K} {implicit addresses ..} (e1 : nsIn K mainGlobals "law" = some (some (.ref f))) (e2 : K.lookup f = some ⟨oc, od, .func (fnOf "law" "law" params body scope dV kV doc pm an cdv ct), sl⟩) (e3 : codeIn K cdv "law" = true) .. : ∃ t, My.Txt K t

set_option maxRecDepth 100000 in
set_option maxHeartbeats 0 in
(the tactic k_is has no namespace: write k_is) -/

/-! SHORT WORDS over the layer: a def of the text, its body, what a loop and a test want. -/
namespace L2
open PySem PySem.Spec PyProof.Rows

/-! ### the text by places -/
def defArgs (s : Stmt) : Arguments := match s with
  | .FunctionDef _ a _ _ _ _ _ _ _ _ => a
  | _ => { posonlyargs := [], args := [], vararg := none, kwonlyargs := [], kw_defaults := [], kwarg := none, defaults := [] }
def defBody (s : Stmt) : List Stmt := match s with
  | .FunctionDef _ _ b _ _ _ _ _ _ _ => b
  | _ => []
def defScope (s : Stmt) : Scope := match s with
  | .FunctionDef _ _ _ _ _ _ sc _ _ _ => sc
  | _ => { kind := .function, names := [], isGenerator := false, isCoroutine := false }

/-! ### no exception leaves a def -/
abbrev CX0 : CXT := fun _ _ _ _ _ _ => False
abbrev E0 : XK := fun _ _ _ => False
theorem pass0 {X : Cx} : Passes CX0 X E0 := fun _ _ _ _ _ _ _ h => h.elim

/-! ### a def (or method) of the text as it stands behind the top -/
structure Fun (K : PySem.W.Frag) (x qual : Str) (st : Stmt) (f : Addr) (fd : FuncData) : Prop where
  ex : ∃ (oc : Value) (od : Option Addr) (kV doc pm : Value) (an : Option Addr) (cdv ct : Value) (osl : Array (Option Value)),
    fd = PySem.W.fnOf x qual (defArgs st) (defBody st) (defScope st) .none kV doc pm an cdv ct ∧ K.lookup f = some ⟨oc, od, .func fd, osl⟩ ∧ PySem.W.codeIn K cdv qual = true
  kp : PySem.W.keepIn K (.ref f) = true
section
variable {P : Program} {w : World} {K : PySem.W.Frag} {mg : Str → Option Value} {base : Heap}
/-- THE RULE for a def: its body as a term of rules, and the reading of that term -/
theorem Fun.ok {x qual : Str} {st : Stmt} {f : Addr} {fd : FuncData} {N ps : List Str} {k : Nat} {sp : Sp} (F : Fun K x qual st f fd) (S : FnScope N ps (defScope st)) (len : ∀ vs H Q E, sp vs H Q E → vs.length = ps.length)
    (hbody : ∀ (cdv : Value) (A : Around) (outer : List Env) (s : Shared) (H : Hp) (vs : List V) (Q : VK) (E : XK), Room k (A.deeper (envOfC qual (defScope st) s.heap.objs.size f cdv)) → sp vs H Q E →
      ∃ t, PSs (cxOf CX0 P w K mg base N qual (defScope st) f cdv A outer s H E).nox (defBody st) t ∧ t { nx := fun _ H' => Q .non H', rt := Q } (start N vs) H) : FnOk P w K mg base CX0 (k + 1) f fd ps sp := by
  obtain ⟨oc, od, kV, doc, pm, an, cdv, ct, osl, rfl, lk, hcd⟩ := F.ex
  refine fn_of lk hcd S len fun A outer s H vs Q E hr hsp => ?_
  obtain ⟨t, h, q⟩ := hbody cdv A outer s H vs Q E hr hsp
  exact ⟨t, h.nox, q⟩
/-- how its arguments bind (no defaults): h is «fun _ _ _ _ _ _ us hl => match us, hl with | [_, _], _ => rfl», one _ a parameter -/
theorem Fun.binds {x qual : Str} {st : Stmt} {f : Addr} {fd : FuncData} {ps : List Str} (F : Fun K x qual st f fd)
    (h : ∀ (kV doc pm : Value) (an : Option Addr) (cdv ct : Value) (us : List Value), us.length = ps.length → bindArgs (PySem.W.fnOf x qual (defArgs st) (defBody st) (defScope st) .none kV doc pm an cdv ct) ⟨us, []⟩ = pure (ps.zip us)) : Binds K fd ps [] := by
  obtain ⟨oc, od, kV, doc, pm, an, cdv, ct, osl, rfl, lk, hcd⟩ := F.ex
  exact .all (h kV doc pm an cdv ct)
theorem fun_mk {x qual : Str} {st : Stmt} {f : Addr} {oc : Value} {od an : Option Addr} {osl : Array (Option Value)} {kV doc pm cdv ct : Value} (l : K.lookup f = some ⟨oc, od, .func (PySem.W.fnOf x qual (defArgs st) (defBody st) (defScope st) .none kV doc pm an cdv ct), osl⟩)
    (c : PySem.W.codeIn K cdv qual = true) (k : PySem.W.keepIn K (.ref f) = true) : Fun K x qual st f (PySem.W.fnOf x qual (defArgs st) (defBody st) (defScope st) .none kV doc pm an cdv ct) := ⟨⟨oc, od, kV, doc, pm, an, cdv, ct, osl, rfl, l, c⟩, k⟩
end
theorem hu_of {A : Around} {k : Nat} (hr : Room k A) : A.units + 1 < cLine := Nat.lt_of_le_of_lt (Nat.add_le_add_left (by decide : 1 ≤ 64) _) hr.units
/-! ### expressions in short: the name that stands in the i-th slot -/
section
variable {X : Cx}
theorem pv (i : Nat) {x : Str} {pos : Pos} (hN : X.N[i]? = some x := by rfl) (hv : Vis X.env.scope x := by first | exact Or.inl rfl | exact Or.inr (Or.inl rfl) | exact Or.inr (Or.inr rfl)) (hd : (x == ("__debug__" : Str)) = false := by decide)
    (hcd : (x == ("__classdict__" : Str)) = false := by decide) : PE X (.Name x pos) (tVar i) := by
  first
  | exact (pe_var hN hv hd hcd)
  | (unfold PE at *; exact (pe_var hN hv hd hcd))

end

/-! ### tests -/
theorem iteF {A B : Prop} (h : B) : if false = true then A else B := by
  rw [if_neg Bool.false_ne_true]
  exact h
theorem iteT {A B : Prop} (h : A) : if true = true then A else B := by
  rw [if_pos rfl]
  exact h
theorem ite2 {c A B : Prop} [Decidable c] (h1 : c → A) (h2 : ¬ c → B) : if c then A else B := by
  by_cases h : c
  · rw [if_pos h]
    exact h1 h
  · rw [if_neg h]
    exact h2 h
/-! ### heaps -/
/-- all that was tracked is as it was -/
def Same (H H' : Hp) : Prop := ∀ b o, H b = some o → H' b = some o
theorem Same.refl (H : Hp) : Same H H := fun _ _ h => h
theorem Same.trans {H H1 H2 : Hp} (a : Same H H1) (b : Same H1 H2) : Same H H2 := fun c o h => b c o (a c o h)
theorem Same.free {H H' : Hp} (e : Same H H') {l : Addr} (h : H' l = Option.none) : H l = Option.none := by
  cases q : H l with
  | none => rfl
  | some o =>
    rw [e l o q] at h
    cases h
theorem Same.seq {K : PySem.W.Frag} {H H' : Hp} {a : Addr} {xs : List V} (e : Same H H') (h : SqL K H a xs) : SqL K H' a xs := by
  rcases h with (h | ⟨o, h⟩) | h
  · exact .inl (.inl (e _ _ h))
  · exact .inl (.inr ⟨o, e _ _ h⟩)
  · exact .inr h

/-! ### a dict's pairs: keys that differ -/
section
variable {κ : Type} [DecidableEq κ]
end
end L2


set_option maxHeartbeats 4000000
namespace L2
open PySem PySem.Spec PyProof.Rows

/-! ### small rules of my own: isinstance, is True, len of any -/
section
variable {X : Cx} {a b c : Expr} {ta tb tc : TE} {pos : Pos}
/-- a class as a value -/
inductive ClsV : V → Value → Prop where
  | ty (n : String) : ClsV (.ty n) (.type n)
  | own (C : Addr) : ClsV (.ref C) (.ref C)
def rIsi (K : PySem.W.Frag) : List V → Hp → VK → Prop := fun xs H Q => ∃ x c cv t b, xs = [x, c] ∧ ClsV c cv ∧ TyOf K H x t ∧ PySem.W.kitOne K t cv = some b ∧ Q (.bl b) H
theorem call_isi : CallR X (.builtin "isinstance") (rIsi X.K) := by
  unfold CallR at *
  exact by
    intro pins s σ H xs us Q I rv h
    obtain ⟨x, c, cv, t, b, rfl, hc, ty, e, q⟩ := h
    obtain ⟨u, cu, rfl, ru, rc⟩ := rv.two
    have ec : cu = cv := by cases hc <;> exact rc
    subst ec
    exact isinst_ok I ru ty e fun tk => ⟨.bl b, H, I.tok tk, rfl, q⟩

end
end L2

namespace L2
open PySem PySem.Spec PyProof.Rows

/-! ### list comprehensions (own work over the hand layer) -/
/- what a block's context hangs on: the closure's cells, the state and abstract heap ahead of the block, the iterator's records -/
set_option genInjectivity false in
set_option genSizeOfSpec false in
set_option genSizeOf false in
structure Bk where
  cl : List (Str × Addr)
  s2 : Shared
  H2 : Hp
  fp : List Addr
def cxComp (X : Cx) (scope : Scope) (N' : List Str) (B : Bk) : Cx :=
  { X with N := N', s₀ := B.s2, H₀ := B.H2, env := compEnvC scope B.cl B.s2.heap.objs.size X.env, outer := X.stack, stack := X.stack, ex := B.fp, fn := fun _ => false, pn := [], xe := fun _ _ => False }
/-- the block's names: its own (none), and those it captures (some j: the slot j of the def) -/
def capS (js : List (Option Nat)) (σ : St) : St := js.map fun o => o.bind fun j => (σ[j]?).join
structure Cap (X : Cx) (scope : Scope) (N' : List Str) (js : List (Option Nat)) : Prop where
  len : js.length = N'.length
  ok : ∀ (i j : Nat) (x : Str), js[i]? = some (some j) → N'[i]? = some x → X.N[j]? = some x ∧ scope.names.lookup x = some .free ∧ (X.env.kindOf x = some .cell ∨ X.env.kindOf x = some .free)

theorem closure_go {env : Env} : ∀ (names : List (Str × NameKind)) (cs : List (Str × Addr)), (∀ x ∈ names, x.2 = .free → ∃ c, env.cells.lookup x.1 = some c) → (∀ x c, cs.lookup x = some c → env.cells.lookup x = some c) →
    ∃ cl, (forIn names cs (fun (x : Str × NameKind) (r : List (Str × Addr)) => match x with
      | (name, kind) => if (kind == NameKind.free) = true then (do let y ← cellOf env name; pure (ForInStep.yield ((name, y) :: r))) else pure (ForInStep.yield r)) : Sem (List (Str × Addr))) = pure cl ∧
      (∀ x c, cl.lookup x = some c → env.cells.lookup x = some c) ∧ (∀ x c, cs.lookup x = some c → ∃ c', cl.lookup x = some c') ∧ ∀ x, (x, NameKind.free) ∈ names → ∃ c, cl.lookup x = some c := by
  intro names
  induction names with
  | nil => intro cs _ h2; exact ⟨cs, rfl, h2, fun x c e => ⟨c, e⟩, fun x hx => absurd hx (by simp)⟩
  | cons y r ih =>
    intro cs h1 h2
    obtain ⟨n, k⟩ := y
    have h1r : ∀ x ∈ r, x.2 = .free → ∃ c, env.cells.lookup x.1 = some c := fun x hx => h1 x (List.mem_cons_of_mem _ hx)
    by_cases hk : k = .free
    · subst hk
      obtain ⟨c, hc⟩ := h1 (n, .free) List.mem_cons_self rfl
      have h2' : ∀ x d, List.lookup x ((n, c) :: cs) = some d → env.cells.lookup x = some d := fun x d e => by
        by_cases hx : x = n
        · subst hx
          simp only [List.lookup_cons, beq_self_eq_true] at e
          rw [hc]; exact e
        · have hb : (x == n) = false := by simpa using hx
          simp only [List.lookup_cons, hb] at e
          exact h2 x d e
      obtain ⟨cl, e1, e2, e3, e4⟩ := ih ((n, c) :: cs) h1r h2'
      refine ⟨cl, ?_, e2, fun x d e => ?_, fun x hx => ?_⟩
      · rw [List.forIn_cons]
        have q : cellOf env n = pure c := by unfold cellOf; rw [hc]
        show ((if (NameKind.free == NameKind.free) = true then (do let y ← cellOf env n; pure (ForInStep.yield ((n, y) :: cs))) else pure (ForInStep.yield cs)) >>= _) = _
        rw [if_pos (by decide), q]
        exact e1
      · by_cases hx : x = n
        · exact e3 x c (by subst hx; simp [List.lookup_cons])
        · exact e3 x d (by have hb : (x == n) = false := by simpa using hx
                           simp only [List.lookup_cons, hb]; exact e)
      · rcases List.mem_cons.mp hx with z | z
        · injection z with z1 _
          exact e3 x c (by subst z1; simp [List.lookup_cons])
        · exact e4 x z
    · obtain ⟨cl, e1, e2, e3, e4⟩ := ih cs h1r h2
      refine ⟨cl, ?_, e2, e3, fun x hx => ?_⟩
      · rw [List.forIn_cons]
        have hb : (k == NameKind.free) = false := by simpa using hk
        show ((if (k == NameKind.free) = true then _ else pure (ForInStep.yield cs)) >>= _) = _
        rw [if_neg (by rw [hb]; decide)]
        exact e1
      · rcases List.mem_cons.mp hx with z | z
        · injection z with _ z2
          exact absurd z2.symm hk
        · exact e4 x z
theorem closure_of {scope : Scope} {env : Env} (h : ∀ x ∈ scope.names, x.2 = .free → ∃ c, env.cells.lookup x.1 = some c) :
    ∃ cl, closureFor scope env = pure cl ∧ (∀ x c, cl.lookup x = some c → env.cells.lookup x = some c) ∧ ∀ x, (x, NameKind.free) ∈ scope.names → ∃ c, cl.lookup x = some c := by
  obtain ⟨cl, e1, e2, _, e4⟩ := closure_go (env := env) scope.names [] h (fun x c e => by simp at e)
  refine ⟨cl, ?_, e2, e4⟩
  have q : closureFor scope env = (forIn scope.names [] (fun (x : Str × NameKind) (r : List (Str × Addr)) => match x with
      | (name, kind) => if (kind == NameKind.free) = true then (do let y ← cellOf env name; pure (ForInStep.yield ((name, y) :: r))) else pure (ForInStep.yield r)) : Sem (List (Str × Addr))) >>= fun r => pure r := rfl
  rw [q, e1]
  rfl

theorem relabel_free {env : Env} : ∀ {names : List (Str × NameKind)} {x : Str}, names.lookup x = some .free →
    (names.map fun (n, k) => if (k == NameKind.free && env.scope.kind == .function && env.kindOf n == some .cell) then (n, NameKind.cell) else (n, k)).lookup x = some .cell ∨
    (names.map fun (n, k) => if (k == NameKind.free && env.scope.kind == .function && env.kindOf n == some .cell) then (n, NameKind.cell) else (n, k)).lookup x = some .free
  | [], _, h => by simp at h
  | (n, k) :: r, x, h => by
    have ih := @relabel_free env r x
    simp only [List.map_cons]
    cases hx : x == n with
    | true =>
      simp only [List.lookup_cons, hx] at h
      cases h
      by_cases hc : (NameKind.free == NameKind.free && env.scope.kind == .function && env.kindOf n == some .cell) = true
      · rw [if_pos hc]; left; simp only [List.lookup_cons, hx]
      · rw [if_neg hc]; right; simp only [List.lookup_cons, hx]
    | false =>
      simp only [List.lookup_cons, hx] at h
      by_cases hc : (k == NameKind.free && env.scope.kind == .function && env.kindOf n == some .cell) = true
      · rw [if_pos hc]; simp only [List.lookup_cons, hx]; exact ih h
      · rw [if_neg hc]; simp only [List.lookup_cons, hx]; exact ih h
theorem relabel_inv {env : Env} : ∀ {names : List (Str × NameKind)} {x : Str},
    ((names.map fun (n, k) => if (k == NameKind.free && env.scope.kind == .function && env.kindOf n == some .cell) then (n, NameKind.cell) else (n, k)).lookup x = some .cell ∨
    (names.map fun (n, k) => if (k == NameKind.free && env.scope.kind == .function && env.kindOf n == some .cell) then (n, NameKind.cell) else (n, k)).lookup x = some .free) →
    names.lookup x = some .cell ∨ names.lookup x = some .free
  | [], _, h => by simp at h
  | (n, k) :: r, x, h => by
    have ih := @relabel_inv env r x
    simp only [List.map_cons] at h
    cases hx : x == n with
    | true =>
      simp only [List.lookup_cons, hx]
      by_cases hc : (k == NameKind.free && env.scope.kind == .function && env.kindOf n == some .cell) = true
      · right
        have : k = .free := by
          simp only [Bool.and_eq_true] at hc
          simpa using hc.1.1
        rw [this]
      · rw [if_neg hc] at h
        simp only [List.lookup_cons, hx] at h
        exact h
    | false =>
      simp only [List.lookup_cons, hx]
      apply ih
      by_cases hc : (k == NameKind.free && env.scope.kind == .function && env.kindOf n == some .cell) = true
      · rw [if_pos hc] at h; simp only [List.lookup_cons, hx] at h; exact h
      · rw [if_neg hc] at h; simp only [List.lookup_cons, hx] at h; exact h

theorem comp_start {X : Cx} {pins : List (Addr × Obj)} {σ : St} {H2 : Hp} {s2 : Shared} {scope : Scope} {cl : List (Str × Addr)} {N' : List Str} {js : List (Option Nat)} {fp : List Addr} {h' : Heap} {t' : Nat} {m0 : Str → Option Value}
    (I : Inv X pins σ H2 s2) (hk : scope.kind = .function) (hcell : ∀ y ∈ scope.names, y.2 ≠ .cell)
    (hf : ∀ b ∈ fp, FpOk X pins H2 b) (ho : ∀ b ∈ fp, ∃ o, s2.heap.get? b = some o)
    (c1 : ∀ x c, cl.lookup x = some c → X.env.cells.lookup x = some c) (c2 : ∀ x, (x, NameKind.free) ∈ scope.names → ∃ c, cl.lookup x = some c)
    (cap : Cap X scope N' js) (ns : h'.Ns s2.heap.objs.size m0) (sb : ∀ b o, s2.heap.get? b = some o → h'.get? b = some o) :
    Inv (cxComp X scope N' ⟨cl, s2, H2, fp⟩) [] (capS js σ) H2 { s2 with heap := h', toks := t' } := by
  have isc : ∀ c v, s2.heap.IsCell c v → h'.IsCell c v := fun c v ⟨o, e, d⟩ => ⟨o, sb _ _ e, d⟩
  refine ⟨⟨I.ok.mod, hk, I.ok.glob, I.ok.blt, Nat.le_refl _, fun x y c h1 h2 => I.ok.inj x y c (c1 x c h1) (c1 y c h2), fun x hx => ?_, fun x c h => absurd h (by simp [cxComp]), I.ok.hd, I.ok.frames, .inl rfl, fun b hb => ⟨?_, fun x c e => ?_⟩, I.bs, Nat.le_trans I.ok.bsz I.sz,
    fun b o e hb => ?_, fun b hb hs => ?_, I.stack, I.stkFree⟩, rfl, I.bare, Un.kept sb, ⟨m0, ns, fun i x v e1 e2 e3 => ?_⟩, fun x c e => ?_, I.hok.fresh (Nat.le_refl _), fun x c e => I.freeC x c (c1 x c e), fun p hp => absurd hp (by simp [cxComp]), I.hok.kept sb, ?_⟩
  · have hx' := relabel_inv (env := X.env) (names := scope.names) (x := x) hx
    rcases hx' with z | z
    · exact absurd rfl (hcell _ (PySem.mem_of_lookup z))
    · exact c2 x (PySem.mem_of_lookup z)
  · obtain ⟨o, e⟩ := ho b hb
    exact Nat.ne_of_lt (Heap.lt_size e)
  · exact (hf b hb).2.2.2.2.1 x c (c1 x c e)
  · rcases (hf b hb).2.2.2.1 with z | z
    · exact I.ok.noex b o e z
    · exact absurd (Nat.lt_of_lt_of_le (Heap.lt_size e) (Nat.le_trans I.ok.bsz z)) (Nat.lt_irrefl _)
  · rcases List.mem_cons.mp (I.stkSub b hs) with z | z
    · exact (hf b hb).2.1 z
    · exact (hf b hb).2.2.1 z
  · have e2' : ((js.map fun o => o.bind fun j => (σ[j]?).join) : St)[i]? = some (some v) := e2
    rw [List.getElem?_map] at e2'
    cases q : js[i]? with
    | none => rw [q] at e2'; cases e2'
    | some o =>
      rw [q] at e2'
      cases o with
      | none => simp at e2'
      | some j =>
        have q2 : (σ[j]?).join = some v := by simpa using e2'
        have q3 : σ[j]? = some (some v) := by
          cases z : σ[j]? with
          | none => rw [z] at q2; cases q2
          | some w => rw [z] at q2; exact congrArg some q2
        obtain ⟨n1, n2, n3⟩ := cap.ok i j x q e1
        obtain ⟨m, hm, hl⟩ := I.loc
        obtain ⟨u, r, l⟩ := hl j x v n1 q3 (.inr n3)
        refine ⟨u, r, .inr ⟨relabel_free (env := X.env) n2, ?_⟩⟩
        obtain ⟨c, hc⟩ := c2 x (PySem.mem_of_lookup n2)
        refine ⟨c, hc, ?_⟩
        rcases l with ⟨l, _⟩ | ⟨_, c', e', z'⟩
        · rcases n3 with n3 | n3 <;> (rw [n3] at l; cases l)
        · have := c1 x c hc
          rw [e'] at this; cases this
          exact isc _ _ z'
  · obtain ⟨v, z⟩ := I.cell x c (c1 x c e)
    exact ⟨v, isc _ _ z⟩
  · show (js.map _).length = N'.length
    rw [List.length_map]; exact cap.len

/-- a comprehension's tests -/
@[irreducible] def PIfs (X : Cx) (ifs : List Expr) (t : TT) : Prop :=
  ∀ (pins : List (Addr × Obj)) (s : Shared) (σ : St) (H : Hp) (Q : Bool → Hp → Prop), Inv X pins σ H s → t σ H Q →
    wpAny (model X.prog X.w) X.A (forIn ifs true fun c r => if r = true then do let ok ← isTrue c X.env (eval c X.env); pure (ForInStep.yield ok) else pure (ForInStep.yield r)) (TP X pins σ Q) X.xe s
def tAll : TT := fun _ H Q => Q true H
theorem pifs_nil {X : Cx} : PIfs X [] tAll := by
  first
  | exact (fun _ _ _ H _ I h => wpAny_tests_nil ⟨H, I, h⟩)
  | (unfold PIfs at *; exact (fun _ _ _ H _ I h => wpAny_tests_nil ⟨H, I, h⟩))

theorem pifs_one {X : Cx} {c : Expr} {t : TT} (hc : PT X c t) : PIfs X [c] t := by
  first
  | exact (fun pins s σ H Q I h => wpAny_tests_one (hc pins s σ H Q I h))
  | (unfold PT at *; unfold PIfs at *; exact (fun pins s σ H Q I h => wpAny_tests_one (hc pins s σ H Q I h)))

section
variable {prog : Program} {w : World} {A : Around} {R : Result → Shared → Prop} {s : Shared}
theorem compLoop_go {elt target iter : Expr} {ifs : List Expr} {scope : Scope} {pos : Pos} {it acc : Value} {env : Env} (I : Nat → Shared → Prop)
    (turn : ∀ n s, I n s → wpAny (model prog w) A (pyNext it) (fun r s₁ => match r with
      | none => R (.ok .next) s₁
      | some v => wpAny (model prog w) A (letOwnedTupleGo target it v) (fun _ s₁ => wpAny (model prog w) A (assign target env v) (fun _ s₂ =>
          wpAny (model prog w) A (forIn ifs true fun c r => if r = true then do let ok ← isTrue c env (eval c env); pure (ForInStep.yield ok) else pure (ForInStep.yield r)) (fun ok s₃ =>
            if ok = true then wpAny (model prog w) A (eval elt env) (fun x s₄ =>
              wpAny (model prog w) A (call (.builtin "list.append") [acc, x]) (fun _ s₅ => ∃ m, m < n ∧ I m s₅) (fun _ _ => False) s₄) (fun _ _ => False) s₃
            else ∃ m, m < n ∧ I m s₃) (fun _ _ => False) s₂) (fun _ _ => False) s₁) (fun _ _ => False) s₁) (fun _ _ => False) s)
    (n : Nat) (h : I n s) :
    codeAny (model prog w) A (.compLoop (.ListComp elt [⟨target, iter, ifs, 0⟩] scope pos) 0 it acc env) R s := by
  refine codeAny_loop rfl I (fun n s hI => ?_) n h
  show wpAny _ A ((compTurn (.ListComp elt [⟨target, iter, ifs, 0⟩] scope pos) 0 it acc env).onRaise (fun x => do noteFrame x env; theTreesLotGoes x)) _ _ s
  refine wpAny_noted ?_
  rw [compTurn_list]
  refine wpAny_bind (wpAny_standAt (wpAny_bind (wpAny_mono (turn n s hI) (fun r s₁ h₁ => ?_) fun _ _ h' => h'.elim)))
  cases r with
  | none => exact wpAny_pure h₁
  | some v =>
    refine wpAny_bind (wpAny_mono h₁ (fun _ s₁ h₁ => ?_) fun _ _ h' => h'.elim)
    refine wpAny_bind (wpAny_mono h₁ (fun _ s₂ h₂ => wpAny_bind (wpAny_mono h₂ (fun ok s₃ h₃ => ?_) fun _ _ h' => h'.elim)) fun _ _ h' => h'.elim)
    cases ok with
    | false => exact wpAny_pure ⟨rfl, h₃⟩
    | true =>
      exact wpAny_bind (wpAny_bind (wpAny_mono h₃ (fun x s₄ h₄ => wpAny_bind (wpAny_mono h₄ (fun _ s₅ h₅ => wpAny_pure (wpAny_pure ⟨rfl, h₅⟩)) fun _ _ h' => h'.elim)) fun _ _ h' => h'.elim))
end

/-- the reading of a comprehension's loop: W by the turn, a measure, the block's names, the list so far, the heap -/
def tLoop (J : It) (l : Addr) (g : TG) (tc : TT) (te : TE) (σ : St) (H : Hp) (Q : VK) : Prop :=
  ∃ W : Nat → Nat → St → List V → Hp → Prop, (∃ m, W 0 m σ [] H) ∧ ∀ i m σ acc H, W i m σ acc H → H l = some (.lst acc) ∧ ((J.stop i H ∧ Q (.ref l) H) ∨
    (J.go i H ∧ acc.length < sizeLine ∧ ∀ x H', J.yld i H x H' → g x σ H' fun σ2 H2 => tc σ2 H2 fun b H3 => if b = true then
      te σ2 H3 fun v H4 => H4 l = some (.lst acc) ∧ ∃ m', m' < m ∧ W (i + 1) m' σ2 (acc ++ [v]) (upd H4 l (.lst (acc ++ [v])))
      else ∃ m', m' < m ∧ W (i + 1) m' σ2 acc H3))
def tComp (js : List (Option Nat)) (wi : TI) (g : Bk → TG) (tc : Bk → TT) (te : Bk → TE) : TE := fun σ H Q => wi σ H fun J H1 => ∀ l B, H1 l = none → tLoop J l (g B) (tc B) (te B) (capS js σ) (upd H1 l (.lst [])) Q

section
variable {X : Cx} {elt tg iter : Expr} {ifs : List Expr} {scope : Scope} {pos : Pos} {N' : List Str} {js : List (Option Nat)} {wi : TI} {g : Bk → TG} {tc : Bk → TT} {te : Bk → TE}
theorem comp_block {pins : List (Addr × Obj)} {σ : St} {H1 : Hp} {s1 : Shared} {it : Addr} {fp : List Addr} {tn : Nat → Heap → Prop} {J : It} {cl : List (Str × Addr)} {Q : VK} {RR : Value → Addr → Result → Shared → Prop}
    (hc : X.calm = true) (hk : scope.kind = .function) (hcell : ∀ y ∈ scope.names, y.2 ≠ .cell) (cap : Cap X scope N' js)
    (blk : ∀ B, PG (cxComp X scope N' B) tg (g B) ∧ PIfs (cxComp X scope N' B) ifs (tc B) ∧ PE (cxComp X scope N' B) elt (te B))
    (c1 : ∀ x c, cl.lookup x = some c → X.env.cells.lookup x = some c) (c2 : ∀ x, (x, NameKind.free) ∈ scope.names → ∃ c, cl.lookup x = some c)
    (I : Inv X pins σ H1 s1) (T : Turn X.prog X.w X.K tg J fp it tn) (st : tn 0 s1.heap) (hf : ∀ b ∈ fp, FpOk X pins H1 b)
    (h : ∀ l B, H1 l = none → tLoop J l (g B) (tc B) (te B) (capS js σ) (upd H1 l (.lst [])) Q)
    (hRR : ∀ l C H' s' (m' : Str → Option Value), Inv X pins σ H' s' → Q (.ref l) H' → s'.heap.Ns C m' → H' C = none → C ≠ X.env.locals → (∀ x c, X.env.cells.lookup x = some c → c ≠ C) → C ∉ X.fs → X.s₀.heap.objs.size ≤ C → (∀ p ∈ X.pn ++ pins, p.1 ≠ C) →
      RR (.ref l) C (.ok .next) s') :
    wpAny (model X.prog X.w) X.A (newList []) (fun acc s₃ => wpAny (model X.prog X.w) X.A (newFunctionEnv scope X.env.globals cl [] X.env.qual none .none (some X.env)) (fun cenv s₄ =>
      codeAny (model X.prog X.w) X.A (.compStart (.ListComp elt [⟨tg, iter, ifs, 0⟩] scope pos) 0 (.ref it) acc { cenv with scope := relabel scope X.env }) (RR acc cenv.locals) s₄) X.xe s₃) X.xe s1 := by
  unfold PE at *; unfold PG at *; unfold PIfs at *
  exact by
    refine wpAny_newObj_type ?_
    have I2 : Inv X pins σ (upd H1 s1.heap.objs.size (.lst [])) { s1 with heap := s1.heap.push { cls := .type "list", data := .seq ([] : List Value).toArray } } := I.lnew (t' := s1.toks) .nil (Nat.zero_le _)
    have hl : H1 s1.heap.objs.size = none := I.fresh
    generalize es2 : ({ s1 with heap := s1.heap.push { cls := .type "list", data := .seq ([] : List Value).toArray } } : Shared) = s2 at I2 ⊢
    generalize el : s1.heap.objs.size = l at *
    have ne_fp : ∀ b ∈ fp, b ≠ l := fun b hb => by
      obtain ⟨o, e, _⟩ := T.obj _ _ st b hb
      rw [← el]
      exact Nat.ne_of_lt (Heap.lt_size e)
    have hf2 : ∀ b ∈ fp, FpOk X pins (upd H1 l (.lst [])) b := fun b hb => ⟨by rw [upd_ne (ne_fp b hb)]; exact (hf b hb).1, (hf b hb).2⟩
    have kp : ∀ b o, s1.heap.get? b = some o → s2.heap.get? b = some o := fun b o e => by rw [← es2]; exact Heap.get?_push_of_some _ e
    have st2 : tn 0 s2.heap := T.keep _ _ _ st fun b _ o e => kp b o e
    refine wpAny_newFunctionEnv hcell (by intro y hy; simp at hy) (fun h' ns sb => ?_) hk
    have kp2 : ∀ b o, s2.heap.get? b = some o → h'.get? b = some o := fun b o e => (sb.2 b (Nat.ne_of_lt (Heap.lt_size e))).trans (Heap.get?_push_of_some _ e)
    have st3 : tn 0 h' := T.keep _ _ _ st2 fun b _ o e => kp2 b o e
    have I3 := comp_start (t' := s2.toks + ([] : List (Str × Value)).length) (m0 := fun x => ([] : List (Str × Value)).reverse.lookup x) I2 hk hcell hf2 (fun b hb => by obtain ⟨o, e, _⟩ := T.obj _ _ st2 b hb; exact ⟨o, e⟩) c1 c2 cap ns kp2
    obtain ⟨pg, pif, pel⟩ := blk ⟨cl, s2, upd H1 l (.lst []), fp⟩
    obtain ⟨W, ⟨m0, w0⟩, turn⟩ := h l ⟨cl, s2, upd H1 l (.lst []), fp⟩ hl
    have fpY : ∀ {H' : Hp}, (∀ b ∈ fp, H' b = none) → ∀ b ∈ fp, FpOk (cxComp X scope N' ⟨cl, s2, upd H1 l (.lst []), fp⟩) [] H' b := fun {H'} hn b hb =>
      ⟨hn b hb, (I3.ok.exf b hb).1, I3.ok.exfs b hb, .inl hb, (I3.ok.exf b hb).2, fun p hp => absurd hp (by simp [cxComp])⟩
    have loop : codeAny (model X.prog X.w) X.A (.compLoop (.ListComp elt [⟨tg, iter, ifs, 0⟩] scope pos) 0 (.ref it) (.ref l) (compEnvC scope cl s2.heap.objs.size X.env)) (RR (.ref l) s2.heap.objs.size) { s2 with heap := h', toks := s2.toks + ([] : List (Str × Value)).length } := by
      refine compLoop_go (fun n s' => ∃ i σ' acc H', Inv (cxComp X scope N' ⟨cl, s2, upd H1 l (.lst []), fp⟩) [] σ' H' s' ∧ tn i s'.heap ∧ (∀ b ∈ fp, H' b = none) ∧ W i n σ' acc H') ?_ m0 ⟨0, _, _, _, I3, st3, fun b hb => (hf2 b hb).1, w0⟩
      rintro n s3 ⟨i, σ3, acc, H3, J3, t3, f3, w3⟩
      obtain ⟨hacc, alt⟩ := turn i n σ3 acc H3 w3
      rcases alt with ⟨stop, q⟩ | ⟨go, hz, step⟩
      · refine thn (T.done (cxComp X scope N' ⟨cl, s2, upd H1 l (.lst []), fp⟩) rfl rfl rfl hc i [] s3 σ3 H3 (fun _ _ => False) J3 (fpY f3) t3 stop) fun r s4 ⟨hr, J4⟩ => ?_
        subst hr
        have IX : Inv X pins σ H3 s4 := I2.call' (ch := fp) J4.os J4.base J4.hok J4.bare fun b hb => ⟨(hf2 b hb).2.2.2.1, (hf2 b hb).2.1, (hf2 b hb).2.2.2.2.1, (hf2 b hb).2.2.2.2.2⟩
        obtain ⟨m', hn', _⟩ := J4.loc
        refine hRR l s2.heap.objs.size H3 s4 m' IX q hn' J4.free (Nat.ne_of_gt I2.lt) (fun x c e => ?_) (I2.nofs (Nat.le_refl _)) I2.sz fun p hp => Nat.ne_of_lt (Heap.lt_size (I2.pin p hp).1)
        obtain ⟨v, z⟩ := I2.cell x c e
        exact Nat.ne_of_lt z.lt
      · refine thn (T.item (cxComp X scope N' ⟨cl, s2, upd H1 l (.lst []), fp⟩) rfl rfl rfl hc i [] s3 σ3 H3 (fun _ _ => False) J3 (fpY f3) t3 go) fun r s4 ⟨u, hr, h4⟩ => ?_
        subst hr
        refine thn h4 fun _ s5 ⟨x, H5, J5, r5, y5, t5, f5⟩ => ?_
        have J5' := J5.pinned (fpY f5) (T.obj _ _ t5)
        refine thn (pg _ s5 σ3 H5 x u _ J5' r5 (step x H5 y5)) fun _ s6 ⟨σ6, H6, J6, q6⟩ => ?_
        refine thn (pif _ s6 σ6 H6 _ J6 q6) fun ok s7 ⟨H7, J7, q7⟩ => ?_
        have again : ∀ {σ8 : St} {H8 : Hp} {s8 : Shared} {acc8 : List V}, Inv (cxComp X scope N' ⟨cl, s2, upd H1 l (.lst []), fp⟩) ([] ++ pinsAt fp s5.heap) σ8 H8 s8 → (∃ m', m' < n ∧ W (i + 1) m' σ8 acc8 H8) →
            ∃ m, m < n ∧ ∃ i σ' acc H', Inv (cxComp X scope N' ⟨cl, s2, upd H1 l (.lst []), fp⟩) [] σ' H' s8 ∧ tn i s8.heap ∧ (∀ b ∈ fp, H' b = none) ∧ W i m σ' acc H' := fun {σ8 H8 s8 acc8} J8 hw => by
          obtain ⟨m', hm, w8⟩ := hw
          refine ⟨m', hm, i + 1, σ8, acc8, H8, J8.unpinned, T.keep _ _ _ t5 fun b hb o e => (J8.pin (b, o) (List.mem_append_right _ (List.mem_append_right _ (mem_pinsAt hb e)))).1, fun b hb => ?_, w8⟩
          obtain ⟨o, e, d⟩ := T.obj _ _ t5 b hb
          exact (J8.pin (b, o) (List.mem_append_right _ (List.mem_append_right _ (mem_pinsAt hb e)))).2.1
        cases ok with
        | false => exact again J7 q7
        | true =>
          refine thn (pel _ s7 σ6 H7 _ J7 q7) fun xv s8 ⟨v, H8, J8, r8, hl8, m', hm, w8⟩ => ?_
          have mtq := mt_append (X := cxComp X scope N' ⟨cl, s2, upd H1 l (.lst []), fp⟩)
          unfold MtM at mtq
          refine thn (mtq _ s8 σ6 H8 (.ref l) [v] (.ref l) [xv] (fun _ H9 => H9 = upd H8 l (.lst (acc ++ [v]))) J8 rfl (.cons r8 .nil) ⟨l, acc, v, rfl, rfl, hl8, hz, rfl⟩) fun _ s9 ⟨v9, H9, J9, _, e9⟩ => ?_
          subst e9
          exact again J9 ⟨m', hm, w8⟩
    exact codeAny_compStart_list loop (T.self X.A 0 _ _ _ st3 loop)

theorem pe_comp (hc : X.calm = true) (hk : scope.kind = .function) (hcell : ∀ y ∈ scope.names, y.2 ≠ .cell) (hnames : ∀ y ∈ scope.names, y.2 = .local → scope.names.lookup y.1 = some .local)
    (hfree : ∀ y ∈ scope.names, y.2 = .free → (X.env.kindOf y.1 = some .cell ∨ X.env.kindOf y.1 = some .free)) (cap : Cap X scope N' js) (hi : PI X tg iter wi)
    (blk : ∀ B, PG (cxComp X scope N' B) tg (g B) ∧ PIfs (cxComp X scope N' B) ifs (tc B) ∧ PE (cxComp X scope N' B) elt (te B))
    (hs : ∀ x, foldedSetIterable iter X.env x = pure x := by intro _; rfl) : PE X (.ListComp elt [⟨tg, iter, ifs, 0⟩] scope pos) (tComp js wi g tc te) := by
  unfold PE; unfold PI at hi
  exact by
    intro pins s σ H Q I h
    obtain ⟨cl, hcl, c1, c2⟩ := closure_of (scope := scope) (env := X.env) fun x hx hxf => I.ok.has x.1 (hfree x hx hxf)
    rw [eval_ListComp]
    refine wpAny_comprehension_free (use := none) rfl hs hcl hk hnames (thn (hi pins s σ H _ I h) fun v s1 h1 => thn h1 fun itv s2 h2 => ?_)
    obtain ⟨it, fp, tn, J, H2, e, I2, T, st2, f2, hloop⟩ := h2
    subst e
    refine comp_block (RR := fun acc C => compPost (model X.prog X.w) X.A X.xe none (EP X pins σ Q) acc C) hc hk hcell cap blk c1 c2 I2 T st2 f2 hloop ?_
    intro l C H' s' m' I' q ns fC hL hcl' hfs hs0 hpin
    exact ⟨m', ns, fun h'' sb => ⟨.ref l, H', I'.turned (t' := s'.toks) (fun b o hb e => (sb.2 b hb).trans e) fC hL (.inr hs0) hcl' hpin, rfl, q⟩⟩

/-- name = [..] on one line: stored ahead of the block's end -/
theorem ps_setComp {i : Nat} {y : Str} {py spos : Pos} (hN : X.N.Nodup) (hy : X.N[i]? = some y) (hyk : X.env.kindOf y = some .local) (hc : X.calm = true) (hk : scope.kind = .function) (hcell : ∀ y ∈ scope.names, y.2 ≠ .cell)
    (hnames : ∀ y ∈ scope.names, y.2 = .local → scope.names.lookup y.1 = some .local)
    (hfree : ∀ y ∈ scope.names, y.2 = .free → (X.env.kindOf y.1 = some .cell ∨ X.env.kindOf y.1 = some .free)) (cap : Cap X scope N' js) (hi : PI X tg iter wi)
    (blk : ∀ B, PG (cxComp X scope N' B) tg (g B) ∧ PIfs (cxComp X scope N' B) ifs (tc B) ∧ PE (cxComp X scope N' B) elt (te B))
    (hsw : swapsWith (.ListComp elt [⟨tg, iter, ifs, 0⟩] scope pos) (some (.Name y py)) spos.line X.env = pure true := by rfl)
    (hs : ∀ x, foldedSetIterable iter X.env x = pure x := by intro _; rfl) : PS X (.Assign [.Name y py] (.ListComp elt [⟨tg, iter, ifs, 0⟩] scope pos) spos) (tAsg (tComp js wi g tc te) (gName i)) := by
  unfold PS; unfold PI at hi
  exact by
    intro pins s σ H D I h
    obtain ⟨cl, hcl, c1, c2⟩ := closure_of (scope := scope) (env := X.env) fun x hx hxf => I.ok.has x.1 (hfree x hx hxf)
    rw [exec_Assign_Name_used _ _ _ _ hsw]
    refine wpAny_bind (wpAny_standAt (wpAny_bind ?_))
    show wpAny _ X.A (do let _ ← comprehension (.ListComp elt [⟨tg, iter, ifs, 0⟩] scope pos) scope X.env _ (newList []) false (eval iter X.env) (some (assign (.Name y py) X.env))) _ _ s
    refine wpAny_bind (wpAny_mono (wpAny_comprehension_free (use := some (assign (.Name y py) X.env)) (Q := fun _ s' => SP X pins D .next s') rfl hs hcl hk hnames
      (thn (hi pins s σ H _ I h) fun v s1 h1 => thn h1 fun itv s2 h2 => ?_)) (fun _ s' hq => wpAny_pure (wpAny_pure hq)) fun _ _ e => e)
    obtain ⟨it, fp, tn, J, H2, e, I2, T, st2, f2, hloop⟩ := h2
    subst e
    refine comp_block (RR := fun acc C => compPost (model X.prog X.w) X.A X.xe (some (assign (.Name y py) X.env)) (fun _ s' => SP X pins D .next s') acc C) hc hk hcell cap blk c1 c2 I2 T st2 f2 hloop ?_
    intro l C H' s' m' I' q ns fC hL hcl' hfs hs0 hpin
    show wpAny _ X.A (assign (.Name y py) X.env (.ref l)) _ _ _
    refine wpAny_assign_Name (store_ok2 (v := .ref l) I' hN hy (.inl hyk) rfl (fun s'' I'' sb => ?_) (.inr hyk))
    obtain ⟨a, sb, ha⟩ := sb
    have hCa : C ≠ a := by
      rcases ha with z | z
      · rw [z]; exact hL
      · exact fun z' => hcl' y a z z'.symm
    refine ⟨m', ns.sameBut sb hCa, fun h'' sb2 => ?_⟩
    exact ⟨σ.set i (some (.ref l)), H', I''.turned (t' := s''.toks) (fun b o hb e => (sb2.2 b hb).trans e) fC hL (.inr hs0) hcl' hpin, q⟩

end

/-! ### the forms one uses -/
end L2

namespace L2
open PySem PySem.Spec PyProof.Rows

/-! ### exceptions (own work over the hand layer): a flight is told by the exception's own record and its newest trace -/
theorem ObjOk.there {P : Program} {w : World} {H : Hp} {h : Heap} {a : Addr} {o : HO} (x : ObjOk P w H h a o) : ∃ ob, h.get? a = some ob := by
  cases o with
  | lst xs => obtain ⟨_, _, _, _, e⟩ := x; exact ⟨_, e⟩
  | tup xs => obtain ⟨_, _, _, ob, e, _⟩ := x; exact ⟨_, e⟩
  | dK kvs => obtain ⟨_, _, _, _, o, _, _, e, _⟩ := x; exact ⟨_, e⟩
  | dT kvs => obtain ⟨_, _, _, _, o, _, _, e, _⟩ := x; exact ⟨_, e⟩
  | set S n => obtain ⟨o, _, _, _, e, _⟩ := x; exact ⟨_, e⟩
  | ins C dx fs => obtain ⟨_, _, _, e, _⟩ := x; exact ⟨_, e⟩
  | own y => obtain ⟨_, e⟩ := x; exact ⟨_, e⟩
  | xd fs => obtain ⟨_, ⟨_, _, _, e, _⟩, _⟩ := x; exact ⟨_, e⟩
  | rng lo hi => obtain ⟨_, _, _, e⟩ := x; exact ⟨_, e⟩
  | frz ob u => obtain ⟨e, _⟩ := x; exact ⟨_, e⟩
  | tbl ps => exact ⟨_, (show h.get? a = some _ from x)⟩
  | met f y => exact ⟨_, (show h.get? a = some _ from x)⟩
  | ext φ => obtain ⟨_, ⟨_, e⟩, _⟩ := x; exact ⟨_, e⟩
/-- tracked objects (and their dicts) stay: held still -/
theorem HOk.track {P : Program} {w : World} {H : Hp} {h h' : Heap} (x : HOk P w H h) (k : ∀ b u o, H b = some u → h.get? b = some o → h'.get? b = some o) : HOk P w H h' := fun a o e =>
  (x a o e).stay (fun b u hb q => by
    rcases hb with z | z
    · subst z; exact k _ _ _ e q
    · exact k _ _ _ z q) (fun _ q => q) fun _ _ q => q
theorem dict_mapF (o : Obj) (f : Array Value → Array Value) : (Obj.mapFields f o).dict = o.dict := by
  obtain ⟨c, d, dt, sl⟩ := o
  cases dt <;> rfl

/-- the exception at e: its class, its dict, its record (the trace in place 1 is t1) -/
def ExAt (h : Heap) (e : Addr) (C : Value) (dd : Option Addr) (t1 : Value) : Prop := ∃ oe vs, h.get? e = some oe ∧ oe.cls = C ∧ oe.dict = dd ∧ oe.data = .fields vs ∧ vs[1]? = some t1
/-- a trace's record, in flight at fl -/
def TrAt (h : Heap) (T : Addr) (fl : Value) : Prop := ∃ oT ts, h.get? T = some oT ∧ oT.data = .fields ts ∧ ts[3]? = some fl
/-- what changed: the exception, its old trace T0, the frames' slots -/
structure Moved (fs : List Addr) (e : Addr) (T0 : Option Addr) (h h' : Heap) : Prop where
  keep : ∀ b o, b ≠ e → some b ≠ T0 → b ∉ fs → h.get? b = some o → h'.get? b = some o
  slot : ∀ b o, b ∈ fs → h.get? b = some o → ∃ sl, h'.get? b = some { o with slots := sl }
  there : ∀ b o, h.get? b = some o → ∃ o', h'.get? b = some o'

section
variable {M : Model} {A : Around} {E : Value → Shared → Prop} {s : Shared}
theorem up_self {h : Heap} {a : Addr} {o : Obj} {vs : Array Value} {f : Array Value → Array Value} (e : h.get? a = some o) (hd : o.data = .fields vs) : (h.update a (Obj.mapFields f)).get? a = some (Obj.mapFields f o) :=
  Heap.get?_update_self _ e (Obj.isFreed_of_fields (Obj.data_mapFields hd _))
theorem note_new {base : Heap} {env : Env} {outer : List Env} {L e : Addr} {C : Value} {dd : Option Addr} {t1 head : Value} {hadNext : Bool} {Q : Unit → Shared → Prop}
    (hfr : A.frames = some (env :: outer)) (hl : s.heap.FunFrames base (env :: outer)) (hf : env.frame = some L) (X : ExAt s.heap e C dd t1)
    (h : ∀ h' T, ExAt h' e C dd (.ref T) → TrAt h' T (rawInt L) → s.heap.objs.size ≤ T → T ≠ e → Moved (frs (env :: outer)) e none s.heap h' → Q () { s with heap := h' }) :
    wpAny M A (do let a ← frameOf env; let pl ← entryPlaceOf L hadNext; let b ← EntryCells.newEntry head a .none (rawInt L) .none pl; setField (.ref e) 1 b) Q E s := by
  obtain ⟨oe, vs, he, hC, hdd, hd, h1⟩ := X
  have ne : e ∉ frs (env :: outer) := fun hm => by
    obtain ⟨_, o, ho, hnf⟩ := hl.mem hm
    rw [he] at ho; cases ho
    exact hnf vs hd
  refine wpAny_bind (wpAny_frameOf_fun hfr hl hf fun g so => ?_)
  refine wpAny_bind (wpAny_entryPlaceOf fun pl hpl => ?_)
  unfold EntryCells.newEntry newFields
  refine wpAny_bind (wpAny_newObj_type ?_ (hpl.sizeOk5 _ _ _ _ _))
  have hg : g.get? e = some oe := (so.2.1 e ne).trans he
  have hsz := (Array.getElem?_eq_some_iff.mp h1).1
  refine wpAny_setField (Heap.get?_push_of_some _ hg) hd hsz ?_
  have nT : g.objs.size ≠ e := Nat.ne_of_gt (Heap.lt_size hg)
  refine h _ g.objs.size ⟨_, _, up_self (Heap.get?_push_of_some _ hg) hd, (Obj.cls_mapFields _ _).trans hC, (dict_mapF _ _).trans hdd, Obj.data_mapFields hd _, by simp [hsz]⟩
    ⟨_, _, (Heap.get?_update_other _ _ (Ne.symm nT)).trans (Heap.get?_push_size g rfl), rfl, ?_⟩ (Nat.le_of_eq so.1.symm) nT ⟨fun b o h1 _ h3 q => ?_, fun b o hb q => ?_, fun b o q => ?_⟩
  · rcases hpl with rfl | ⟨_, _, _, _, _, _, _, rfl⟩ <;> simp
  · rw [Heap.get?_update_other _ _ (Ne.symm h1)]
    exact Heap.get?_push_of_some _ ((so.2.1 b h3).trans q)
  · obtain ⟨sl, z⟩ := so.2.2 b o q
    refine ⟨sl, ?_⟩
    rw [Heap.get?_update_other _ _ (fun k => ne (by rw [k]; exact hb))]
    exact Heap.get?_push_of_some _ z
  · by_cases k : b = e
    · rw [k]; exact ⟨_, up_self (Heap.get?_push_of_some _ hg) hd⟩
    · obtain ⟨sl, z⟩ := so.2.2 b o q
      exact ⟨_, by rw [Heap.get?_update_other _ _ (Ne.symm k)]; exact Heap.get?_push_of_some _ z⟩

/-- a flight is noted in a frame: T0 its trace so far (none: it was just raised) -/
theorem note_fly {base : Heap} {env : Env} {outer : List Env} {L e : Addr} {C : Value} {dd : Option Addr} {T0 : Option Addr} {Q : Unit → Shared → Prop}
    (hfr : A.frames = some (env :: outer)) (hl : s.heap.FunFrames base (env :: outer)) (hf : env.frame = some L) (X : ExAt s.heap e C dd (T0.elim .none Value.ref)) (hT : ∀ T, T0 = some T → TrAt s.heap T .none ∧ T ≠ e)
    (h : ∀ h' T, ExAt h' e C dd (.ref T) → TrAt h' T (rawInt L) → s.heap.objs.size ≤ T → T ≠ e → Moved (frs (env :: outer)) e T0 s.heap h' → Q () { s with heap := h' }) :
    wpAny M A (noteFrame (.ref e) env) Q E s := by
  obtain ⟨oe, vs, he, hC, hdd, hd, h1⟩ := id X
  unfold noteFrame
  simp only [hf]
  refine wpAny_bind (wpAny_field he hd h1 ?_)
  cases T0 with
  | none =>
    rw [if_neg (by decide)]
    exact note_new hfr hl hf X h
  | some T =>
    obtain ⟨⟨oT, ts, hT, hdT, h3⟩, hne⟩ := hT T rfl
    show wpAny M A (if (Value.ref T != Value.none) = true then _ else _) Q E s
    rw [if_pos (by simp)]
    refine wpAny_bind (wpAny_field hT hdT h3 ?_)
    rw [if_neg (by simp [rawInt])]
    refine wpAny_bind (wpAny_setField hT hdT (Array.getElem?_eq_some_iff.mp h3).1 ?_)
    have oth : ∀ b, b ≠ T → (s.heap.update T (Obj.mapFields (·.setIfInBounds 3 Value.none))).get? b = s.heap.get? b := fun b hb => Heap.get?_update_other _ _ (Ne.symm hb)
    have nfr : ∀ b o, b ∈ frs (env :: outer) → s.heap.get? b = some o → b ≠ T := fun b o hb q z => by
      obtain ⟨_, o', ho', hnf⟩ := hl.mem hb
      rw [z, hT] at ho'; cases ho'
      exact hnf _ hdT
    have hl2 : (s.heap.update T (Obj.mapFields (·.setIfInBounds 3 Value.none))).FunFrames base (env :: outer) := hl.of_keeps fun b o hb hnf => ⟨o, (oth b fun z => by rw [z, hT] at hb; cases hb; exact hnf _ hdT).trans hb, rfl⟩
    refine note_new (s := { s with heap := s.heap.update T (Obj.mapFields (·.setIfInBounds 3 Value.none)) }) hfr hl2 hf ⟨oe, vs, (oth e (Ne.symm hne)).trans he, hC, hdd, hd, h1⟩ fun h' T2 x1 x2 x3 x4 mv => ?_
    have goneT : s.heap.objs.size ≤ T2 := Nat.le_trans (Nat.le_of_eq (Heap.size_after_update ..).symm) x3
    refine h h' T2 x1 x2 goneT x4 ⟨fun b o k1 k2 k3 q => mv.keep b o k1 (by simp) k3 ((oth b fun z => k2 (by rw [z])).trans q), fun b o hb q => mv.slot b o hb ((oth b (nfr b o hb q)).trans q), fun b o q => ?_⟩
    by_cases k : b = T
    · exact mv.there b _ (by rw [k]; exact up_self hT hdT)
    · exact mv.there b o ((oth b k).trans q)

/-- .. and comes to rest -/
theorem rest_fly {e T : Addr} {C : Value} {dd : Option Addr} {fl : Value} {Q : Unit → Shared → Prop} (X : ExAt s.heap e C dd (.ref T)) (hT : TrAt s.heap T fl) (hne : T ≠ e)
    (h : ∀ h', ExAt h' e C dd (.ref T) → TrAt h' T .none → (∀ b o, b ≠ T → s.heap.get? b = some o → h'.get? b = some o) → (∀ b o, s.heap.get? b = some o → ∃ o', h'.get? b = some o') → Q () { s with heap := h' }) :
    wpAny M A (setFlight (.ref e) none) Q E s := by
  obtain ⟨oe, vs, he, hC, hdd, hd, h1⟩ := X
  obtain ⟨oT, ts, hT, hdT, h3⟩ := hT
  have hsz := (Array.getElem?_eq_some_iff.mp h3).1
  unfold setFlight
  refine wpAny_bind (wpAny_field he hd h1 ?_)
  rw [if_pos (by simp)]
  have oth : ∀ b, b ≠ T → (s.heap.update T (Obj.mapFields (·.setIfInBounds 3 ((none : Option Addr).elim Value.none fun f => rawInt f)))).get? b = s.heap.get? b := fun b hb => Heap.get?_update_other _ _ (Ne.symm hb)
  refine wpAny_setField hT hdT hsz (h _ ⟨oe, vs, (oth e (Ne.symm hne)).trans he, hC, hdd, hd, h1⟩ ⟨_, _, up_self hT hdT, Obj.data_mapFields hdT _, by simp [hsz]⟩ (fun b o k q => (oth b k).trans q) fun b o q => ?_)
  by_cases k : b = T
  · rw [k]; exact ⟨_, up_self hT hdT⟩
  · exact ⟨o, (oth b k).trans q⟩
end

/-- an exception that flies behind a call -/
def CXx (P : Program) (w : World) : CXT := fun outer H s E u s' => ∃ (e : Addr) (C : Value) (dd : Option Addr) (T : Addr) (H' : Hp), u = .ref e ∧ s'.os = s.os ∧ AllBare s'.gens ∧ Un (frs outer) [] H H' s.heap s'.heap ∧ HOk P w H' s'.heap ∧
  ExAt s'.heap e C dd (.ref T) ∧ TrAt s'.heap T .none ∧ T ≠ e ∧ H' e = none ∧ H' T = none ∧ s.heap.get? e = none ∧ s.heap.get? T = none ∧ E C dd H'
/-- an exception of a callee, by the names' values at the call -/
def PassesS (CX : CXT) (X : Cx) (Ez : St → XK) : Prop := ∀ (pins : List (Addr × Obj)) (σ : St) (H : Hp) (s : Shared) (e : Value) (s' : Shared), Inv X pins σ H s → CX X.stack H s (Ez σ) e s' → X.xe e s'

/-- a flight through one frame, as the frames below see it. l: the frames that ran; s: the entry; g: the state ahead of the step -/
theorem un_moved {l l' : List Env} {H H' : Hp} {h g h' : Heap} {e : Addr} {T0 : Option Addr} (u : Un (frs l') [] H H' h g) (mv : Moved (frs l) e T0 g h') (hsub : ∀ b ∈ frs l', b ∈ frs l) (hnew : ∀ b o, h.get? b = some o → b ∈ frs l → b ∈ frs l')
    (he : h.get? e = none) (hT : ∀ T, T0 = some T → h.get? T = none) : Un (frs l') [] H H' h h' := by
  have k1 : ∀ b o, h.get? b = some o → b ≠ e := fun b o q z => by rw [z, he] at q; cases q
  have k2 : ∀ b o, h.get? b = some o → some b ≠ T0 := fun b o q z => by rw [hT b z.symm] at q; cases q
  refine ⟨fun b o q n hb hx => ?_, fun b o q n hb hx => ?_, u.free, fun b o q hx => ?_, u.tups, u.frzs, u.tbls⟩
  · exact mv.keep b o (k1 b o q) (k2 b o q) (fun z => hb (hnew b o q z)) (u.keep b o q n hb hx)
  · obtain ⟨sl, q1⟩ := u.slot b o q n hb hx
    obtain ⟨sl2, q2⟩ := mv.slot b _ (hsub b hb) q1
    exact ⟨sl2, q2⟩
  · obtain ⟨o1, q1⟩ := u.there b o q hx
    exact mv.there b o1 q1

section
variable {P : Program} {w : World} {K : PySem.W.Frag} {mg : Str → Option Value} {base : Heap} {N : List Str} {qual : Str} {scope : Scope} {f : Addr} {cd : Value} {A : Around} {outer : List Env} {s₀ : Shared} {H₀ : Hp} {E : XK}
theorem frs_cons {env : Env} {outer : List Env} {L : Addr} (h : env.frame = some L) : frs (env :: outer) = L :: frs outer := by
  unfold frs
  rw [List.filterMap_cons, h]

/-- both steps of a flight out of a frame -/
theorem leave_fly {M : Model} {A : Around} {E : Value → Shared → Prop} {s : Shared} {base : Heap} {env : Env} {outer : List Env} {L e : Addr} {C : Value} {dd : Option Addr} {T0 : Option Addr} {Q : Unit → Shared → Prop}
    (hfr : A.frames = some (env :: outer)) (hl : s.heap.FunFrames base (env :: outer)) (hf : env.frame = some L) (X : ExAt s.heap e C dd (T0.elim .none Value.ref)) (hT : ∀ T, T0 = some T → TrAt s.heap T .none ∧ T ≠ e)
    (h : ∀ h' T, ExAt h' e C dd (.ref T) → TrAt h' T .none → s.heap.objs.size ≤ T → T ≠ e → Moved (frs (env :: outer)) e T0 s.heap h' → Q () { s with heap := h' }) :
    wpAny M A (noteFrame (.ref e) env) (fun _ s2 => wpAny M A (setFlight (.ref e) none) Q E s2) E s := by
  refine note_fly hfr hl hf X hT fun h1 T x1 x2 x3 x4 mv => ?_
  refine rest_fly (s := { s with heap := h1 }) x1 x2 x4 fun h2 y1 y2 k1 k2 => h h2 T y1 y2 x3 x4 ?_
  have nT : ∀ b o, s.heap.get? b = some o → b ≠ T := fun b o q z => absurd (Heap.lt_size q) (by rw [z]; exact Nat.not_lt.mpr x3)
  refine ⟨fun b o z1 z2 z3 q => k1 b o (nT b o q) (mv.keep b o z1 z2 z3 q), fun b o hb q => ?_, fun b o q => ?_⟩
  · obtain ⟨sl, q1⟩ := mv.slot b o hb q
    exact ⟨sl, k1 b _ (nT b o q) q1⟩
  · obtain ⟨o1, q1⟩ := mv.there b o q
    exact k2 b o1 q1

theorem funFrames_un {base h h' : Heap} : ∀ {l : List Env}, h.FunFrames base l → (∀ b o, b ∈ frs l → h.get? b = some o → ∃ sl, h'.get? b = some { o with slots := sl }) → h'.FunFrames base l
  | [], _, _ => trivial
  | env :: r, hl, k => by
    obtain ⟨hk, ⟨L, o, hf, hn, ho, hd⟩, hr⟩ := hl
    have e := frs_cons (outer := r) hf
    obtain ⟨sl, z⟩ := k L o (by rw [e]; exact List.mem_cons_self) ho
    exact ⟨hk, ⟨L, _, hf, hn, z, hd⟩, funFrames_un hr fun b o' hb q => k b o' (by rw [e]; exact List.mem_cons_of_mem _ hb) q⟩
/-- a call's change as the callers see it -/
theorem un_enter {fs : List Addr} {L : Addr} {H H1 H2 : Hp} {h h1 h2 : Heap} (a : Un fs [] H H1 h h1) (b : Un (L :: fs) [] H1 H2 h1 h2) (hL : h.get? L = none) : Un fs [] H H2 h h2 where
  keep := fun c o q n hc hx => b.keep c o (a.keep c o q n hc hx) (a.free c o q n hx) (fun z => (List.mem_cons.mp z).elim (fun y => by rw [y, hL] at q; cases q) hc) (by simp)
  slot := fun c o q n hc hx => by
    obtain ⟨sl, q1⟩ := a.slot c o q n hc hx
    obtain ⟨sl2, q2⟩ := b.slot c _ q1 (a.free c o q n hx) (List.mem_cons_of_mem _ hc) (by simp)
    exact ⟨sl2, q2⟩
  free := fun c o q n hx => by
    obtain ⟨o1, q1⟩ := a.there c o q hx
    exact b.free c o1 q1 (a.free c o q n hx) (by simp)
  there := fun c o q hx => by
    obtain ⟨o1, q1⟩ := a.there c o q hx
    exact b.there c o1 q1 (by simp)
  tups := fun c xs q => b.tups c xs (a.tups c xs q)
  frzs := fun c o xs q => b.frzs c o xs (a.frzs c o xs q)
  tbls := fun c ps q => by
    obtain ⟨m1, e1⟩ := a.tbls c ps q
    obtain ⟨m2, e2⟩ := b.tbls c _ e1
    exact ⟨m1 ++ m2, by rw [e2, Array.append_assoc]⟩

theorem pass_def : PassesS (CXx P w) (cxOf (CXx P w) P w K mg base N qual scope f cd A outer s₀ H₀ E) (fun _ => E) := by
  intro pins σ H s u s' I h
  obtain ⟨e, C, dd, T, H', rfl, os, bare, un, hok, x1, x2, x3, f1, f2, n1, n2, hE⟩ := h
  have fe : frs (envOfC qual scope s₀.heap.objs.size f cd :: outer) = s₀.heap.objs.size :: frs outer := frs_cons rfl
  have un' : Un (s₀.heap.objs.size :: frs outer) [] H H' s.heap s'.heap := by rw [← fe]; exact un
  have ib : Un (frs outer) [] H₀ H s₀.heap s.heap := I.base
  have nL : s₀.heap.get? s₀.heap.objs.size = none := Heap.get?_none_of_le (Nat.le_refl _)
  have um := un_enter ib un' nL
  have hfun : s'.heap.FunFrames base (envOfC qual scope s₀.heap.objs.size f cd :: outer) := funFrames_un I.stack fun b o hb q => un.slot b o q (I.stkFree b hb) hb (by simp)
  have ntr : ∀ b u, H' b = some u → b ∉ frs (envOfC qual scope s₀.heap.objs.size f cd :: outer) := fun b u q hb => by
    obtain ⟨_, o, ho, _⟩ := I.stack.mem hb
    have := un.free b o ho (I.stkFree b hb) (by simp)
    rw [q] at this; cases this
  show wpAny _ _ (leaving _ (.ref e)) _ _ s'
  unfold leaving
  refine wpAny_bind (leave_fly (T0 := some T) (L := s₀.heap.objs.size) I.ok.frames hfun rfl x1 (fun T' z => by cases z; exact ⟨x2, x3⟩) fun h' T2 y1 y2 y3 y4 mv => ?_)
  have none_of : ∀ b, s.heap.get? b = none → s₀.heap.get? b = none := fun b hb => by
    cases q : s₀.heap.get? b with
    | none => rfl
    | some o => obtain ⟨o1, q1⟩ := ib.there b o q (by simp); rw [hb] at q1; cases q1
  refine ⟨e, C, dd, T2, H', rfl, os.trans I.os, bare, un_moved (l := envOfC qual scope s₀.heap.objs.size f cd :: outer) um mv (fun b hb => by rw [fe]; exact List.mem_cons_of_mem _ hb) (fun b o q hb => ?_) (none_of e n1) (fun T' z => by cases z; exact none_of T n2),
    hok.track fun b u o q1 q2 => mv.keep b o (fun z => by rw [z, f1] at q1; cases q1) (fun z => by cases z; rw [f2] at q1; cases q1) (ntr b u q1) q2, y1, y2, y4, f1, ?_, none_of e n1, ?_, hE⟩
  · rw [fe] at hb
    rcases List.mem_cons.mp hb with z | z
    · rw [z, nL] at q; cases q
    · exact z
  · cases q : H' T2 with
    | none => rfl
    | some u => obtain ⟨ob, hob⟩ := (hok T2 u q).there; exact absurd (Heap.lt_size hob) (Nat.not_lt.mpr y3)
  · cases q : s₀.heap.get? T2 with
    | none => rfl
    | some o => obtain ⟨o1, q1⟩ := um.there T2 o q (by simp); exact absurd (Heap.lt_size q1) (Nat.not_lt.mpr y3)

/-- what a raise asks of its context: the exception's class, its dict -/
def Rz (X : Cx) (E : XK) : Prop := ∀ (pins : List (Addr × Obj)) (σ : St) (H : Hp) (s : Shared) (h' : Heap) (e : Addr) (C : Value) (vs : List Value), Inv X pins σ H s → Heap.MadeExcOf s.heap h' e C vs → E C none H → X.xe (.ref e) { s with heap := h' }
theorem rz_def : Rz (cxOf (CXx P w) P w K mg base N qual scope f cd A outer s₀ H₀ E) E := by
  intro pins σ H s h1 e C vs I mx hE
  obtain ⟨t, he, htn, ht⟩ := mx.there
  have fe : frs (envOfC qual scope s₀.heap.objs.size f cd :: outer) = s₀.heap.objs.size :: frs outer := frs_cons rfl
  have ib : Un (frs outer) [] H₀ H s₀.heap s.heap := I.base
  have nL : s₀.heap.get? s₀.heap.objs.size = none := Heap.get?_none_of_le (Nat.le_refl _)
  have um : Un (frs outer) [] H₀ H s₀.heap h1 := ib.trans (Un.kept mx.keeps)
  have hfun : h1.FunFrames base (envOfC qual scope s₀.heap.objs.size f cd :: outer) := funFrames_un I.stack fun b o hb q => ⟨o.slots, mx.keeps b o q⟩
  have ntr : ∀ b u, H b = some u → b ∉ frs (envOfC qual scope s₀.heap.objs.size f cd :: outer) := fun b u q hb => by
    have := I.stkFree b hb
    rw [q] at this; cases this
  have hok1 : HOk P w H h1 := I.hok.kept mx.keeps
  have fE : H e = none := by
    cases q : H e with
    | none => rfl
    | some u => obtain ⟨ob, hob⟩ := (I.hok e u q).there; rw [mx.new] at hob; cases hob
  have none_of : ∀ b, s.heap.get? b = none → s₀.heap.get? b = none := fun b hb => by
    cases q : s₀.heap.get? b with
    | none => rfl
    | some o => obtain ⟨o1, q1⟩ := ib.there b o q (by simp); rw [hb] at q1; cases q1
  show wpAny _ _ (leaving _ (.ref e)) _ _ { s with heap := h1 }
  unfold leaving
  refine wpAny_bind (leave_fly (s := { s with heap := h1 }) (T0 := none) (L := s₀.heap.objs.size) (C := C) (dd := none) I.ok.frames hfun rfl ⟨_, _, he, rfl, rfl, rfl, rfl⟩ (fun T' z => by cases z) fun h' T2 y1 y2 y3 y4 mv => ?_)
  refine ⟨e, C, none, T2, H, rfl, I.os, I.bare, un_moved (l := envOfC qual scope s₀.heap.objs.size f cd :: outer) um mv (fun b hb => by rw [fe]; exact List.mem_cons_of_mem _ hb) (fun b o q hb => ?_) (none_of e mx.new) (fun T' z => by cases z),
    hok1.track fun b u o q1 q2 => mv.keep b o (fun z => by rw [z, fE] at q1; cases q1) (by simp) (ntr b u q1) q2, y1, y2, y4, fE, ?_, none_of e mx.new, ?_, hE⟩
  · rw [fe] at hb
    rcases List.mem_cons.mp hb with z | z
    · rw [z, nL] at q; cases q
    · exact z
  · cases q : H T2 with
    | none => rfl
    | some u => obtain ⟨ob, hob⟩ := (hok1 T2 u q).there; exact absurd (Heap.lt_size hob) (Nat.not_lt.mpr y3)
  · cases q : s₀.heap.get? T2 with
    | none => rfl
    | some o => obtain ⟨o1, q1⟩ := um.there T2 o q (by simp); exact absurd (Heap.lt_size q1) (Nat.not_lt.mpr y3)
end

/-! ### calls whose exceptions are looked at -/
def tCallS (sp : Sp) (dvs : List V) (Ez : St → XK) (t : TA) : TE := fun σ H Q => t σ H fun vs H1 => sp (vs ++ dvs) H1 Q (Ez σ)
section
variable {X : Cx} {CX : CXT} {k : Nat} {f C : Addr} {fd : FuncData} {ps : List Str} {sp : Sp} {dvs : List V} {ds : List Value} {Ez : St → XK} {x m : Str} {p pos apos : Pos} {e o : Expr} {es : List Expr} {ta : TE} {t : TA}
theorem run_fnS {pins : List (Addr × Obj)} {σ : St} {H : Hp} {s : Shared} {Q : VK} {us : List Value} {vs : List V} (F : FnOk X.prog X.w X.K X.mg X.base CX k f fd ps sp) (hr : Room k X.A) (hb : Binds X.K fd ps ds) (hd : Vals dvs ds) (hx : PassesS CX X Ez)
    (I : Inv X pins σ H s) (r : Vals vs us) (h : sp (vs ++ dvs) H Q (Ez σ)) : wpAny (model X.prog X.w) X.A (call (.ref f) us) (EP X pins σ Q) X.xe s := by
  have r2 : Vals (vs ++ dvs) (us ++ ds) := r.append hd
  have hl : (us ++ ds).length = ps.length := by rw [← r2.length]; exact F.len _ _ _ _ h
  refine wpAny_call (codeAny_mono (F.run X.A X.stack s H ⟨us, []⟩ (us ++ ds) (vs ++ dvs) Q (Ez σ) hr I.env0 (hb s us I.kIn hl) r2 h) fun r s' hq => ?_)
  cases r with
  | error e => exact hx pins σ H s e s' I hq
  | ok fl =>
    cases fl with
    | ret u => exact I.after hq
    | next => exact False.elim hq
    | brk => exact False.elim hq
    | cont => exact False.elim hq
theorem pe_callS (F : FnOk X.prog X.w X.K X.mg X.base CX k f fd ps sp) (hr : Room k X.A) (hg : Gl X x) (hm : X.mg x = some (.ref f)) (hk : PySem.W.keepIn X.K (.ref f) = true) (hb : Binds X.K fd ps ds) (hd : Vals dvs ds) (hx : PassesS CX X Ez)
    (ha : PA X (e :: es) t) (hdb : (x == ("__debug__" : Str)) = false := by decide) (he : starEach (e :: es) X.env = (false, eval e X.env) :: starEach es X.env := by rfl) (hpl : (backTo pos (starEach es X.env)).any (·.1) = false := by rfl) :
    PE X (.Call (.Name x p) (e :: es) [] pos) (tCallS sp dvs Ez t) := by
  unfold PE at *; unfold PA at *
  exact by
    intro pins s σ H Q I h
    refine wpAny_Call_Name_kw (ld_glob I hg hm ?_ hdb)
    refine PySem.W.callWith_K (h₀ := X.base) I.ok.mod.kin hk (thn (ha pos pins s σ H _ I h) fun us s1 ⟨vs, H1, I1, r, q⟩ => ⟨I1.kIn, ?_⟩) he hpl
    exact run_fnS F hr hb hd hx I1 r q

end
end L2

namespace L2
open PySem PySem.Spec PyProof.Rows

/-! ### raise C(..): an own error class over ValueError, without an __init__ -/
def vmro : List Value := [.type "ValueError", .type "Exception", .type "BaseException", .type "object"]
def NsK (K : PySem.W.Frag) (N : Addr) (es : Array DictEntry) : Prop := ∃ c d ep sl, K.lookup N = some ⟨c, d, .dict es ep, sl⟩ ∧ StrKeys es
theorem NsK.ns {K : PySem.W.Frag} {N : Addr} {es : Array DictEntry} {h : Heap} (x : NsK K N es) (X : K.In h) : h.Ns N (nsFind es) := by
  obtain ⟨c, d, ep, sl, lk, sk⟩ := x
  exact ⟨_, es, ep, X _ _ lk, rfl, sk, fun _ => rfl⟩
inductive TailK (K : PySem.W.Frag) : List Value → Prop
  | base : TailK K vmro
  | own {A : Addr} {c0 : Value} {dd : Option Addr} {cd : ClassData} {sl : Array (Option Value)} {tl : List Value} {es : Array DictEntry} :
      K.lookup A = some { cls := c0, dict := dd, data := .cls cd, slots := sl } → NsK K cd.ns es → nsFind es "__init__" = none → TailK K tl → TailK K (.ref A :: tl)
theorem TailK.own' {K : PySem.W.Frag} {h : Heap} {bm : List Value} (t : TailK K bm) (X : K.In h) : OwnTail h vmro bm := by
  induction t with
  | base => exact .base
  | own l n i _ ih => exact .own (X _ _ l) (n.ns X) i ih
structure XCls (K : PySem.W.Frag) (C : Addr) : Prop where
  ex : ∃ nm q N bs bm hdct sn sub ab col dd k0 k1 k2 k3 k5 es, K.lookup C = some (excClassObj nm q C N bs bm hdct sn sub ab col dd k0 k1 k2 k3 k5 "ValueError.__new__") ∧ NsK K N es ∧ nsFind es "__init__" = none ∧ TailK K bm
def tRaise (t : TA) (C : Value) (E : XK) : TS := fun _ σ H => t σ H fun vs H1 => vs.length ≤ sizeLine ∧ E C none H1
theorem ps_raise {X : Cx} {C : Addr} {x : Str} {np cpos pos : Pos} {e₀ : Expr} {rest : List Expr} {t : TA} {E : XK} (xc : XCls X.K C) (hc : X.calm = true) (hg : Gl X x) (hm : X.mg x = some (.ref C)) (hz : Rz X E) (ha : PA X (e₀ :: rest) t)
    (hdb : (x == ("__debug__" : Str)) = false := by decide) (he : starEach (e₀ :: rest) X.env = (false, eval e₀ X.env) :: starEach rest X.env := by rfl) (hpl : (backTo cpos (starEach rest X.env)).any (·.1) = false := by rfl) :
    PS X (.Raise (some (.Call (.Name x np) (e₀ :: rest) [] cpos)) none pos) (tRaise t (.ref C) E) := by
  unfold PA at *; unfold PS at *
  exact by
    intro pins s σ H D I h
    obtain ⟨nm, q, N, bs, bm, hdct, sn, sub, ab, col, dd, k0, k1, k2, k3, k5, es, lk, nk, ni, tl⟩ := xc.ex
    refine wpAny_Raise_call_subT (C := C) (nm := nm) (q := q) (N := N) (bs := bs) (bm := bm) (hdct := hdct) (sn := sn) (sub := sub) (ab := ab) (col := col) (dd := dd) (k0 := k0) (k1 := k1) (k2 := k2) (k3 := k3) (k5 := k5)
      F.excBase_ValueError (mN := nsFind es) ((tl.own' I.kIn).hasType F.excBase_ValueError.hasBase) (I.ok.hd hc) ?_ ni (ld_glob I hg hm ⟨rfl, ?_⟩ hdb)
    · rw [he]
      show (false || (backTo cpos (starEach rest X.env)).any (·.1)) = false
      rw [hpl]; rfl
    · have hA := ha cpos pins s σ H _ I h
      rw [he] at hA ⊢
      refine Calls.evalArgs_plain (wpAny_mono hA (fun us s2 ⟨vs, H1, I1, r, z, hE⟩ => ?_) fun _ _ y => y)
      exact ⟨rfl, by rw [← r.length]; exact z, I1.kIn _ _ lk, nk.ns I1.kIn, tl.own' I1.kIn, fun h' e mx => hz pins σ H1 s2 h' e (.ref C) us I1 mx hE⟩

/-! ### a def whose exceptions are looked at -/
theorem Fun.okx {P : Program} {w : World} {K : PySem.W.Frag} {mg : Str → Option Value} {base : Heap} {x qual : Str} {st : Stmt} {f : Addr} {fd : FuncData} {N ps : List Str} {k : Nat} {sp : Sp} (F : Fun K x qual st f fd) (S : FnScope N ps (defScope st)) (len : ∀ vs H Q E, sp vs H Q E → vs.length = ps.length)
    (hbody : ∀ (cdv : Value) (A : Around) (outer : List Env) (s : Shared) (H : Hp) (vs : List V) (Q : VK) (E : XK), Room k (A.deeper (envOfC qual (defScope st) s.heap.objs.size f cdv)) → sp vs H Q E →
      ∃ t, PSs (cxOf (CXx P w) P w K mg base N qual (defScope st) f cdv A outer s H E) (defBody st) t ∧ t { nx := fun _ H' => Q .non H', rt := Q } (start N vs) H) : FnOk P w K mg base (CXx P w) (k + 1) f fd ps sp := by
  obtain ⟨oc, od, kV, doc, pm, an, cdv, ct, osl, rfl, lk, hcd⟩ := F.ex
  exact fn_of lk hcd S len fun A outer s H vs Q E hr hsp => hbody cdv A outer s H vs Q E hr hsp

/-! ### try: .. except C as n: .. -/
section
variable {X : Cx} {pins pins' : List (Addr × Obj)} {σ : St} {H : Hp} {s : Shared} {W : Value → Shared → Prop}
def Cx.tr (X : Cx) (pins : List (Addr × Obj)) (W : Value → Shared → Prop) : Cx := { X with xe := W, pn := X.pn ++ pins }
theorem Cx.Ok.tr (ok : X.Ok) : (X.tr pins W).Ok := ⟨ok.mod, ok.kind, ok.glob, ok.blt, ok.above, ok.inj, ok.has, ok.cab, ok.hd, ok.frames, ok.stk, ok.exf, ok.bs, ok.bsz, ok.noex, ok.exfs, ok.funs, ok.frf⟩
theorem Cx.Ok.untr (ok : (X.tr pins W).Ok) : X.Ok := ⟨ok.mod, ok.kind, ok.glob, ok.blt, ok.above, ok.inj, ok.has, ok.cab, ok.hd, ok.frames, ok.stk, ok.exf, ok.bs, ok.bsz, ok.noex, ok.exfs, ok.funs, ok.frf⟩
theorem Inv.tr (I : Inv X pins σ H s) : Inv (X.tr pins W) [] σ H s := ⟨I.ok.tr, I.os, I.bare, I.base, I.loc, I.cell, I.free, I.freeC, fun p hp => I.pin p (by simpa [Cx.tr] using hp), I.hok, I.len⟩
theorem Inv.untr (I : Inv (X.tr pins W) pins' σ H s) : Inv X pins σ H s := ⟨I.ok.untr, I.os, I.bare, I.base, I.loc, I.cell, I.free, I.freeC, fun p hp => I.pin p (List.mem_append_left _ hp), I.hok, I.len⟩
theorem SP.untr {D : Ends} {f : Flow} (h : SP (X.tr pins W) pins' D f s) : SP X pins D f s := by
  cases f with
  | next => obtain ⟨a, b, I, q⟩ := h; exact ⟨a, b, I.untr, q⟩
  | brk => obtain ⟨a, b, I, q⟩ := h; exact ⟨a, b, I.untr, q⟩
  | cont => obtain ⟨a, b, I, q⟩ := h; exact ⟨a, b, I.untr, q⟩
  | ret u => obtain ⟨v, a, b, I, r, q⟩ := h; exact ⟨v, a, b, I.untr, r, q⟩
/-- within an except's suite: nothing may be raised there, and no def is called -/
def Cx.sui (X : Cx) (e : Addr) : Cx := { X with A := X.A.mark (some (.ref e)), calm := false, xe := fun _ _ => False }
theorem Cx.Ok.sui (ok : X.Ok) (e : Addr) : (X.sui e).Ok := ⟨ok.mod, ok.kind, ok.glob, ok.blt, ok.above, ok.inj, ok.has, ok.cab, fun z => Bool.noConfusion z, ok.frames, ok.stk, ok.exf, ok.bs, ok.bsz, ok.noex, ok.exfs, ok.funs, ok.frf⟩
theorem Inv.sui (I : Inv X pins σ H s) (e : Addr) : Inv (X.sui e) pins σ H s := ⟨I.ok.sui e, I.os, I.bare, I.base, I.loc, I.cell, I.free, I.freeC, I.pin, I.hok, I.len⟩
theorem Inv.unsui {e : Addr} (ok : X.Ok) (I : Inv (X.sui e) pins σ H s) : Inv X pins σ H s := ⟨ok, I.os, I.bare, I.base, I.loc, I.cell, I.free, I.freeC, I.pin, I.hok, I.len⟩

/-- an untracked object of our own becomes tracked -/
theorem Inv.adopt {e : Addr} {o : HO} (I : Inv X pins σ H s) (hn : H e = none) (h0 : X.s₀.heap.get? e = none) (hL : e ≠ X.env.locals) (hc : ∀ x c, X.env.cells.lookup x = some c → c ≠ e) (hp : ∀ p ∈ X.pn ++ pins, p.1 ≠ e)
    (new : ObjOk X.prog X.w (upd H e o) s.heap e o) : Inv X pins σ (upd H e o) s := by
  have ne : ∀ b u, H b = some u → b ≠ e := fun b u q z => by rw [z, hn] at q; cases q
  refine ⟨I.ok, I.os, I.bare, ⟨I.base.keep, I.base.slot, fun b ob q n hx => ?_, I.base.there, fun b xs q => ?_, fun b ob u q => ?_, fun b ps q => ?_⟩, I.loc, I.cell, ?_, fun x c q => ?_, fun p hq => ?_, fun b u q => ?_, I.len⟩
  · rw [upd_ne (fun z => by rw [z, h0] at q; cases q)]
    exact I.base.free b ob q n hx
  · have q1 := I.base.tups b xs q
    rw [upd_ne (ne b _ q1)]; exact q1
  · have q1 := I.base.frzs b ob u q
    rw [upd_ne (ne b _ q1)]; exact q1
  · obtain ⟨m, q1⟩ := I.base.tbls b ps q
    exact ⟨m, by rw [upd_ne (ne b _ q1)]; exact q1⟩
  · rw [upd_ne (Ne.symm hL)]; exact I.free
  · rw [upd_ne (hc x c q)]; exact I.freeC x c q
  · obtain ⟨a1, a2, a3, a4, a5⟩ := I.pin p hq
    exact ⟨a1, by rw [upd_ne (hp p hq)]; exact a2, a3, a4, a5⟩
  · by_cases hb : b = e
    · subst hb; rw [upd_same] at q; cases q; exact new
    · rw [upd_ne hb] at q
      exact (I.hok b u q).stay (fun _ _ _ z => z) (fun c z => by rw [upd_ne (ne c _ z)]; exact z) fun c xs z => by rw [upd_ne (ne c _ z)]; exact z

/-- the name n is let go -/
theorem goes_ok {M : Model} {A : Around} {E : Value → Shared → Prop} {i : Nat} {n : Str} {pos : Pos} {Q : Unit → Shared → Prop} (I : Inv X pins σ H s) (hN : X.N.Nodup) (hi : X.N[i]? = some n) (hk : X.env.kindOf n = some .local)
    (h : ∀ s', Inv X pins (σ.set i none) H s' → Q () s') : wpAny M A (do bindName X.env n .none; unbindBehindTheSuite X.env n pos) Q E s := by
  obtain ⟨m, hn, hl⟩ := id I.loc
  have hcls : (X.env.scope.kind == .class || (X.env.scope.kind == .module && X.env.locals != X.env.globals)) = false := by rw [I.ok.kind]; rfl
  refine wpAny_nameGoes_keeps hk hn hcls fun h' v hn' hs => h _ ?_
  obtain ⟨oL, _, _, hoL, _⟩ := id hn
  have kb : ∀ b o, b ≠ X.env.locals → s.heap.get? b = some o → h'.get? b = some o := fun b o hb e => (hs.2 b hb).trans e
  have nL : ∀ b o, X.s₀.heap.get? b = some o → b ≠ X.env.locals := fun b o e => Nat.ne_of_lt (Nat.lt_of_lt_of_le (Heap.lt_size e) I.ok.above)
  refine ⟨I.ok, I.os, I.bare, ⟨fun b o e n hb hx => kb b o (nL b o e) (I.base.keep b o e n hb hx), fun b o e n hb hx => ?_, I.base.free, fun b o e hx => ?_, I.base.tups, I.base.frzs, I.base.tbls⟩, ⟨_, hn', fun j y v' e1 e2 e3 => ?_⟩, fun y c e => ?_, I.free, I.freeC, fun p hp => ?_,
    I.hok.track fun b u o q1 q2 => kb b o (fun z => by rw [z, I.free] at q1; cases q1) q2, by simpa using I.len⟩
  · obtain ⟨sl, e1⟩ := I.base.slot b o e n hb hx
    exact ⟨sl, kb b _ (nL b o e) e1⟩
  · obtain ⟨o', e1⟩ := I.base.there b o e hx
    exact ⟨o', kb b o' (nL b o e) e1⟩
  · by_cases hj : j = i
    · subst hj
      have hj' : j < σ.length := by rw [I.len]; exact (List.getElem?_eq_some_iff.mp e1).1
      rw [List.getElem?_set_self hj'] at e2
      cases e2
    · rw [List.getElem?_set_ne (Ne.symm hj)] at e2
      obtain ⟨u', r', q⟩ := hl j y v' e1 e2 e3
      refine ⟨u', r', ?_⟩
      rcases q with ⟨k, e⟩ | ⟨k, c, e, z⟩
      · refine .inl ⟨k, ?_⟩
        have : y ≠ n := fun e => hj (nodup_ix hN e1 (e ▸ hi))
        simp [this, e]
      · exact .inr ⟨k, c, e, z.sameBut hs (I.cne y c e)⟩
  · obtain ⟨w', z⟩ := I.cell y c e
    exact ⟨w', z.sameBut hs (I.cne y c e)⟩
  · obtain ⟨e, n', ne, nf, d⟩ := I.pin p hp
    exact ⟨kb _ _ ne e, n', ne, nf, d⟩
end

/-- a caught exception: its class, its dict -/
def exO (C : Value) (dd : Option Addr) (e : Addr) : HO := .ext fun h => ∃ oe vs, h.get? e = some oe ∧ oe.cls = C ∧ oe.dict = dd ∧ oe.data = .fields vs
theorem exO_ok {P : Program} {w : World} {H : Hp} {h : Heap} {e : Addr} {C t1 : Value} {dd : Option Addr} (x : ExAt h e C dd t1) : ObjOk P w H h e (exO C dd e) := by
  obtain ⟨oe, vs, he, hC, hdd, hd, _⟩ := x
  exact ⟨⟨oe, vs, he, hC, hdd, hd⟩, ⟨oe, he⟩, fun h1 h2 ⟨o, v, q, r⟩ k => ⟨o, v, k o q, r⟩⟩

def tTry (K : PySem.W.Frag) (Cv : Value) (i : Nat) (tb : (St → XK) → List (Addr × Obj) → (Value → Shared → Prop) → TS) (th : Addr → TS) : TS := fun D σ H => ∃ Ez : St → XK, (∀ pins W, tb Ez pins W D σ H) ∧
  ∀ σ1 C dd H1, Ez σ1 C dd H1 → PySem.W.exmOne K C Cv = some true ∧ ∀ e, H1 e = none →
    th e { nx := fun σ2 H2 => D.nx (σ2.set i none) H2, rt := D.rt, bk := fun σ2 H2 => D.bk (σ2.set i none) H2, ct := fun σ2 H2 => D.ct (σ2.set i none) H2 } (σ1.set i (some (.ref e))) (upd H1 e (exO C dd e))
section
variable {X : Cx}
theorem ps_try {body suite : List Stmt} {b₀ : Stmt} {tx n : Str} {i : Nat} {np hpos pos : Pos} {Cv : Value} {tb : (St → XK) → List (Addr × Obj) → (Value → Shared → Prop) → TS} {th : Addr → TS}
    (hst : X.stack = X.env :: X.outer) (hfr : X.env.frame = some X.env.locals) (hex : X.ex = []) (hN : X.N.Nodup) (hi : X.N[i]? = some n) (hk : X.env.kindOf n = some .local) (hg : Gl X tx) (hm : X.mg tx = some Cv)
    (hb : ∀ Ez pins W, PassesS (CXx X.prog X.w) (X.tr pins W) Ez → PSs (X.tr pins W) body (tb Ez pins W)) (hs : ∀ e, PSs (X.sui e) (b₀ :: suite) (th e)) (hdb : (tx == ("__debug__" : Str)) = false := by decide) :
    PS X (.Try body [.ExceptHandler (some (.Name tx np)) (some n) (b₀ :: suite) hpos] [] [] pos) (tTry X.K Cv i tb th) := by
  unfold PS at *; unfold PSs at *
  exact by
    intro pins s σ H D I h
    obtain ⟨Ez, hb1, hh⟩ := h
    let W : Value → Shared → Prop := fun u s' => ∃ σ1 H1 s1, Inv X pins σ1 H1 s1 ∧ CXx X.prog X.w X.stack H1 s1 (Ez σ1) u s'
    have hp : PassesS (CXx X.prog X.w) (X.tr pins W) Ez := fun pins' σ1 H1 s1 u s' I1 hx => ⟨σ1, H1, s1, I1.untr, hx⟩
    refine wpAny_Try_except (wpAny_mono ((hb Ez pins W hp) [] s σ H D I.tr (hb1 pins W)) (fun f s1 q => ?_) (fun u s' q => ?_))
    · have q' := q.untr
      cases f with
      | next => exact wpAny_execs_nil q'
      | brk => exact q'
      | cont => exact q'
      | ret v => exact q'
    · obtain ⟨σ1, H1, s1, I1, e, C, dd, T, H', rfl, os, bare, un, hok, x1, x2, x3, f1, f2, n1, n2, hE⟩ := q
      have hfun : s'.heap.FunFrames X.base (X.env :: X.outer) := by
        rw [← hst]
        exact funFrames_un I1.stack fun b o hb q => un.slot b o q (I1.stkFree b hb) hb (by simp)
      refine leave_fly (T0 := some T) (L := X.env.locals) (by rw [← hst]; exact I1.ok.frames) hfun hfr x1 (fun T' z => by cases z; exact ⟨x2, x3⟩) fun h' T2 y1 y2 y3 y4 mv => ?_
      rw [← hst] at mv
      have ntr : ∀ b u, H' b = some u → b ∉ frs X.stack := fun b u q hb => by
        obtain ⟨_, o, ho, _⟩ := I1.stack.mem hb
        have := un.free b o ho (I1.stkFree b hb) (by simp)
        rw [q] at this; cases this
      have hU : Un (frs X.stack) [] H1 H' s1.heap h' := un_moved (l := X.stack) un mv (fun _ z => z) (fun _ _ _ z => z) n1 fun T' z => by cases z; exact n2
      have hO : HOk X.prog X.w H' h' := hok.track fun b u o q1 q2 => mv.keep b o (fun z => by rw [z, f1] at q1; cases q1) (fun z => by cases z; rw [f2] at q1; cases q1) (ntr b u q1) q2
      have I2 : Inv X pins σ1 H' { s' with heap := h' } := I1.call' (s' := { s' with heap := h' }) (ch := []) os hU hO bare fun _ z => absurd z (by simp)
      -- the exception becomes an object of ours
      have he0 : X.s₀.heap.get? e = none := by
        cases q : X.s₀.heap.get? e with
        | none => rfl
        | some o =>
          obtain ⟨o1, q1⟩ := I1.base.there e o q (by rw [hex]; simp)
          rw [n1] at q1; cases q1
      have live : ∀ b o, s1.heap.get? b = some o → b ≠ e := fun b o q z => by rw [z, n1] at q; cases q
      have heL : e ≠ X.env.locals := by
        obtain ⟨m, ⟨o, _, _, ho, _⟩, _⟩ := I1.loc
        exact Ne.symm (live _ _ ho)
      have heC : ∀ x c, X.env.cells.lookup x = some c → c ≠ e := fun x c q => by
        obtain ⟨v, o, ho, _⟩ := I1.cell x c q
        exact live _ _ ho
      have heP : ∀ p ∈ X.pn ++ pins, p.1 ≠ e := fun p hp => live _ _ (I1.pin p hp).1
      have I3 : Inv X pins σ1 (upd H' e (exO C dd e)) { s' with heap := h' } := I2.adopt f1 he0 heL heC heP (exO_ok y1)
      -- the trace's record is nobody's
      have szT : ∀ b o, s'.heap.get? b = some o → b ≠ T2 := fun b o q => Nat.ne_of_lt (Nat.lt_of_lt_of_le (Heap.lt_size q) y3)
      have liveT : ∀ b o, s1.heap.get? b = some o → b ≠ T2 := fun b o q => by
        obtain ⟨o', q'⟩ := un.there b o q (by simp)
        exact szT b o' q'
      have hTL : T2 ≠ X.env.locals := by
        obtain ⟨m, ⟨o, _, _, ho, _⟩, _⟩ := I1.loc
        exact Ne.symm (liveT _ _ ho)
      have hT0 : X.s₀.heap.objs.size ≤ T2 := by
        obtain ⟨m, ⟨o, _, _, ho, _⟩, _⟩ := I1.loc
        obtain ⟨o', q'⟩ := un.there _ o ho (by simp)
        exact Nat.le_trans I1.ok.above (Nat.le_trans (Nat.le_of_lt (Heap.lt_size q')) y3)
      have hTC : ∀ x c, X.env.cells.lookup x = some c → c ≠ T2 := fun x c q => by
        obtain ⟨v, o, ho, _⟩ := I1.cell x c q
        exact liveT _ _ ho
      have hTP : ∀ p ∈ X.pn ++ pins, p.1 ≠ T2 := fun p hp => liveT _ _ (I1.pin p hp).1
      have hTn : upd H' e (exO C dd e) T2 = none := by
        rw [upd_ne y4]
        cases q : H' T2 with
        | none => rfl
        | some u => obtain ⟨ob, hob⟩ := (hok T2 u q).there; exact absurd rfl (szT T2 ob hob)
      obtain ⟨hmt, hsu⟩ := hh σ1 C dd H' hE
      obtain ⟨oe, vs, hoe, hcls, _⟩ := id y1
      have LT : PySem.W.Looks (model X.prog X.w) h' (typeOf (.ref e)) C := by
        subst hcls
        exact (PySem.W.Looks.ld hoe).andThen .now
      have ok : X.Ok := I.ok
      refine wpAny_handleBy_cons (codeAny_handlers_test (ld_glob (X := X.sui e) (I3.sui e) hg hm ?_ hdb)) (by intro q; cases q)
      refine PySem.W.Looks.here (PySem.W.exm_one I3.kIn LT hmt) ?_
      show codeAny _ _ (.handlers (.ref e) [.ExceptHandler none (some n) (b₀ :: suite) hpos] X.env) _ _
      refine codeAny_handlers_suite_as ?_
      refine rest_fly y1 y2 y4 fun h2 z1 z2 k1 k2 => ?_
      have I4 : Inv X pins σ1 (upd H' e (exO C dd e)) { s' with heap := h2 } := I3.turned (t' := s'.toks) (fun b o hb q => k1 b o hb q) hTn hTL (.inr hT0) hTC hTP
      refine store_ok (X := X.sui e) (v := .ref e) (I4.sui e) hN hi (.inl hk) rfl (fun s5 I5 => ?_) (.inr hk)
      refine wpAny_mono ((hs e) pins s5 _ _ _ I5 (hsu e f1)) (fun f s6 q => ?_) fun _ _ z => z.elim
      show wpAny _ _ (do bindName X.env n .none; unbindBehindTheSuite X.env n hpos) _ _ s6
      cases f with
      | next => obtain ⟨σ6, H6, I6, q6⟩ := q; exact goes_ok (I6.unsui ok) hN hi hk fun s7 I7 => ⟨_, _, I7, q6⟩
      | brk => obtain ⟨σ6, H6, I6, q6⟩ := q; exact goes_ok (I6.unsui ok) hN hi hk fun s7 I7 => ⟨_, _, I7, q6⟩
      | cont => obtain ⟨σ6, H6, I6, q6⟩ := q; exact goes_ok (I6.unsui ok) hN hi hk fun s7 I7 => ⟨_, _, I7, q6⟩
      | ret v => obtain ⟨x6, σ6, H6, I6, r6, q6⟩ := q; exact goes_ok (I6.unsui ok) hN hi hk fun s7 I7 => ⟨_, _, _, I7, r6, q6⟩

end
end L2

namespace L2
open PySem PySem.Spec PyProof.Rows PySem.W

/-! ### isinstance of a caught exception -/
section
variable {prog : Program} {w : World} {A : Around} {E : Value → Shared → Prop} {s : Shared} {K : Frag} {e C : Addr} {oe : Obj}
theorem findX {a g : Value} {name : Str} (hc : (clsIn K C).isSome = true) (ha : findIn K (.ref C) name = some (some a)) (hg : specialIn K a "__get__" = some (some g)) (ht : takesIn K a = some true) : findObj K C none name = some (.bind g a) := by
  obtain ⟨cd, hc⟩ := Option.isSome_iff_exists.mp hc
  unfold findObj
  rw [hc, Option.bind_some, ha, Option.bind_some]
  simp [hg, ht]
/-- what of the text an own error class must have to be asked -/
structure XAsk (K : Frag) (C : Addr) : Prop where
  cs : (clsIn K C).isSome = true
  ga : findIn K (.ref C) "__getattribute__" = some (some (.builtin "BaseException.__getattribute__"))
  gt : findIn K (.ref C) "__getattr__" = some none
  ca : findIn K (.ref C) "__class__" = some (some (.builtin "object.__class__"))
  gg : specialIn K (.builtin "object.__class__") "__get__" = some (some (.builtin "getset_descriptor.__get__"))
  tk : takesIn K (.builtin "object.__class__") = some true
  mo : mroIn K C (.type "object") = some true
  sb : subIn K (.ref C) (.type "BaseException") = some true
theorem xcheck {nameV : Value} {Q : Unit → Shared → Prop} (U : XAsk K C) (X : K.In s.heap) (I : InstAt s.heap e oe C none) (hq : Q () s) :
    wpAny (model prog w) A (checkBuiltinCall "BaseException.__getattribute__" ⟨[.ref e, nameV], []⟩) Q E s := by
  have hk : builtinKind "BaseException.__getattribute__" = some .slot := by decide +kernel
  have hsplit : splitId "BaseException.__getattribute__" = some ("BaseException", "__getattribute__") := by decide +kernel
  have L0 := I.type (M := model prog w)
  have L1 := looks_subIn (M := model prog w) X U.sb
  have LI : Looks (model prog w) s.heap (isInstance (.ref e) (.type "BaseException")) true := L0.andThen L1
  have ha := F.args_bexc_ga (.ref e) nameV
  simp only [checkBuiltinCall, hk, hsplit]
  refine wpAny_bind (LI.at ?_)
  rw [if_neg (by decide)]
  exact wpAny_of_eq ha hq
theorem xentry {tk : Tok} {Q : Fin → Shared → Prop} (U : XAsk K C) (X : K.In s.heap) (I : InstAt s.heap e oe C none) (hq : Q (.done (.ret (.ref C))) s) :
    wpAny (model prog w) A (Builtin.«object.__getattribute__» ⟨[.ref e, .str "__class__" tk], []⟩) Q E s := by
  obtain ⟨hh, g, d, t, os⟩ := s
  have L0 := I.type (M := model prog w)
  have L3 := looks_find (M := model prog w) X I (findX U.cs U.ca U.gg U.tk)
  unfold Builtin.«object.__getattribute__»
  refine wpAny_bind (wpAny_of_eq (show slotArgs "__getattribute__" 1 ⟨[.ref e, .str "__class__" tk], []⟩ = pure (.ref e, [.str "__class__" tk]) from rfl) ?_)
  refine wpAny_bind (wpAny_of_eq (show Builtin.ObjectAttr.attrName (.str "__class__" tk) = pure ("__class__" : Str) from rfl) ?_)
  refine wpAny_bind (L0.at (wpAny_bind (L3.at ?_)))
  show wpAny _ _ (Builtin.ObjectAttr.bindTo (.builtin "getset_descriptor.__get__") (.builtin "object.__class__") (.ref e) (.ref C)) _ _ _
  show wpAny _ _ (holding [.builtin "object.__class__"] (call (.builtin "getset_descriptor.__get__") [.builtin "object.__class__", .ref e, .ref C]) >>= ret) _ _ _
  exact wpAny_bind (wpAny_holding (wpAny_call (class_get X I U.mo (wpAny_pure hq))))
theorem xclass {Q : Option Value → Shared → Prop} (U : XAsk K C) (X : K.In s.heap) (I : InstAt s.heap e oe C none) (h : Q (some (.ref C)) { s with toks := s.toks + 1 }) : wpAny (model prog w) A (getAttr? (.ref e) "__class__") Q E s := by
  obtain ⟨hh, g, d, t, os⟩ := s
  have L0 := I.type (M := model prog w)
  have L1 := looks_findIn (M := model prog w) X U.ga
  have L2 := looks_findIn (M := model prog w) X U.gt
  have L3 := looks_find (M := model prog w) X I (findX U.cs U.ca U.gg U.tk)
  unfold getAttr? getAttrBy? getAttrBy
  refine wpAny_bind (wpAny_mkText (wpAny_bind (wpAny_attempt (wpAny_holding (wpAny_bind (L0.at (wpAny_bind (L1.at ?_))))))))
  show wpAny _ _ (getAttrByItsOwn (.ref e) _ (.ref C) (.builtin "BaseException.__getattribute__") false false) _ _ _
  unfold getAttrByItsOwn
  refine wpAny_bind ?_
  show wpAny _ _ (typeLookup (.ref C) "__getattr__") _ _ _
  refine L2.at ?_
  refine wpAny_bind (wpAny_attempt (wpAny_holding ?_))
  show wpAny _ _ (boundAndCalled (.builtin "BaseException.__getattribute__") (.ref e) _) _ _ _
  unfold boundAndCalled
  refine wpAny_bind (wpAny_of_eq (F.attr_ValueError.ga.bind (.ref e)) ?_)
  refine wpAny_call (codeAny_call_builtin F.attr_ValueError.ga.plain F.entry_bexc_ga (xcheck U X I (xentry U X I ?_)))
  exact wpAny_pure (wpAny_pure h)
theorem kitx_exc (U : XAsk K C) : KitX K (.ref e) (.ref C) (fun h => ∃ oe, InstAt h e oe C none) where
  ty := fun M h _ ⟨_, I⟩ => I.type
  it := fun _ _ X _ => by
    obtain ⟨cd, hc⟩ := Option.isSome_iff_exists.mp U.cs
    unfold clsIn at hc
    split at hc
    · rename_i c' d' cd' sl' ho
      intro A' Q' E' s' k q
      unfold isType loadHead
      exact wpAny_bind (wpAny_loadPart (k _ _ (X _ _ ho)) (wpAny_pure q))
    · cases hc
  ne := fun h tp dd its n sl X htp => by
    obtain ⟨cd, hc⟩ := Option.isSome_iff_exists.mp U.cs
    refine Bool.eq_false_iff.mpr fun q => ?_
    have z : C = tp := Value.ref.inj (beq_iff_eq.mp q)
    subst z
    unfold clsIn at hc
    split at hc
    · rename_i c' d' cd' sl' ho
      have z := (X _ _ ho).symm.trans htp
      cases z
    · cases hc
  ca := fun X ⟨_, I⟩ k => xclass U X I k
end
theorem exO_inst {P : Program} {w : World} {H : Hp} {h : Heap} {e C : Addr} (ok : HOk P w H h) (q : H e = some (exO (.ref C) none e)) : ∃ oe, InstAt h e oe C none := by
  obtain ⟨⟨oe, vs, he, hC, hdd, hd⟩, _⟩ := ok e _ q
  refine ⟨oe, he, hC, ?_, ?_⟩
  · obtain ⟨a, b, c, d⟩ := oe
    have hd' : c = .fields vs := hd
    subst hd'
    rfl
  · rw [hdd]
    trivial
section
variable {X : Cx}
def rIsiX (K : Frag) : List V → Hp → VK → Prop := fun xs H Q => ∃ e c cv C b, xs = [.ref e, c] ∧ ClsV c cv ∧ H e = some (exO (.ref C) none e) ∧ XAsk K C ∧ kitOne K (.ref C) cv = some b ∧ Q (.bl b) H
theorem call_isiX : CallR X (.builtin "isinstance") (rIsiX X.K) := by
  unfold CallR at *
  exact by
    intro pins s σ H xs us Q I rv h
    obtain ⟨e, c, cv, C, b, rfl, hc, he, U, k, q⟩ := h
    obtain ⟨u, cu, rfl, ru, rc⟩ := rv.two
    have ec : cu = cv := by cases hc <;> exact rc
    subst ec
    cases (show u = Value.ref e from ru)
    exact kia_one (kitx_exc U) I.kIn (exO_inst I.hok he) k (fun z => nomatch z) fun tk => ⟨.bl b, H, I.tok tk, rfl, q⟩

def rIsiA (K : Frag) : List V → Hp → VK → Prop := fun xs H Q => rIsi K xs H Q ∨ rIsiX K xs H Q
theorem call_isiA : CallR X (.builtin "isinstance") (rIsiA X.K) := by
  first
  | exact (call_isi.or call_isiX)
  | (unfold CallR at *; exact (call_isi.or call_isiX))

end
end L2

namespace L2
open PySem PySem.Spec PyProof.Rows

/-! ### names of Python's own; small facts -/
theorem bt_len : bootBuiltins "len" = some (.builtin "len") := by decide +kernel
theorem bt_isinstance : bootBuiltins "isinstance" = some (.builtin "isinstance") := by decide +kernel
theorem bt_int : bootBuiltins "int" = some (.type "int") := by decide +kernel
theorem bt_bool : bootBuiltins "bool" = some (.type "bool") := by decide +kernel
theorem bt_list : bootBuiltins "list" = some (.type "list") := by decide +kernel
theorem bt_tuple : bootBuiltins "tuple" = some (.type "tuple") := by decide +kernel
theorem bt_ValueError : bootBuiltins "ValueError" = some (.type "ValueError") := by decide +kernel
theorem bt_all : bootBuiltins "all" = some (.builtin "all") := by decide +kernel
theorem bt_min : bootBuiltins "min" = some (.builtin "min") := by decide +kernel
theorem rel_int {n : Int} {t : Tok} : RelV (.int n) (.int n t) := ⟨_, rfl⟩
theorem Same.new {H : Hp} {p : Addr} {o : HO} (h : H p = none) : Same H (upd H p o) := fun b u q => by
  rw [upd_ne (ne_of_none q h)]
  exact q
theorem atI_in {α : Type} {xs : List α} {i : Int} (h0 : 0 ≤ i) (h1 : i < xs.length) : ∃ v, atI xs i = some v ∧ v ∈ xs := by
  have e : ((i.toNat : Nat) : Int) = i := Int.toNat_of_nonneg h0
  have hl : i.toNat < xs.length := by omega
  refine ⟨xs[i.toNat], ?_, List.getElem_mem hl⟩
  have q := atI_nat (xs := xs) (List.getElem?_eq_getElem hl)
  rw [e] at q
  exact q
theorem atI_toNat {α : Type} {xs : List α} {i : Int} {v : α} (h0 : 0 ≤ i) (h : xs[i.toNat]? = some v) : atI xs i = some v := by
  have q := atI_nat (xs := xs) h
  rw [Int.toNat_of_nonneg h0] at q
  exact q
/-- a thing of one of Python's own kinds -/
def Own (K : PySem.W.Frag) (H : Hp) (x : V) : Prop := ∃ n, TyOf K H x (.type n)
theorem Own.non {K : PySem.W.Frag} {H : Hp} : Own K H .non := ⟨_, .non⟩
theorem Own.bl {K : PySem.W.Frag} {H : Hp} {b : Bool} : Own K H (.bl b) := ⟨_, .bl b⟩
theorem Own.int {K : PySem.W.Frag} {H : Hp} {i : Int} : Own K H (.int i) := ⟨_, .int i⟩
theorem Own.str {K : PySem.W.Frag} {H : Hp} {x : Str} : Own K H (.str x) := ⟨_, .str x⟩
/-- isinstance(x, int), (x, bool), (x, str) .. of such things -/
def isInt : V → Bool
  | .int _ => true
  | .bl _ => true
  | _ => false
def isBool : V → Bool
  | .bl _ => true
  | _ => false
theorem kit_int {K : PySem.W.Frag} {H : Hp} {x : V} {n : String} (ty : TyOf K H x (.type n)) : PySem.W.kitOne K (.type n) (.type "int") = some (isInt x) := by
  cases ty <;> rfl
theorem kit_bool {K : PySem.W.Frag} {H : Hp} {x : V} {n : String} (ty : TyOf K H x (.type n)) : PySem.W.kitOne K (.type n) (.type "bool") = some (isBool x) := by
  cases ty <;> rfl
theorem rIsiA.own {K : PySem.W.Frag} {H : Hp} {x : V} {c : String} {Q : VK} {b : Bool} (h : Own K H x) (k : ∀ n, TyOf K H x (.type n) → PySem.W.kitOne K (.type n) (.type c) = some b) (q : Q (.bl b) H) : rIsiA K [x, .ty c] H Q := by
  obtain ⟨n, t⟩ := h
  exact .inl ⟨x, .ty c, _, _, _, rfl, .ty c, t, k n t, q⟩
theorem rIsiA.int {K : PySem.W.Frag} {H : Hp} {x : V} {Q : VK} (h : Own K H x) (q : Q (.bl (isInt x)) H) : rIsiA K [x, .ty "int"] H Q := rIsiA.own h (fun _ => kit_int) q
theorem rIsiA.bool {K : PySem.W.Frag} {H : Hp} {x : V} {Q : VK} (h : Own K H x) (q : Q (.bl (isBool x)) H) : rIsiA K [x, .ty "bool"] H Q := rIsiA.own h (fun _ => kit_bool) q
theorem iteB {b : Bool} {A B : Prop} (h1 : b = true → A) (h2 : b = false → B) : if b = true then A else B := by
  cases b
  · exact iteF (h2 rfl)
  · exact iteT (h1 rfl)
theorem le_ble {a b : Nat} (h : Nat.ble a b = true) : a ≤ b := Nat.le_of_ble_eq_true h
end L2

namespace L2
open PySem PySem.Spec PyProof.Rows

/-! ### more iterators: a text's signs, enumerate of a list; comprehensions without a word on monotony; all, any -/
section
variable {X : Cx} {pins : List (Addr × Obj)} {σ : St} {H H' : Hp} {s : Shared} {h' : Heap}
end

/-- the next turn, n - i turns ahead of the end -/
def Nx (n i : Nat) (P : Prop) : Prop := ∃ m', m' < n - i ∧ m' = n - (i + 1) ∧ i + 1 ≤ n ∧ P
theorem Nx.mk {n i : Nat} {P : Prop} (hi : i < n) (p : P) : Nx n i P := ⟨n - (i + 1), by omega, rfl, hi, p⟩
/-- a comprehension's loop of n turns -/
theorem loop_by {J : It} {l : Addr} {g : TG} {tc : TT} {te : TE} {σ : St} {H : Hp} {Q : VK} (n : Nat) (Pv : Nat → St → List V → Hp → Prop) (hsz : n ≤ sizeLine) (h0 : Pv 0 σ [] H)
    (hl : ∀ i σ acc H, i ≤ n → Pv i σ acc H → H l = some (.lst acc) ∧ acc.length ≤ i)
    (hgo : ∀ i σ acc H, i < n → Pv i σ acc H → J.go i H)
    (hs : ∀ i x σ acc H H', i < n → Pv i σ acc H → J.yld i H x H' → g x σ H' fun σ2 H2 => tc σ2 H2 fun b H3 => if b = true then
      te σ2 H3 fun v H4 => H4 l = some (.lst acc) ∧ Nx n i (Pv (i + 1) σ2 (acc ++ [v]) (upd H4 l (.lst (acc ++ [v])))) else Nx n i (Pv (i + 1) σ2 acc H3))
    (hd : ∀ σ acc H, Pv n σ acc H → J.stop n H ∧ Q (.ref l) H) : tLoop J l g tc te σ H Q := by
  refine ⟨fun i m σ acc H => m = n - i ∧ i ≤ n ∧ Pv i σ acc H, ⟨n, by simp, Nat.zero_le _, h0⟩, ?_⟩
  rintro i m σ acc H ⟨rfl, hi, p⟩
  obtain ⟨q1, q2⟩ := hl i σ acc H hi p
  refine ⟨q1, ?_⟩
  by_cases hlt : i < n
  · exact .inr ⟨hgo i σ acc H hlt p, by omega, fun x H' y => hs i x σ acc H H' hlt p y⟩
  · have e : i = n := by omega
    subst e
    exact .inl (hd σ acc H p)
/-- all(..), any(..) of a list of truths -/
theorem boolsAre_of : ∀ {bs : List Bool} {us : List Value}, Vals (bs.map V.bl) us → LSm.BoolsAre us bs
  | [], _, .nil => .nil
  | b :: r, _, .cons h t => by
    cases h
    exact .cons b (boolsAre_of t)
theorem kept_it {s : Shared} {h' : Heap} {o : Obj} (hk : ∀ b x, b ∉ [s.heap.objs.size] → (s.heap.push o).get? b = some x → h'.get? b = some x) : ∀ b x, s.heap.get? b = some x → h'.get? b = some x :=
  fun b x e => hk b x (fun hm => by rw [List.mem_singleton.mp hm] at e; exact Nat.lt_irrefl _ (Heap.lt_size e)) (Heap.get?_push_of_some _ e)
theorem call_all {X : Cx} (hc : X.calm = true) : CallR X (.builtin "all") (fun xs H Q => ∃ (a : Addr) (bs : List Bool), xs = [.ref a] ∧ SqL X.K H a (bs.map V.bl) ∧ Q (.bl (bs.all id)) H) := by
  unfold CallR at *
  exact by
    intro pins s σ H xs us Q I r h
    obtain ⟨a, bs, rfl, hq, q⟩ := h
    obtain ⟨u, rfl, ru⟩ := vals1 r
    cases ru
    obtain ⟨its, rv, pl, hz⟩ := I.list hq
    have hb := boolsAre_of rv
    have hl := pl.isList
    have hlt : a < s.heap.objs.size := by obtain ⟨_, e, _⟩ := hl; exact Heap.lt_size e
    refine call_all_walk (wpAny_pyIter_list hl ?_)
    refine ⟨s.heap.objs.size, [s.heap.objs.size, a], [s.heap.objs.size], its.toArray.size, _, _, fun i => (bs[i]?).getD true, rfl, Walks.list (A := X.A.in1) (I.ok.hd hc) _ a (Nat.ne_of_lt hlt) its.toArray,
      ⟨⟨_, Heap.get?_push_size _ rfl, rfl, rfl⟩, hl.push _⟩, fun i v s' Q' E' hP hQ => ?_, fun h' tk hk => ?_⟩
    · obtain ⟨b, e, rfl⟩ := hb.get i v (by simpa using hP)
      simp only [e, Option.getD_some] at hQ
      exact wpAny_truthy_bool hQ
    · have e : ((List.range its.toArray.size).all fun i => (bs[i]?).getD true) = bs.all id := by
        rw [List.size_toArray, hb.length]; exact LSm.range_all bs
      rw [e]
      exact ⟨.bl (bs.all id), H, I.kept (t' := tk) (kept_it hk), rfl, q⟩

end L2

namespace L2
open PySem PySem.Spec PyProof.Rows

/-! ### texts: <=, slices -/
section
variable {X : Cx}
end

/-! ### == of things that hold things: lists and tuples, by depth -/
/-- by lists and tuples whose items answer by R -/
inductive SeqEq (K : PySem.W.Frag) (H : Hp) (R : V → V → Bool → Prop) : V → V → Bool → Prop where
  | list {a b : Addr} {xs ys : List V} {e : Nat → Bool} (ha : SqL K H a xs) (hb : SqL K H b ys) (hl : xs.length = ys.length) (he : ∀ i x y, xs[i]? = some x → ys[i]? = some y → R x y (e i)) : SeqEq K H R (.ref a) (.ref b) ((List.range xs.length).all e)
  | listN {a b : Addr} {xs ys : List V} (ha : SqL K H a xs) (hb : SqL K H b ys) (hl : xs.length ≠ ys.length) : SeqEq K H R (.ref a) (.ref b) false
  | tup {a b : Addr} {xs ys : List V} {e : Nat → Bool} (ha : SqT K H a xs) (hb : SqT K H b ys) (he : ∀ i x y, xs[i]? = some x → ys[i]? = some y → R x y (e i)) : SeqEq K H R (.ref a) (.ref b) ((List.range (min xs.length ys.length)).all e && xs.length == ys.length)
/-- an item's answer: flat things, one object twice, lists and tuples within -/
def EqD (K : PySem.W.Frag) (H : Hp) : Nat → V → V → Bool → Prop
  | 0, x, y, b => (flatV x = true ∧ flatV y = true ∧ b = eqV x y) ∨ ∃ a, x = .ref a ∧ y = .ref a ∧ b = true
  | n + 1, x, y, b => ((flatV x = true ∧ flatV y = true ∧ b = eqV x y) ∨ ∃ a, x = .ref a ∧ y = .ref a ∧ b = true) ∨ SeqEq K H (EqD K H n) x y b
theorem eqV_self {x : V} (h : flatV x = true) : eqV x x = true := by
  cases x <;> simp_all [flatV, eqV]
section
variable {X : Cx} {pins : List (Addr × Obj)} {σ : St} {H : Hp} {s : Shared}
theorem all_range {n : Nat} {e : Nat → Bool} (h : ∀ i, i < n → e i = true) : (List.range n).all e = true := by
  rw [List.all_eq_true]
  exact fun i hi => h i (List.mem_range.mp hi)
theorem EqD.self (I : Inv X pins σ H s) : ∀ {n : Nat} {x : V} {b : Bool}, EqD X.K H n x x b → b = true := by
  intro n
  induction n with
  | zero =>
    intro x b h
    rcases h with ⟨h1, _, h2⟩ | ⟨_, _, _, h⟩
    · rw [h2]; exact eqV_self h1
    · exact h
  | succ n ih =>
    intro x b h
    rcases h with (⟨h1, _, h2⟩ | ⟨_, _, _, h⟩) | h
    · rw [h2]; exact eqV_self h1
    · exact h
    · cases h with
      | @list a _ xs ys e ha hb hl he =>
        have q := I.list_inj ha hb
        subst q
        exact all_range fun i hi => ih (he i xs[i] xs[i] (by simp [hi]) (by simp [hi]))
      | listN ha hb hl => exact absurd (congrArg List.length (I.list_inj ha hb)) hl
      | @tup a _ xs ys e ha hb he =>
        have q := I.tuple_inj ha hb
        subst q
        rw [Nat.min_self, all_range fun i hi => ih (he i xs[i] xs[i] (by simp [hi]) (by simp [hi]))]
        simp
theorem SeqEq.rc {A : Around} {R : V → V → Bool → Prop} {x y : V} {b : Bool} {u v : Value} (I : Inv X pins σ H s) (h : SeqEq X.K H R x y b) (rx : RelV x u) (ry : RelV y v) (hu : A.units < cLine)
    (hR : ∀ x y b u v, R x y b → RelV x u → RelV y v → SeqAt.EqAt A.in1 s u v b) : SeqAt.RcAt A s u v b := by
  cases h with
  | @list a c xs ys e ha hb hl he =>
    cases rx; cases ry
    obtain ⟨its, r1, p1, z1⟩ := I.list ha
    obtain ⟨jts, r2, p2, z2⟩ := I.list hb
    have l1 := r1.length
    have l2 := r2.length
    have q := SeqAt.RcAt.lists (A := A) (s := s) (e := e) p1.isList p2.isList (by simp only [List.size_toArray]; omega) hu fun j h1 h2 => ?_
    · rw [List.size_toArray, ← l1] at q
      exact q
    · simp only [List.size_toArray] at h1 h2
      have g1 : xs[j]? = some xs[j] := by simp
      have g2 : ys[j]? = some ys[j] := by simp
      obtain ⟨w1, k1, rr1⟩ := r1.get g1
      obtain ⟨w2, k2, rr2⟩ := r2.get g2
      have e1 : its.toArray[j] = w1 := by
        have := List.getElem?_eq_some_iff.mp k1
        obtain ⟨_, this⟩ := this
        simpa using this
      have e2 : jts.toArray[j] = w2 := by
        have := List.getElem?_eq_some_iff.mp k2
        obtain ⟨_, this⟩ := this
        simpa using this
      rw [e1, e2]
      exact hR _ _ _ _ _ (he j _ _ g1 g2) rr1 rr2
  | @listN a c xs ys ha hb hl =>
    cases rx; cases ry
    obtain ⟨its, r1, p1, z1⟩ := I.list ha
    obtain ⟨jts, r2, p2, z2⟩ := I.list hb
    have l1 := r1.length
    have l2 := r2.length
    exact SeqAt.RcAt.lists_lengths p1.isList p2.isList (by simp only [List.size_toArray, bne_iff_ne]; omega) hu
  | @tup a c xs ys e ha hb he =>
    cases rx; cases ry
    obtain ⟨its, r1, p1, z1⟩ := I.tuple ha
    obtain ⟨jts, r2, p2, z2⟩ := I.tuple hb
    have l1 := r1.length
    have l2 := r2.length
    have q := SeqAt.RcAt.tuples (A := A) (s := s) (e := e) p1 p2 hu fun j h1 h2 => ?_
    · rw [List.size_toArray, List.size_toArray, ← l1, ← l2] at q
      exact q
    · simp only [List.size_toArray] at h1 h2
      have g1 : xs[j]? = some xs[j] := by simp
      have g2 : ys[j]? = some ys[j] := by simp
      obtain ⟨w1, k1, rr1⟩ := r1.get g1
      obtain ⟨w2, k2, rr2⟩ := r2.get g2
      have e1 : its.toArray[j] = w1 := by
        have := List.getElem?_eq_some_iff.mp k1
        obtain ⟨_, this⟩ := this
        simpa using this
      have e2 : jts.toArray[j] = w2 := by
        have := List.getElem?_eq_some_iff.mp k2
        obtain ⟨_, this⟩ := this
        simpa using this
      rw [e1, e2]
      exact hR _ _ _ _ _ (he j _ _ g1 g2) rr1 rr2
theorem SeqEq.rcNe {A : Around} {R : V → V → Bool → Prop} {x y : V} {b : Bool} {u v : Value} (I : Inv X pins σ H s) (h : SeqEq X.K H R x y b) (rx : RelV x u) (ry : RelV y v) (hu : A.units < cLine)
    (hR : ∀ x y b u v, R x y b → RelV x u → RelV y v → SeqAt.EqAt A.in1 s u v b) : SeqAt.RcNeAt A s u v (!b) := by
  cases h with
  | @list a c xs ys e ha hb hl he =>
    cases rx; cases ry
    obtain ⟨its, r1, p1, z1⟩ := I.list ha
    obtain ⟨jts, r2, p2, z2⟩ := I.list hb
    have l1 := r1.length
    have l2 := r2.length
    have q := SeqAt.RcNeAt.lists (A := A) (s := s) (e := e) p1.isList p2.isList (by simp only [List.size_toArray]; omega) hu fun j h1 h2 => ?_
    · rw [List.size_toArray, ← l1] at q
      exact q
    · simp only [List.size_toArray] at h1 h2
      have g1 : xs[j]? = some xs[j] := by simp
      have g2 : ys[j]? = some ys[j] := by simp
      obtain ⟨w1, k1, rr1⟩ := r1.get g1
      obtain ⟨w2, k2, rr2⟩ := r2.get g2
      have e1 : its.toArray[j] = w1 := by
        have := List.getElem?_eq_some_iff.mp k1
        obtain ⟨_, this⟩ := this
        simpa using this
      have e2 : jts.toArray[j] = w2 := by
        have := List.getElem?_eq_some_iff.mp k2
        obtain ⟨_, this⟩ := this
        simpa using this
      rw [e1, e2]
      exact hR _ _ _ _ _ (he j _ _ g1 g2) rr1 rr2
  | @listN a c xs ys ha hb hl =>
    cases rx; cases ry
    obtain ⟨its, r1, p1, z1⟩ := I.list ha
    obtain ⟨jts, r2, p2, z2⟩ := I.list hb
    have l1 := r1.length
    have l2 := r2.length
    exact SeqAt.RcNeAt.lists_lengths p1.isList p2.isList (by simp only [List.size_toArray, bne_iff_ne]; omega) hu
  | @tup a c xs ys e ha hb he =>
    cases rx; cases ry
    obtain ⟨its, r1, p1, z1⟩ := I.tuple ha
    obtain ⟨jts, r2, p2, z2⟩ := I.tuple hb
    have l1 := r1.length
    have l2 := r2.length
    have q := SeqAt.RcNeAt.tuples (A := A) (s := s) (e := e) p1 p2 hu fun j h1 h2 => ?_
    · rw [List.size_toArray, List.size_toArray, ← l1, ← l2] at q
      exact q
    · simp only [List.size_toArray] at h1 h2
      have g1 : xs[j]? = some xs[j] := by simp
      have g2 : ys[j]? = some ys[j] := by simp
      obtain ⟨w1, k1, rr1⟩ := r1.get g1
      obtain ⟨w2, k2, rr2⟩ := r2.get g2
      have e1 : its.toArray[j] = w1 := by
        have := List.getElem?_eq_some_iff.mp k1
        obtain ⟨_, this⟩ := this
        simpa using this
      have e2 : jts.toArray[j] = w2 := by
        have := List.getElem?_eq_some_iff.mp k2
        obtain ⟨_, this⟩ := this
        simpa using this
      rw [e1, e2]
      exact hR _ _ _ _ _ (he j _ _ g1 g2) rr1 rr2
theorem EqD.at (I : Inv X pins σ H s) : ∀ (n : Nat) (A : Around) (x y : V) (b : Bool) (u v : Value), A.units + n < cLine → EqD X.K H n x y b → RelV x u → RelV y v → SeqAt.EqAt A s u v b := by
  intro n
  induction n with
  | zero =>
    intro A x y b u v hu h rx ry
    rcases h with ⟨h1, h2, rfl⟩ | ⟨a, rfl, rfl, rfl⟩
    · exact eqAt_V rx ry h1 h2
    · cases rx; cases ry
      exact SeqAt.EqAt.same _
  | succ n ih =>
    intro A x y b u v hu h rx ry
    rcases h with (⟨h1, h2, rfl⟩ | ⟨a, rfl, rfl, rfl⟩) | h
    · exact eqAt_V rx ry h1 h2
    · cases rx; cases ry
      exact SeqAt.EqAt.same _
    · have rc := SeqEq.rc (A := A) I h rx ry (by omega) fun x y b u v hd r1 r2 => ih A.in1 x y b u v (by show A.units + 1 + n < cLine; omega) hd r1 r2
      have refs : ∃ a c, x = .ref a ∧ y = .ref c := by cases h <;> exact ⟨_, _, rfl, rfl⟩
      obtain ⟨a, c, rfl, rfl⟩ := refs
      cases rx; cases ry
      by_cases hac : a = c
      · subst hac
        have hb : b = true := EqD.self (n := n + 1) I (.inr h)
        subst hb
        exact SeqAt.EqAt.same _
      · exact SeqAt.EqAt.of_refs hac rc
def rEqD (K : PySem.W.Frag) (neg : Bool) : R2 := fun x y H Q => ∃ n b, n ≤ 60 ∧ SeqEq K H (EqD K H n) x y b ∧ Q (.bl (if neg then !b else b)) H
theorem op_eqD (hu : X.A.units + 62 < cLine) : OpR X (compareOp .Eq) (rEqD X.K false) := by
  unfold OpR at *
  exact by
    intro pins s σ H x y v u Q I rx ry h
    obtain ⟨n, b, hn, he, q⟩ := h
    exact SeqEq.rc (A := X.A) I he rx ry (by omega) (fun x y b u v hd r1 r2 => EqD.at I n X.A.in1 x y b u v (by show X.A.units + 1 + n < cLine; omega) hd r1 r2) X.prog X.w _ _ (fin_bl I q rfl)

theorem op_neD (hu : X.A.units + 62 < cLine) : OpR X (compareOp .NotEq) (rEqD X.K true) := by
  unfold OpR at *
  exact by
    intro pins s σ H x y v u Q I rx ry h
    obtain ⟨n, b, hn, he, q⟩ := h
    exact SeqEq.rcNe (A := X.A) I he rx ry (by omega) (fun x y b u v hd r1 r2 => EqD.at I n X.A.in1 x y b u v (by show X.A.units + 1 + n < cLine; omega) hd r1 r2) X.prog X.w _ _ (fin_bl I q rfl)

end
end L2

namespace L2
open PySem PySem.Spec PyProof.Rows

/-! ### written tuples and dicts of the text's top -/
end L2

namespace L2
open PySem PySem.Spec PyProof.Rows

/-! ### exception classes of the text; a law whose defs raise -/
def strKeysB (es : Array DictEntry) : Bool := es.all fun e => match e.key with | .str _ _ => true | _ => false
theorem strKeys_of {es : Array DictEntry} (h : strKeysB es = true) : StrKeys es := by
  intro e he
  have q := Array.all_eq_true_iff_forall_mem.mp h e he
  split at q
  · rename_i n t hk
    exact ⟨n, t, hk⟩
  · cases q
/-- class C(B): pass, class B(ValueError): pass -/
theorem XCls.mk2 {K : PySem.W.Frag} {C N A : Addr} {nm q : Str} {bs : List Value} {hdct : Bool} {sn : List Str} {sub : List Value} {ab : Bool} {col : Option Bool} {dd : Option Addr} {k0 k1 k2 k3 k5 : Option Value} {es : Array DictEntry} {c d ep sl}
    {c0 : Value} {dd' : Option Addr} {cd : ClassData} {sl0 : Array (Option Value)} {es' : Array DictEntry} {c' d' ep' sl'}
    (l : K.lookup C = some (excClassObj nm q C N bs (.ref A :: vmro) hdct sn sub ab col dd k0 k1 k2 k3 k5 "ValueError.__new__")) (ln : K.lookup N = some ⟨c, d, .dict es ep, sl⟩) (sk : strKeysB es = true) (ni : nsFind es "__init__" = none)
    (la : K.lookup A = some { cls := c0, dict := dd', data := .cls cd, slots := sl0 }) (lna : K.lookup cd.ns = some ⟨c', d', .dict es' ep', sl'⟩) (ska : strKeysB es' = true) (nia : nsFind es' "__init__" = none) : XCls K C :=
  ⟨nm, q, N, bs, _, hdct, sn, sub, ab, col, dd, k0, k1, k2, k3, k5, es, l, ⟨c, d, ep, sl, ln, strKeys_of sk⟩, ni, .own la ⟨c', d', ep', sl', lna, strKeys_of ska⟩ nia .base⟩
theorem hu62 {A : Around} {k : Nat} (hr : Room k A) : A.units + 62 < cLine := by have := hr.un; omega
theorem cap_nil {X : Cx} {scope : Scope} {N' : List Str} {js : List (Option Nat)} (hl : js.length = N'.length) (h : js.all Option.isNone = true) : Cap X scope N' js :=
  ⟨hl, fun i j x h1 _ => by
    have q := List.all_eq_true.mp h _ (List.mem_of_getElem? h1)
    cases q⟩
theorem free_nil {X : Cx} {scope : Scope} (h : (scope.names.all fun y => match y.2 with | .free => false | _ => true) = true) : ∀ y ∈ scope.names, y.2 = .free → (X.env.kindOf y.1 = some .cell ∨ X.env.kindOf y.1 = some .free) := fun y hy e => by
  have q := List.all_eq_true.mp h y hy
  rw [e] at q
  cases q
theorem rIsiA.exc {K : PySem.W.Frag} {H : Hp} {e C c : Addr} {b : Bool} {Q : VK} (h : H e = some (exO (.ref C) none e)) (q : XAsk K C) (k : PySem.W.kitOne K (.ref C) (.ref c) = some b) (hQ : Q (.bl b) H) : rIsiA K [.ref e, .ref c] H Q :=
  .inr ⟨e, .ref c, .ref c, C, b, rfl, .own c, h, q, k, hQ⟩
theorem rIsiA.excT {K : PySem.W.Frag} {H : Hp} {e C : Addr} {c : String} {b : Bool} {Q : VK} (h : H e = some (exO (.ref C) none e)) (q : XAsk K C) (k : PySem.W.kitOne K (.ref C) (.type c) = some b) (hQ : Q (.bl b) H) : rIsiA K [.ref e, .ty c] H Q :=
  .inr ⟨e, .ty c, .type c, C, b, rfl, .ty c, h, q, k, hQ⟩
/-- what never flies may be handed on anywhere -/
theorem passE0 {P : Program} {w : World} {X : Cx} : PassesS (CXx P w) X (fun _ => E0) := by
  intro pins σ H s e s' I h
  obtain ⟨_, _, _, _, _, _, _, _, _, _, _, _, _, _, _, _, _, h⟩ := h
  exact h.elim
end L2

namespace L2
open PySem PySem.Spec PyProof.Rows

/-! ### defs with defaults; C(..) with keywords whose __init__ may raise -/
section
variable {X : Cx} {CX : CXT} {k : Nat} {f C : Addr} {fd : FuncData} {ps ks : List Str} {sp : Sp} {Ez : St → XK} {x : Str} {p pos : Pos} {e : Expr} {es : List Expr} {kws : List Keyword} {t tk : TA} {na : Nat} {g : List Value → List Value → List Value} {gV : List V → List V → List V}
end
theorem free_of {X : Cx} {scope : Scope} (l : List Str) (h : (scope.names.all fun y => match y.2 with | .free => l.contains y.1 | _ => true) = true) (hl : ∀ x ∈ l, X.env.kindOf x = some .cell ∨ X.env.kindOf x = some .free) :
    ∀ y ∈ scope.names, y.2 = .free → (X.env.kindOf y.1 = some .cell ∨ X.env.kindOf y.1 = some .free) := fun y hy e => by
  have q := List.all_eq_true.mp h y hy
  rw [e] at q
  exact hl _ (List.contains_iff_mem.mp q)
/-- a statement, then what holds behind it, then the rest -/
def tCut (t u : TS) : TS := fun D σ H => ∃ Mid : St → Hp → Prop, t { D with nx := Mid } σ H ∧ ∀ σ' H', Mid σ' H' → u D σ' H'
theorem pss_cut {X : Cx} {st : Stmt} {rest : List Stmt} {t u : TS} (h1 : PS X st t) (h2 : PSs X rest u) : PSs X (st :: rest) (tCut t u) := by
  unfold PS at *; unfold PSs at *
  exact by
    intro pins s σ H D I h
    obtain ⟨Mid, h, hm⟩ := h
    refine wpAny_execs_cons (thn (h1 pins s σ H { D with nx := Mid } I h) fun f s1 q => ?_)
    cases f with
    | next =>
      obtain ⟨σ', H', I', q⟩ := q
      exact h2 pins s1 σ' H' D I' (hm σ' H' q)
    | ret v => exact q
    | brk => exact q
    | cont => exact q

theorem lenS {α : Type} {n : Nat} : ∀ {us : List α}, us.length = n + 1 → ∃ a r, us = a :: r ∧ r.length = n
  | a :: r, h => ⟨a, r, rfl, by simpa using h⟩
theorem len0 {α : Type} : ∀ {us : List α}, us.length = 0 → us = []
  | [], _ => rfl
theorem fm_nil {α : Type} {p : α → Prop} : ∀ x ∈ ([] : List α), p x := fun _ h => nomatch h
theorem fm_cons {α : Type} {p : α → Prop} {a : α} {l : List α} (h : p a) (r : ∀ x ∈ l, p x) : ∀ x ∈ a :: l, p x := fun x hx => by
  rcases List.mem_cons.mp hx with e | e
  · subst e; exact h
  · exact r x e
/-- a comprehension that captures names of the def -/
theorem cap_of {X : Cx} {scope : Scope} {N' : List Str} {js : List (Option Nat)} (hl : js.length = N'.length)
    (h : ∀ p ∈ js.zip N', ∀ j, p.1 = some j → X.N[j]? = some p.2 ∧ scope.names.lookup p.2 = some .free ∧ (X.env.kindOf p.2 = some .cell ∨ X.env.kindOf p.2 = some .free)) : Cap X scope N' js :=
  ⟨hl, fun i j x h1 h2 => h (some j, x) (List.mem_of_getElem? (i := i) (by rw [List.getElem?_zip_eq_some]; exact ⟨h1, h2⟩)) j rfl⟩
end L2

namespace L2
open PySem PySem.Spec PyProof.Rows

/-! ### int(text), text.find(text), digits -/
section
variable {X : Cx}
end
end L2

namespace L2
open PySem PySem.Spec PyProof.Rows

/-! ### sorted of a list of ints -/
section
variable {X : Cx}
theorem ints_are : ∀ {ns : List Int} {us : List Value}, Vals (ns.map V.int) us → IntsAre us ns
  | [], _, .nil => .nil
  | _ :: _, _, .cons ⟨_, h⟩ r => by
    subst h
    exact .cons _ _ (ints_are r)
theorem ints_vals : ∀ {ns : List Int} {us : List Value}, IntsAre us ns → Vals (ns.map V.int) us
  | [], _, .nil => .nil
  | _ :: _, _, .cons _ _ r => .cons ⟨_, rfl⟩ (ints_vals r)
theorem call_sorted (hc : X.calm = true) : CallR X (.builtin "sorted") (fun xs H Q => ∃ (a : Addr) (ns : List Int), xs = [.ref a] ∧ SqL X.K H a (ns.map V.int) ∧ ns.length < 64 ∧
    ∀ (l : Addr) (ms : List Int), H l = none → ms.Perm ns → ms.Pairwise (· ≤ ·) → Q (.ref l) (upd H l (.lst (ms.map V.int)))) := by
  unfold CallR at *
  exact by
    intro pins s σ H xs us Q I r h
    obtain ⟨a, ns, rfl, hq, hl, q⟩ := h
    obtain ⟨u, rfl, rx⟩ := vals1 r
    cases rx
    obtain ⟨its, r', pl, hz⟩ := I.list hq
    have hlen := r'.length
    rw [List.length_map] at hlen
    refine sorted_ints pl.isList (ints_are r') (by omega) fun out ns' a1 a2 a3 => ?_
    obtain ⟨e, he⟩ := sortedAll_at s.heap its out
    have hn := a2.length_eq
    have h64 : 64 ≤ sizeLine := le_ble rfl
    exact ⟨.ref (s.heap.objs.size + 1), _, I.laid (t' := s.toks) (fun _ _ => sortedAll_old) (Nat.le_succ _) (show ObjOk X.prog X.w _ _ _ (.lst (ns'.map V.int)) from ⟨by rw [List.length_map]; omega, out.toList, e, ints_vals a1, he⟩), rfl, q _ _ (I.hok.fresh (Nat.le_succ _)) a2 a3⟩

end
/-- // by a large positive divisor -/
structure CDivB (i j : Int) : Prop where
  lo : 0 < j
  hi : j < 2 ^ 200
theorem op_fdivB {X : Cx} : OpR X (binaryOp .FloorDiv) (rI CDivB fun i j => .int (i / j)) := opI fun i j _ _ _ _ _ hc q => by
  have h1 : (0 : Int) < j := hc.lo
  have h2 : j < 2 ^ 200 := hc.hi
  refine floordiv_int (by omega) (by rw [Int.fdiv_eq_ediv_of_nonneg i (by omega)]; exact q) (.inl (PyProof.noPylong_of_log2 ?_))
  have h3 : j.natAbs < 2 ^ 200 := by omega
  have h4 := (Nat.log2_lt (n := j.natAbs) (k := 200) (by omega)).mpr h3
  omega
/-- a loop in a def whose exceptions are looked at -/
theorem own_def {P : Program} {w : World} {K : PySem.W.Frag} {mg : Str → Option Value} {base : Heap} {N : List Str} {qual : Str} {scope : Scope} {f : Addr} {cd : Value} {A : Around} {outer : List Env} {s₀ : Shared} {H₀ : Hp} {E : XK} {CX : CXT} :
    PassesOwn (model P w) (cxOf CX P w K mg base N qual scope f cd A outer s₀ H₀ E).A (cxOf CX P w K mg base N qual scope f cd A outer s₀ H₀ E).env (cxOf CX P w K mg base N qual scope f cd A outer s₀ H₀ E).xe := PassesOwn.leaving
theorem MtM.r {X : Cx} {id : String} {r : V → List V → Hp → VK → Prop} (h : MtM X id r) : MtR X id r := by
  first
  | exact (h)
  | (unfold MtR at *; unfold MtM at *; exact (h))

theorem bt_sorted : bootBuiltins "sorted" = some (.builtin "sorted") := by decide +kernel
end L2

namespace L2
open PySem PySem.Spec PyProof.Rows

/-- a comprehension's loop over a list -/
theorem loop_lst {K : PySem.W.Frag} {a l : Addr} {xs : List V} {g : TG} {tc : TT} {te : TE} {σ : St} {H : Hp} {Q : VK} (Pv : Nat → St → List V → Hp → Prop) (hsz : xs.length ≤ sizeLine) (h0 : Pv 0 σ [] H)
    (hl : ∀ i σ acc H, i ≤ xs.length → Pv i σ acc H → H l = some (.lst acc) ∧ SqL K H a xs ∧ acc.length ≤ i)
    (hs : ∀ i x σ acc H, xs[i]? = some x → Pv i σ acc H → g x σ H fun σ2 H2 => tc σ2 H2 fun b H3 => if b = true then
      te σ2 H3 fun v H4 => H4 l = some (.lst acc) ∧ Nx xs.length i (Pv (i + 1) σ2 (acc ++ [v]) (upd H4 l (.lst (acc ++ [v])))) else Nx xs.length i (Pv (i + 1) σ2 acc H3))
    (hd : ∀ σ acc H, Pv xs.length σ acc H → Q (.ref l) H) : tLoop (Itl K a) l g tc te σ H Q :=
  loop_by xs.length Pv hsz h0 (fun i σ acc H hi p => ⟨(hl i σ acc H hi p).1, (hl i σ acc H hi p).2.2⟩)
    (fun i σ acc H hi p => ⟨xs, xs[i], (hl i σ acc H (Nat.le_of_lt hi) p).2.1, List.getElem?_eq_getElem hi⟩)
    (fun i x σ acc H H' hi p y => by
      obtain ⟨e, y⟩ := y
      subst e
      exact hs i x σ acc _ (y xs (hl i σ acc _ (Nat.le_of_lt hi) p).2.1) p)
    (fun σ acc H p => ⟨⟨xs, (hl _ σ acc H (Nat.le_refl _) p).2.1, Nat.le_refl _⟩, hd σ acc H p⟩)

/-! ### lists within lists of ints, in the heap: read (AtR), owned (At: o tells each list's place), new (New) -/
def Tr : Nat → Type
  | 0 => Int
  | n + 1 => List (Tr n)
/-- as a list -/
abbrev ls {n : Nat} (ts : Tr (n + 1)) : List (Tr n) := ts
abbrev Ow := Addr → Option (List Nat)
def AtR (H : Hp) : (n : Nat) → V → Tr n → Prop
  | 0, v, i => v = .int i
  | n + 1, v, ts => ∃ a vs, v = .ref a ∧ H a = some (.lst vs) ∧ vs.length = (ls ts).length ∧ ∀ (j : Nat) w t, vs[j]? = some w → (ls ts)[j]? = some t → AtR H n w t
def At (o : Ow) (H : Hp) : (n : Nat) → List Nat → V → Tr n → Prop
  | 0, _, v, i => v = .int i
  | n + 1, p, v, ts => ∃ a vs, v = .ref a ∧ o a = some p ∧ H a = some (.lst vs) ∧ vs.length = (ls ts).length ∧ ∀ (j : Nat) w t, vs[j]? = some w → (ls ts)[j]? = some t → At o H n (j :: p) w t
theorem At.r {o : Ow} {H : Hp} : ∀ {n : Nat} {p : List Nat} {v : V} {t : Tr n}, At o H n p v t → AtR H n v t
  | 0, _, _, _, h => h
  | n + 1, _, _, _, ⟨a, vs, e, _, h, l, k⟩ => ⟨a, vs, e, h, l, fun j w t hw ht => (k j w t hw ht).r⟩
/-- whatever is a list stays -/
theorem AtR.keep {H H' : Hp} (s : ∀ a xs, H a = some (.lst xs) → H' a = some (.lst xs)) : ∀ {n : Nat} {v : V} {t : Tr n}, AtR H n v t → AtR H' n v t
  | 0, _, _, h => h
  | n + 1, _, _, ⟨a, vs, e, h, l, k⟩ => ⟨a, vs, e, s _ _ h, l, fun j w t hw ht => (k j w t hw ht).keep s⟩
theorem AtR.same {H H' : Hp} (s : Same H H') {n : Nat} {v : V} {t : Tr n} (h : AtR H n v t) : AtR H' n v t := h.keep fun a xs e => s a _ e
theorem At.frame {o o' : Ow} {H H' : Hp} : ∀ {n : Nat} {p : List Nat} {v : V} {t : Tr n}, At o H n p v t → (∀ a r xs, o a = some r → p <:+ r → H a = some (.lst xs) → H' a = some (.lst xs) ∧ o' a = some r) → At o' H' n p v t
  | 0, _, _, _, h, _ => h
  | n + 1, p, _, _, ⟨a, vs, e, ho, h, l, k⟩, f =>
    have q := f a p vs ho (List.suffix_refl p) h
    ⟨a, vs, e, q.2, q.1, l, fun j w t hw ht => (k j w t hw ht).frame fun b r xs hb hs hx => f b r xs hb ((List.suffix_cons j p).trans hs) hx⟩
/-- under another place -/
theorem At.under {o : Ow} {H : Hp} (q : List Nat) : ∀ {n : Nat} {p : List Nat} {v : V} {t : Tr n}, At o H n p v t → At (fun a => (o a).map (· ++ q)) H n (p ++ q) v t
  | 0, _, _, _, h => h
  | n + 1, p, _, _, ⟨a, vs, e, ho, h, l, k⟩ => ⟨a, vs, e, (by show (o a).map (· ++ q) = _; rw [ho]; rfl), h, l, fun j w t hw ht => (k j w t hw ht).under q⟩
theorem cons_not_suffix {j : Nat} {p : List Nat} : ¬ (j :: p) <:+ p := fun h => by
  have := h.length_le
  rw [List.length_cons] at this
  omega
theorem cons_ne_suffix {j i : Nat} {p r : List Nat} (h : (j :: p) <:+ r) (h' : (i :: p) <:+ r) : j = i := by
  have e1 : (j :: p) = r.drop (r.length - (j :: p).length) := List.suffix_iff_eq_drop.mp h
  have e2 : (i :: p) = r.drop (r.length - (i :: p).length) := List.suffix_iff_eq_drop.mp h'
  rw [List.length_cons] at e1 e2
  rw [← e2] at e1
  exact (List.cons.inj e1).1
/-- the list itself gets another item at its end -/
theorem At.app {o o' : Ow} {H H' : Hp} {n : Nat} {p : List Nat} {a : Addr} {ts : Tr (n + 1)} {vs : List V} {w : V} {t : Tr n} (h : At o H (n + 1) p (.ref a) ts) (hv : H a = some (.lst vs)) (hf : ∀ b r xs, o b = some r → b ≠ a → H b = some (.lst xs) → H' b = some (.lst xs))
    (ho : ∀ b r, o b = some r → o' b = some r) (e : H' a = some (.lst (vs ++ [w]))) (hw : At o' H' n ((ls ts).length :: p) w t) : At o' H' (n + 1) p (.ref a) (ls ts ++ [t] : List (Tr n)) := by
  obtain ⟨a', vs', ea, ho', h', l, k⟩ := h
  cases ea
  rw [hv] at h'
  cases h'
  refine ⟨a, _, rfl, ho _ _ ho', e, by show (vs ++ [w]).length = (ls ts ++ [t]).length; rw [List.length_append, List.length_append, l]; rfl, fun j x u hx hu => ?_⟩
  have hu : (ls ts ++ [t])[j]? = some u := hu
  rcases Nat.lt_trichotomy j vs.length with q | q | q
  · rw [List.getElem?_append_left q] at hx
    rw [List.getElem?_append_left (by omega)] at hu
    refine (k j x u hx hu).frame fun b r xs hb hs hx => ?_
    have hne : b ≠ a := fun z => by
      subst z
      rw [ho'] at hb
      cases hb
      exact cons_not_suffix hs
    exact ⟨hf b r xs hb hne hx, ho b r hb⟩
  · subst q
    rw [List.getElem?_append_right (Nat.le_refl _), Nat.sub_self] at hx
    rw [List.getElem?_append_right (by omega), show vs.length - (ls ts).length = 0 by omega] at hu
    cases hx
    cases hu
    rw [l]
    exact hw
  · rw [List.getElem?_append_right (by omega)] at hx
    have : [w].length ≤ j - vs.length := by rw [List.length_singleton]; omega
    rw [List.getElem?_eq_none this] at hx
    cases hx
/-- an item of it has changed, in its own place or by another one put there -/
theorem At.put {o o' : Ow} {H H' : Hp} {n : Nat} {p : List Nat} {a : Addr} {ts : Tr (n + 1)} {vs : List V} {i : Nat} {w : V} {t : Tr n} (h : At o H (n + 1) p (.ref a) ts) (hv : H a = some (.lst vs)) (hi : i < vs.length)
    (hf : ∀ b r xs, o b = some r → b ≠ a → ¬ (i :: p) <:+ r → H b = some (.lst xs) → H' b = some (.lst xs)) (ho : ∀ b r, o b = some r → ¬ (i :: p) <:+ r → o' b = some r)
    (e : H' a = some (.lst (vs.set i w))) (hw : At o' H' n (i :: p) w t) : At o' H' (n + 1) p (.ref a) ((ls ts).set i t : List (Tr n)) := by
  obtain ⟨a', vs', ea, ho', h', l, k⟩ := h
  cases ea
  rw [hv] at h'
  cases h'
  refine ⟨a, _, rfl, ho _ _ ho' cons_not_suffix, e, by show (vs.set i w).length = ((ls ts).set i t).length; rw [List.length_set, List.length_set, l], fun j x u hx hu => ?_⟩
  have hu : ((ls ts).set i t)[j]? = some u := hu
  by_cases q : i = j
  · subst q
    rw [List.getElem?_set_self (by omega)] at hx
    rw [List.getElem?_set_self (by omega)] at hu
    cases hx
    cases hu
    exact hw
  · rw [List.getElem?_set_ne q] at hx hu
    refine (k j x u hx hu).frame fun b r xs hb hs hx => ?_
    have hne : b ≠ a := fun z => by
      subst z
      rw [ho'] at hb
      cases hb
      exact cons_not_suffix hs
    have hni : ¬ (i :: p) <:+ r := fun z => q (cons_ne_suffix z hs)
    exact ⟨hf b r xs hb hne hni hx, ho b r hb hni⟩
theorem At.lst {o : Ow} {H : Hp} {n : Nat} {p : List Nat} {v : V} {ts : Tr (n + 1)} (h : At o H (n + 1) p v ts) : ∃ a vs, v = .ref a ∧ o a = some p ∧ H a = some (.lst vs) ∧ vs.length = (ls ts).length :=
  let ⟨a, vs, e, ho, h, l, _⟩ := h
  ⟨a, vs, e, ho, h, l⟩
theorem At.kid {o : Ow} {H : Hp} {n : Nat} {p : List Nat} {a : Addr} {ts : Tr (n + 1)} {vs : List V} {j : Nat} (h : At o H (n + 1) p (.ref a) ts) (hv : H a = some (.lst vs)) (hj : j < vs.length) : ∃ w t, vs[j]? = some w ∧ (ls ts)[j]? = some t ∧ At o H n (j :: p) w t := by
  obtain ⟨a', vs', ea, ho', h', l, k⟩ := h
  cases ea
  rw [hv] at h'
  cases h'
  have h1 : vs[j]? = some vs[j] := List.getElem?_eq_getElem hj
  have hj' : j < (ls ts).length := by omega
  have h2 : (ls ts)[j]? = some (ls ts)[j] := List.getElem?_eq_getElem hj'
  exact ⟨_, _, h1, h2, k j _ _ h1 h2⟩
theorem AtR.kid {H : Hp} {n : Nat} {a : Addr} {ts : Tr (n + 1)} {vs : List V} {j : Nat} (h : AtR H (n + 1) (.ref a) ts) (hv : H a = some (.lst vs)) (hj : j < vs.length) : ∃ w t, vs[j]? = some w ∧ (ls ts)[j]? = some t ∧ AtR H n w t := by
  obtain ⟨a', vs', ea, h', l, k⟩ := h
  cases ea
  rw [hv] at h'
  cases h'
  have h1 : vs[j]? = some vs[j] := List.getElem?_eq_getElem hj
  have hj' : j < (ls ts).length := by omega
  have h2 : (ls ts)[j]? = some (ls ts)[j] := List.getElem?_eq_getElem hj'
  exact ⟨_, _, h1, h2, k j _ _ h1 h2⟩
theorem AtR.lst {H : Hp} {n : Nat} {v : V} {ts : Tr (n + 1)} (h : AtR H (n + 1) v ts) : ∃ a vs, v = .ref a ∧ H a = some (.lst vs) ∧ vs.length = (ls ts).length :=
  let ⟨a, vs, e, h, l, _⟩ := h
  ⟨a, vs, e, h, l⟩
/-- made since H -/
def New (H H' : Hp) (n : Nat) (w : V) (t : Tr n) : Prop := ∃ o, At o H' n [] w t ∧ ∀ a r, o a = some r → H a = none ∧ H' a ≠ none
/-- the items of a list that grows at l -/
def NewL (H H' : Hp) (l : Addr) (n : Nat) (ws : List V) (ts : List (Tr n)) : Prop :=
  ws.length = ts.length ∧ ∃ o : Ow, (∀ (j : Nat) w t, ws[j]? = some w → ts[j]? = some t → At o H' n [j] w t) ∧ ∀ a r, o a = some r → H a = none ∧ H' a ≠ none ∧ a ≠ l ∧ r ≠ []
theorem New.r {H H' : Hp} {n : Nat} {w : V} {t : Tr n} (h : New H H' n w t) : AtR H' n w t := let ⟨_, h, _⟩ := h; h.r
theorem NewL.nil {H H' : Hp} {l : Addr} {n : Nat} : NewL H H' l n [] [] := ⟨rfl, fun _ => none, fun j w t h => (by rw [List.getElem?_nil] at h; cases h), fun a r h => nomatch h⟩
theorem NewL.frame {H H' H'' : Hp} {l : Addr} {n : Nat} {ws : List V} {ts : List (Tr n)} (h : NewL H H' l n ws ts) (f : ∀ a xs, a ≠ l → H a = none → H' a = some (.lst xs) → H'' a = some (.lst xs)) (g : ∀ a, H' a ≠ none → H'' a ≠ none) : NewL H H'' l n ws ts := by
  obtain ⟨e, o, k, d⟩ := h
  exact ⟨e, o, fun j w t hw ht => (k j w t hw ht).frame fun a r xs ho _ hx => ⟨f a xs (d a r ho).2.2.1 (d a r ho).1 hx, ho⟩, fun a r ho => ⟨(d a r ho).1, g a (d a r ho).2.1, (d a r ho).2.2⟩⟩
theorem New.frame {H H' H'' : Hp} {n : Nat} {w : V} {t : Tr n} (h : New H H' n w t) (f : ∀ a xs, H a = none → H' a = some (.lst xs) → H'' a = some (.lst xs)) (g : ∀ a, H' a ≠ none → H'' a ≠ none) : New H H'' n w t := by
  obtain ⟨o, k, d⟩ := h
  exact ⟨o, k.frame fun a r xs ho _ hx => ⟨f a xs (d a r ho).1 hx, ho⟩, fun a r ho => ⟨(d a r ho).1, g a (d a r ho).2⟩⟩
theorem New.same {H H' H'' : Hp} {n : Nat} {w : V} {t : Tr n} (h : New H H' n w t) (s : Same H' H'') : New H H'' n w t := h.frame (fun a xs _ e => s a _ e) fun a e => by
  cases q : H' a with
  | none => exact absurd q e
  | some u => rw [s a u q]; intro z; cases z
theorem New.older {H0 H H' : Hp} {n : Nat} {w : V} {t : Tr n} (h : New H H' n w t) (s : Same H0 H) : New H0 H' n w t := by
  obtain ⟨o, k, d⟩ := h
  exact ⟨o, k, fun a r ho => ⟨s.free (d a r ho).1, (d a r ho).2⟩⟩
theorem New.int {H H' : Hp} {i : Int} : New H H' 0 (.int i) i := ⟨fun _ => none, rfl, fun a r h => nomatch h⟩
/-- one item more: made since H' -/
theorem NewL.snoc {H H' H'' : Hp} {l : Addr} {n : Nat} {ws : List V} {ts : List (Tr n)} {w : V} {t : Tr n} (h : NewL H H' l n ws ts) (hl : H' l ≠ none) (fr : ∀ a, H' a = none → H a = none) (f : ∀ a xs, a ≠ l → H a = none → H' a = some (.lst xs) → H'' a = some (.lst xs)) (g : ∀ a, H' a ≠ none → H'' a ≠ none)
    (hn : New H' H'' n w t) : NewL H H'' l n (ws ++ [w]) (ts ++ [t]) := by
  obtain ⟨e, o, k, d⟩ := h
  obtain ⟨o2, k2, d2⟩ := hn
  have old : ∀ a r, o a = some r → o2 a = none := fun a r ho => by
    cases q : o2 a with
    | none => rfl
    | some r2 => exact absurd (d2 a r2 q).1 (d a r ho).2.1
  refine ⟨by rw [List.length_append, List.length_append, e]; rfl, fun a => match o2 a with | some r => some (r ++ [ws.length]) | none => o a, fun j x u hx hu => ?_, fun a r hr => ?_⟩
  · rcases Nat.lt_trichotomy j ws.length with q | q | q
    · rw [List.getElem?_append_left q] at hx
      rw [List.getElem?_append_left (by omega)] at hu
      refine (k j x u hx hu).frame fun a r xs ho _ hx => ⟨f a xs (d a r ho).2.2.1 (d a r ho).1 hx, ?_⟩
      show (match o2 a with | some r => some (r ++ [ws.length]) | none => o a) = some r
      rw [old a r ho]
      exact ho
    · subst q
      rw [List.getElem?_append_right (Nat.le_refl _), Nat.sub_self] at hx
      rw [List.getElem?_append_right (by omega), show ws.length - ts.length = 0 by omega] at hu
      cases hx
      cases hu
      refine (k2.under [ws.length]).frame fun a r xs ho _ hx => ⟨hx, ?_⟩
      show (match o2 a with | some r => some (r ++ [ws.length]) | none => o a) = some r
      cases q : o2 a with
      | none => rw [q] at ho; cases ho
      | some r2 => rw [q] at ho; exact ho
    · rw [List.getElem?_append_right (by omega)] at hx
      have : [w].length ≤ j - ws.length := by rw [List.length_singleton]; omega
      rw [List.getElem?_eq_none this] at hx
      cases hx
  · have hr : (match o2 a with | some r => some (r ++ [ws.length]) | none => o a) = some r := hr
    cases q : o2 a with
    | none =>
      rw [q] at hr
      exact ⟨(d a r hr).1, g a (d a r hr).2.1, (d a r hr).2.2⟩
    | some r2 =>
      rw [q] at hr
      cases hr
      refine ⟨fr a (d2 a r2 q).1, (d2 a r2 q).2, fun z => ?_, fun z => ?_⟩
      · subst z
        exact hl (d2 a r2 q).1
      · have := congrArg List.length z
        rw [List.length_append] at this
        simp at this
theorem NewL.done {H H' : Hp} {l : Addr} {n : Nat} {ws : List V} {ts : List (Tr n)} (h : NewL H H' l n ws ts) (hl : H l = none) (e : H' l = some (.lst ws)) : New H H' (n + 1) (.ref l) ts := by
  obtain ⟨el, o, k, d⟩ := h
  have nl : o l = none := by
    cases q : o l with
    | none => rfl
    | some r => exact absurd rfl (d l r q).2.2.1
  refine ⟨fun a => if a = l then some [] else o a, ⟨l, ws, rfl, if_pos rfl, e, el, fun j w t hw ht => (k j w t hw ht).frame fun a r xs ho _ hx => ⟨hx, ?_⟩⟩, fun a r hr => ?_⟩
  · show (if a = l then some [] else o a) = some r
    rw [if_neg (d a r ho).2.2.1]
    exact ho
  · have hr : (if a = l then some [] else o a) = some r := hr
    by_cases q : a = l
    · subst q
      exact ⟨hl, by rw [e]; intro z; cases z⟩
    · rw [if_neg q] at hr
      exact ⟨(d a r hr).1, (d a r hr).2.1⟩
/-- all ints in it -/
def flat : (n : Nat) → Tr n → List Int
  | 0, i => [i]
  | n + 1, ts => (ls ts).flatMap (flat n)
/-- no list in it is empty -/
def full : (n : Nat) → Tr n → Prop
  | 0, _ => True
  | n + 1, ts => ls ts ≠ [] ∧ ∀ t ∈ ls ts, full n t
/-- its last lists rise -/
def asc : (n : Nat) → Tr n → Prop
  | 0, _ => True
  | 1, f => List.Pairwise (α := Int) (· < ·) f
  | n + 2, ts => ∀ t ∈ ls ts, asc (n + 1) t
theorem flat_ints (f : Tr 1) : flat 1 f = (f : List Int) := by
  show List.flatMap (fun i => [i]) (f : List Int) = f
  exact List.flatMap_singleton' f
theorem flat_app (n : Nat) (ts us : List (Tr n)) : flat (n + 1) (ts ++ us : List (Tr n)) = flat (n + 1) ts ++ flat (n + 1) us := List.flatMap_append
theorem flat_set (n : Nat) : ∀ (ts : List (Tr n)) (i : Nat) (t t' : Tr n) (s : Int), ts[i]? = some t → (flat n t').Perm (flat n t ++ [s]) → (flat (n + 1) (ts.set i t' : List (Tr n))).Perm (flat (n + 1) ts ++ [s])
  | x :: r, 0, t, t', s, h, p => by
    cases h
    show (flat n t' ++ r.flatMap (flat n)).Perm ((flat n x ++ r.flatMap (flat n)) ++ [s])
    refine (p.append_right _).trans ?_
    rw [List.append_assoc, List.append_assoc]
    exact List.Perm.append_left _ List.perm_append_comm
  | x :: r, i + 1, t, t', s, h, p => by
    have := flat_set n r i t t' s h p
    show (flat n x ++ (r.set i t').flatMap (flat n)).Perm ((flat n x ++ r.flatMap (flat n)) ++ [s])
    rw [List.append_assoc]
    exact List.Perm.append_left _ this
theorem full_set {n : Nat} {ts : List (Tr n)} {i : Nat} {t : Tr n} (h : full (n + 1) ts) (ht : full n t) : full (n + 1) (ts.set i t : List (Tr n)) := by
  refine ⟨fun z => h.1 (List.length_eq_zero_iff.mp (by have := congrArg List.length z; rw [List.length_set] at this; exact this)), fun x hx => ?_⟩
  rcases List.mem_or_eq_of_mem_set hx with q | q
  · exact h.2 x q
  · rw [q]; exact ht
theorem full_app {n : Nat} {ts : List (Tr n)} {t : Tr n} (h : full (n + 1) ts) (ht : full n t) : full (n + 1) (ts ++ [t] : List (Tr n)) := by
  refine ⟨List.append_ne_nil_of_right_ne_nil _ (List.cons_ne_nil _ _), fun x hx => ?_⟩
  rcases List.mem_append.mp hx with q | q
  · exact h.2 x q
  · rw [List.mem_singleton.mp q]; exact ht
theorem asc_set {n : Nat} {ts : List (Tr (n + 1))} {i : Nat} {t : Tr (n + 1)} (h : asc (n + 2) ts) (ht : asc (n + 1) t) : asc (n + 2) (ts.set i t : List (Tr (n + 1))) := fun x hx => by
  rcases List.mem_or_eq_of_mem_set hx with q | q
  · exact h x q
  · rw [q]; exact ht
theorem asc_app {n : Nat} {ts : List (Tr (n + 1))} {t : Tr (n + 1)} (h : asc (n + 2) ts) (ht : asc (n + 1) t) : asc (n + 2) (ts ++ [t] : List (Tr (n + 1))) := fun x hx => by
  rcases List.mem_append.mp hx with q | q
  · exact h x q
  · rw [List.mem_singleton.mp q]; exact ht
theorem rIsiA.ty {K : PySem.W.Frag} {H : Hp} {x : V} {n c : String} {b : Bool} {Q : VK} (t : TyOf K H x (.type n)) (k : PySem.W.kitOne K (.type n) (.type c) = some b) (q : Q (.bl b) H) : rIsiA K [x, .ty c] H Q := .inl ⟨x, .ty c, _, _, _, rfl, .ty c, t, k, q⟩
theorem AtR.ints {H : Hp} {a : Addr} {ns : List Int} (h : AtR H 1 (.ref a) ns) : H a = some (.lst (ns.map V.int)) := by
  obtain ⟨a', vs, e, hv, l, k⟩ := h
  cases e
  have l : vs.length = ns.length := l
  have k : ∀ (j : Nat) w (t : Int), vs[j]? = some w → ns[j]? = some t → w = .int t := k
  have ev : vs = ns.map V.int := by
    refine List.ext_getElem? fun j => ?_
    rcases Nat.lt_or_ge j vs.length with q | q
    · have hj : j < ns.length := by omega
      have h1 : vs[j]? = some vs[j] := List.getElem?_eq_getElem q
      have h2 : ns[j]? = some ns[j] := List.getElem?_eq_getElem hj
      rw [h1, List.getElem?_map, h2, k j _ _ h1 h2]
      rfl
    · rw [List.getElem?_eq_none q, List.getElem?_eq_none (by rw [List.length_map]; omega)]
  rw [hv, ev]
theorem New.ints {H H' : Hp} {l : Addr} {ns : List Int} (hl : H l = none) (h : H' l = some (.lst (ns.map V.int))) : New H H' 1 (.ref l) ns :=
  ⟨fun a => if a = l then some [] else none, ⟨l, _, rfl, if_pos rfl, h, List.length_map .., fun j w t hw ht => by
    have ht : ns[j]? = some t := ht
    rw [List.getElem?_map, ht] at hw
    cases hw
    rfl⟩, fun a r hr => by
    have hr : (if a = l then some [] else none) = some r := hr
    by_cases q : a = l
    · subst q
      exact ⟨hl, by rw [h]; intro z; cases z⟩
    · rw [if_neg q] at hr
      cases hr⟩
theorem flat_split {n : Nat} {ts : List (Tr n)} {i : Nat} {t : Tr n} (h : ts[i]? = some t) : flat (n + 1) ts = flat (n + 1) (ts.take i : List (Tr n)) ++ (flat n t ++ flat (n + 1) (ts.drop (i + 1) : List (Tr n))) := by
  have e : ts = ts.take i ++ t :: ts.drop (i + 1) := by
    obtain ⟨hi, rfl⟩ := List.getElem?_eq_some_iff.mp h
    rw [List.getElem_cons_drop hi, List.take_append_drop]
  have e2 := congrArg (fun z : List (Tr n) => flat (n + 1) z) e
  refine Eq.trans e2 ?_
  show flat (n + 1) (ts.take i ++ t :: ts.drop (i + 1) : List (Tr n)) = _
  rw [flat_app]
  rfl
theorem flat_take {n : Nat} {ts : List (Tr n)} {i : Nat} {t : Tr n} (h : ts[i]? = some t) : flat (n + 1) (ts.take (i + 1) : List (Tr n)) = flat (n + 1) (ts.take i : List (Tr n)) ++ flat n t := by
  have e : ts.take (i + 1) = ts.take i ++ [t] := by rw [List.take_succ, h]; rfl
  rw [e, flat_app]
  show _ ++ (flat n t ++ []) = _
  rw [List.append_nil]
theorem flat_mem {n : Nat} {ts : List (Tr n)} {t : Tr n} {s : Int} (h : t ∈ ts) (hs : s ∈ flat n t) : s ∈ flat (n + 1) ts := List.mem_flatMap.mpr ⟨t, h, hs⟩
theorem flat_nd {n : Nat} {ts : List (Tr n)} {i : Nat} {t : Tr n} (h : ts[i]? = some t) (nd : (flat (n + 1) ts).Nodup) : (flat n t).Nodup ∧ ∀ s ∈ flat n t, s ∉ flat (n + 1) (ts.take i : List (Tr n)) := by
  rw [flat_split h, List.nodup_append, List.nodup_append] at nd
  exact ⟨nd.2.1.1, fun s hs z => nd.2.2 s z s (List.mem_append_left _ hs) rfl⟩
theorem flat_len {n : Nat} {ts : List (Tr n)} {i : Nat} {t : Tr n} (h : ts[i]? = some t) : (flat (n + 1) (ts.take i : List (Tr n))).length + (flat n t).length ≤ (flat (n + 1) ts).length := by
  rw [flat_split h, List.length_append, List.length_append]
  omega
/-- what is owned is there -/
def Dom (o : Ow) (H : Hp) : Prop := ∀ b r, o b = some r → H b ≠ none
/-- o, and what was made from H to H1 -/
structure Ext (o o' : Ow) (H H1 : Hp) : Prop where
  old : ∀ b, H b ≠ none → o' b = o b
  new : ∀ b r, o' b = some r → H b = none → H1 b ≠ none
def ovr (H : Hp) (o oN : Ow) (q : List Nat) : Ow := fun b => match H b with | none => (oN b).map (· ++ q) | some _ => o b
theorem New.put {o : Ow} {H H1 : Hp} {n : Nat} {w : V} {t : Tr n} (nw : New H H1 n w t) (q : List Nat) : ∃ o', Ext o o' H H1 ∧ ∀ H2, (∀ b xs, H b = none → H1 b = some (.lst xs) → H2 b = some (.lst xs)) → At o' H2 n q w t := by
  obtain ⟨oN, k, d⟩ := nw
  refine ⟨ovr H o oN q, ⟨fun b hb => ?_, fun b r hr hb => ?_⟩, fun H2 f => ?_⟩
  · unfold ovr
    cases e : H b with
    | none => exact absurd e hb
    | some u => rfl
  · unfold ovr at hr
    rw [hb] at hr
    cases e : oN b with
    | none =>
      have hr : (oN b).map (· ++ q) = some r := hr
      rw [e] at hr
      cases hr
    | some r' => exact (d b r' e).2
  · refine (k.under q).frame fun b r xs hr _ hx => ?_
    have hr : (oN b).map (· ++ q) = some r := hr
    cases e : oN b with
    | none => rw [e] at hr; cases hr
    | some r' =>
      refine ⟨f b xs (d b r' e).1 hx, ?_⟩
      unfold ovr
      rw [(d b r' e).1]
      exact hr
theorem Ext.dom {o o' : Ow} {H H1 : Hp} (x : Ext o o' H H1) (d : Dom o H) : ∀ b r, o b = some r → o' b = some r := fun b r h => by rw [x.old b (d b r h)]; exact h
theorem some_ne {α : Type} {o : Option α} {x : α} (h : o = some x) : o ≠ none := by rw [h]; intro z; cases z
/-- a.append(w), w new -/
theorem At.appN {o : Ow} {H H1 : Hp} {n : Nat} {p : List Nat} {a : Addr} {ts : Tr (n + 1)} {vs : List V} {w : V} {t : Tr n} (h : At o H (n + 1) p (.ref a) ts) (dm : Dom o H) (hv : H a = some (.lst vs)) (s : Same H H1) (nw : New H H1 n w t) :
    ∃ o', Ext o o' H H1 ∧ At o' (upd H1 a (.lst (vs ++ [w]))) (n + 1) p (.ref a) (ls ts ++ [t] : List (Tr n)) := by
  obtain ⟨o', x, k⟩ := nw.put (o := o) ((ls ts).length :: p)
  refine ⟨o', x, h.app hv (fun b r xs hb nb hx => by rw [upd_ne nb]; exact s b _ hx) (x.dom dm) upd_same (k _ fun b xs hb hx => ?_)⟩
  rw [upd_ne (fun z => by rw [z, hv] at hb; cases hb)]
  exact hx
/-- a[i] = w, w new -/
theorem At.setN {o : Ow} {H H1 : Hp} {n : Nat} {p : List Nat} {a : Addr} {ts : Tr (n + 1)} {vs : List V} {i : Nat} {w : V} {t : Tr n} (h : At o H (n + 1) p (.ref a) ts) (dm : Dom o H) (hv : H a = some (.lst vs)) (hi : i < vs.length) (s : Same H H1) (nw : New H H1 n w t) :
    ∃ o', Ext o o' H H1 ∧ At o' (upd H1 a (.lst (vs.set i w))) (n + 1) p (.ref a) ((ls ts).set i t : List (Tr n)) := by
  obtain ⟨o', x, k⟩ := nw.put (o := o) (i :: p)
  refine ⟨o', x, h.put hv hi (fun b r xs hb nb _ hx => by rw [upd_ne nb]; exact s b _ hx) (fun b r hb _ => x.dom dm b r hb) upd_same (k _ fun b xs hb hx => ?_)⟩
  rw [upd_ne (fun z => by rw [z, hv] at hb; cases hb)]
  exact hx
/-- the list above one that was changed at c -/
theorem At.up {o o' : Ow} {H H1 : Hp} {n : Nat} {p pc : List Nat} {a c : Addr} {ts : Tr (n + 1)} {vs ys : List V} {i : Nat} {w : V} {t : Tr n} (h : At o H (n + 1) p (.ref a) ts) (dm : Dom o H) (hv : H a = some (.lst vs)) (hw : vs[i]? = some w) (s : Same H H1) (x : Ext o o' H H1)
    (hc : o c = some pc) (hp : (i :: p) <:+ pc) (k : At o' (upd H1 c (.lst ys)) n (i :: p) w t) : At o' (upd H1 c (.lst ys)) (n + 1) p (.ref a) ((ls ts).set i t : List (Tr n)) := by
  have hi : i < vs.length := (List.getElem?_eq_some_iff.mp hw).1
  have oa : o a = some p := by
    obtain ⟨a', _, e, oa, _⟩ := h
    cases e
    exact oa
  have nac : a ≠ c := fun z => by
    rw [z, hc] at oa
    cases oa
    exact cons_not_suffix hp
  have es : vs.set i w = vs := by
    obtain ⟨hi, rfl⟩ := List.getElem?_eq_some_iff.mp hw
    exact List.set_getElem_self hi
  refine h.put hv hi (fun b r xs hb _ hs hx => ?_) (fun b r hb _ => x.dom dm b r hb) (by rw [upd_ne nac, es]; exact s a _ hv) k
  rw [upd_ne (fun z => by rw [z, hc] at hb; cases hb; exact hs hp)]
  exact s b _ hx
theorem Ext.after {o o' : Ow} {H H1 : Hp} {c : Addr} {u : HO} (x : Ext o o' H H1) (dm : Dom o H) (s : Same H H1) : Dom o' (upd H1 c u) := fun b r hr => by
  by_cases q : b = c
  · rw [q, upd_same]; intro z; cases z
  · rw [upd_ne q]
    cases e : H b with
    | none => exact x.new b r hr e
    | some v => rw [s b v e]; intro z; cases z
end L2

namespace L2
open PySem PySem.Spec PyProof.Rows

/-! ### zip of two lists; t + u where t may be empty -/
end L2
namespace L2
open PySem PySem.Spec PyProof.Rows
/-! ### list(d): the keys -/
end L2

namespace L2
open PySem PySem.Spec PyProof.Rows

/-! ### sep.join(list of texts) -/
/-! ### isinstance of own things, by an own class -/
end L2

namespace L2
open PySem PySem.Spec PyProof.Rows
section
variable {X : Cx}
end

/-! ### some items of a new list's, in a new list -/
theorem At.relabel {o o' : Ow} {H H' : Hp} {k j : Nat} (f : ∀ b p xs, o b = some (p ++ [k]) → H b = some (.lst xs) → o' b = some (p ++ [j]) ∧ H' b = some (.lst xs)) : ∀ {n : Nat} {q : List Nat} {v : V} {t : Tr n}, At o H n (q ++ [k]) v t → At o' H' n (q ++ [j]) v t
  | 0, _, _, _, h => h
  | n + 1, q, _, _, ⟨a, vs, e, ho, h, l, kd⟩ => ⟨a, vs, e, (f a q vs ho h).1, (f a q vs ho h).2, l, fun i w t hw ht => At.relabel f (q := i :: q) (kd i w t hw ht)⟩
structure Pk {n : Nat} (ws : List V) (ts : List (Tr n)) (i : Nat) (idx : List Nat) (acc : List V) (us : List (Tr n)) : Prop where
  la : acc.length = idx.length
  lu : us.length = idx.length
  lt : ∀ k ∈ idx, k < i
  nd : idx.Nodup
  at_ : ∀ j k : Nat, idx[j]? = some k → acc[j]? = ws[k]? ∧ us[j]? = ts[k]?
theorem Pk.nil {n : Nat} {ws : List V} {ts : List (Tr n)} : Pk ws ts 0 [] [] [] := ⟨rfl, rfl, fun _ h => (nomatch h), List.nodup_nil, fun _ _ h => (by rw [List.getElem?_nil] at h; cases h)⟩
theorem Pk.drop {n : Nat} {ws : List V} {ts : List (Tr n)} {i : Nat} {idx : List Nat} {acc : List V} {us : List (Tr n)} (h : Pk ws ts i idx acc us) : Pk ws ts (i + 1) idx acc us :=
  ⟨h.la, h.lu, fun k hk => Nat.lt_succ_of_lt (h.lt k hk), h.nd, h.at_⟩
theorem Pk.keep {n : Nat} {ws : List V} {ts : List (Tr n)} {i : Nat} {idx : List Nat} {acc : List V} {us : List (Tr n)} {w : V} {t : Tr n} (h : Pk ws ts i idx acc us) (hw : ws[i]? = some w) (ht : ts[i]? = some t) : Pk ws ts (i + 1) (idx ++ [i]) (acc ++ [w]) (us ++ [t]) := by
  refine ⟨by rw [List.length_append, List.length_append, h.la]; rfl, by rw [List.length_append, List.length_append, h.lu]; rfl, fun k hk => ?_, ?_, fun j k hk => ?_⟩
  · rcases List.mem_append.mp hk with q | q
    · exact Nat.lt_succ_of_lt (h.lt k q)
    · rw [List.mem_singleton.mp q]; exact Nat.lt_succ_self i
  · rw [List.nodup_append]
    exact ⟨h.nd, List.nodup_cons.mpr ⟨List.not_mem_nil, List.nodup_nil⟩, fun x hx y hy e => by rw [e, List.mem_singleton.mp hy] at hx; exact Nat.lt_irrefl _ (h.lt _ hx)⟩
  · by_cases q : j < idx.length
    · rw [List.getElem?_append_left q] at hk
      rw [List.getElem?_append_left (by rw [h.la]; exact q), List.getElem?_append_left (by rw [h.lu]; exact q)]
      exact h.at_ j k hk
    · rw [List.getElem?_append_right (by omega)] at hk
      obtain ⟨h1, e1⟩ := List.getElem?_eq_some_iff.mp hk
      have j0 : j - idx.length = 0 := by simpa using h1
      rw [j0] at hk
      cases (Option.some.inj hk : i = k)
      rw [List.getElem?_append_right (by rw [h.la]; omega), List.getElem?_append_right (by rw [h.lu]; omega), h.la, h.lu, j0]
      exact ⟨hw.symm, ht.symm⟩
theorem idx_at {idx : List Nat} : ∀ (nd : idx.Nodup) (j : Nat) (h : j < idx.length), idx.idxOf idx[j] = j := by
  induction idx with
  | nil => intro _ j h; cases h
  | cons x r ih =>
    intro nd j h
    rw [List.nodup_cons] at nd
    cases j with
    | zero => simp
    | succ j =>
      have hj : j < r.length := by simpa using h
      have e := ih nd.2 j hj
      rw [List.getElem_cons_succ, List.idxOf_cons]
      have ne : (x == r[j]) = false := by
        rw [beq_eq_false_iff_ne]
        intro q
        exact nd.1 (q ▸ List.getElem_mem hj)
      rw [ne, cond_false, e]
theorem NewL.pick {H G G' : Hp} {l r : Addr} {n : Nat} {ws acc : List V} {ts us : List (Tr n)} {idx : List Nat} {i : Nat} (h : NewL H G l n ws ts) (p : Pk ws ts i idx acc us) (hr : G r = none) (hH : H r = none) (s : Same G G') (e : G' r = some (.lst acc)) : New H G' (n + 1) (.ref r) us := by
  obtain ⟨el, o, k, d⟩ := h
  have nr : ∀ b q, o b = some q → b ≠ r := fun b q ho z => (d b q ho).2.1 (by rw [z]; exact hr)
  let o' : Ow := fun b => if b = r then some [] else match o b with | none => none | some q => match q.getLast? with | none => none | some m => if m ∈ idx then some (q.dropLast ++ [idx.idxOf m]) else none
  refine ⟨o', ⟨r, acc, rfl, if_pos rfl, e, by show acc.length = us.length; rw [p.la, p.lu], fun j w t hw ht => ?_⟩, fun b q hq => ?_⟩
  · have hj : j < idx.length := by rw [← p.la]; exact (List.getElem?_eq_some_iff.mp hw).1
    have hm : idx[j]? = some idx[j] := List.getElem?_eq_getElem hj
    obtain ⟨p1, p2⟩ := p.at_ j _ hm
    have ht : us[j]? = some t := ht
    rw [hw] at p1
    rw [ht] at p2
    have ka := k idx[j] w t p1.symm p2.symm
    refine At.relabel (q := []) (fun b q xs ho hx => ⟨?_, s b _ hx⟩) ka
    show (if b = r then some [] else match o b with | none => none | some q => match q.getLast? with | none => none | some m => if m ∈ idx then some (q.dropLast ++ [idx.idxOf m]) else none) = some (q ++ [j])
    rw [if_neg (nr b _ ho), ho]
    show (match (q ++ [idx[j]]).getLast? with | none => none | some m => if m ∈ idx then some ((q ++ [idx[j]]).dropLast ++ [idx.idxOf m]) else none) = some (q ++ [j])
    rw [List.getLast?_append]
    show (if idx[j] ∈ idx then some ((q ++ [idx[j]]).dropLast ++ [idx.idxOf idx[j]]) else none) = some (q ++ [j])
    rw [if_pos (List.getElem_mem hj), List.dropLast_concat, idx_at p.nd j hj]
  · have hq : (if b = r then some [] else match o b with | none => none | some q => match q.getLast? with | none => none | some m => if m ∈ idx then some (q.dropLast ++ [idx.idxOf m]) else none) = some q := hq
    by_cases z : b = r
    · subst z
      exact ⟨hH, by rw [e]; intro q; cases q⟩
    · rw [if_neg z] at hq
      cases e2 : o b with
      | none => rw [e2] at hq; cases hq
      | some q2 =>
        have dd := d b q2 e2
        refine ⟨dd.1, ?_⟩
        cases e3 : G b with
        | none => exact absurd e3 dd.2.1
        | some u => rw [s b u e3]; intro q; cases q
end L2

namespace L2
open PySem PySem.Spec PyProof.Rows

/-- a comprehension's loop over a tuple -/
theorem loop_tup {K : PySem.W.Frag} {a l : Addr} {xs : List V} {g : TG} {tc : TT} {te : TE} {σ : St} {H : Hp} {Q : VK} (Pv : Nat → St → List V → Hp → Prop) (hsz : xs.length ≤ sizeLine) (h0 : Pv 0 σ [] H)
    (hl : ∀ i σ acc H, i ≤ xs.length → Pv i σ acc H → H l = some (.lst acc) ∧ SqT K H a xs ∧ acc.length ≤ i)
    (hs : ∀ i x σ acc H, xs[i]? = some x → Pv i σ acc H → g x σ H fun σ2 H2 => tc σ2 H2 fun b H3 => if b = true then
      te σ2 H3 fun v H4 => H4 l = some (.lst acc) ∧ Nx xs.length i (Pv (i + 1) σ2 (acc ++ [v]) (upd H4 l (.lst (acc ++ [v])))) else Nx xs.length i (Pv (i + 1) σ2 acc H3))
    (hd : ∀ σ acc H, Pv xs.length σ acc H → Q (.ref l) H) : tLoop (Itt K a) l g tc te σ H Q :=
  loop_by xs.length Pv hsz h0 (fun i σ acc H hi p => ⟨(hl i σ acc H hi p).1, (hl i σ acc H hi p).2.2⟩)
    (fun i σ acc H hi p => ⟨xs, xs[i], (hl i σ acc H (Nat.le_of_lt hi) p).2.1, List.getElem?_eq_getElem hi⟩)
    (fun i x σ acc H H' hi p y => by
      obtain ⟨e, y⟩ := y
      subst e
      exact hs i x σ acc _ (y xs (hl i σ acc _ (Nat.le_of_lt hi) p).2.1) p)
    (fun σ acc H p => ⟨⟨xs, (hl _ σ acc H (Nat.le_refl _) p).2.1, Nat.le_refl _⟩, hd σ acc H p⟩)
/-- t[:-1] -/
theorem cut_last {xs : List V} (h : xs ≠ []) : cutV xs none (some (-1)) = xs.dropLast := by
  have hp : 0 < xs.length := List.length_pos_iff.mpr h
  unfold cutV HT.sIx
  rw [List.dropLast_eq_take]
  simp
  omega
theorem cut_part {xs : List V} (h : xs ≠ []) : ¬ (HT.sIx xs.length 0 none = 0 ∧ HT.sIx xs.length xs.length (some (-1)) = xs.length) := by
  have hp : 0 < xs.length := List.length_pos_iff.mpr h
  unfold HT.sIx
  simp
  omega
end L2


set_option maxHeartbeats 200000
namespace My
open PySem L2
local macro_rules | `(tactic| walk_at "rd") => `(tactic| repeat (first
  | refine ⟨_, rfl, ?_⟩
  | refine ⟨_, _, rfl, rfl, ?_⟩
  | refine ⟨_, _, rfl, ?_⟩
  | refine ⟨(by show (0 : Int) < _; decide), ?_⟩
  | refine ⟨(⟨by decide, by decide⟩ : CDiv _ _), ?_⟩
  | refine ⟨(⟨by decide, by decide⟩ : CDivB _ _), ?_⟩
  | refine ⟨(⟨by decide, by decide, by decide⟩ : CPow _ _), ?_⟩
  | refine ⟨(.inr ⟨by decide, by decide⟩ : CMul _ _), ?_⟩
  | refine ⟨(.inl ⟨by decide, by decide⟩ : CMul _ _), ?_⟩
  | refine ⟨Own.int, ?_⟩
  | refine ⟨Own.bl, ?_⟩
  | refine ⟨Own.str, ?_⟩
  | refine ⟨Own.non, ?_⟩
  | refine ⟨rfl, ?_⟩))
def isI : V → Bool
  | .int _ => true
  | _ => false
def inR (m : Int) : V → Bool
  | .int i => decide (1 ≤ i) && decide (i ≤ m)
  | _ => false
def spW (K : PySem.W.Frag) : Sp := fun vs H Q _ => ∃ x, vs = [x] ∧ Own K H x ∧ Q (.bl (isI x)) H
def spR (K : PySem.W.Frag) (m : Int) : Sp := fun vs H Q _ => ∃ x, vs = [x] ∧ Own K H x ∧ Q (.bl (inR m x)) H
def FrD (d : Addr) (H H' : Hp) : Prop := ∀ b u, b ≠ d → H b = some u → H' b = some u
def Seen (kvs kv' : List (Key × V)) (ns : List Int) : Prop := kv'.length = kvs.length + ns.length ∧ ∀ s : Int, valV kv' (Sum.inl s) = none ↔ valV kvs (Sum.inl s) = none ∧ s ∉ ns
structure Good (ns : List Int) : Prop where
  inn : ∀ s ∈ ns, inR 1000000000 (.int s) = true
  nd : ns.Nodup
def spSheetList : Sp := fun vs H Q _ => ∃ a d ns kvs, vs = [.ref a, .ref d] ∧ H a = some (.lst (ns.map V.int)) ∧ H d = some (.dK kvs) ∧ Good ns ∧ ns.Pairwise (· < ·) ∧ (∀ s ∈ ns, valV kvs (Sum.inl s) = none) ∧ kvs.length + ns.length ≤ 1000 ∧
  ∀ l kv' H', FrD d H H' → H l = none → H' l = some (.lst (ns.map V.int)) → H' d = some (.dK kv') → Seen kvs kv' ns → Q (.ref l) H'
theorem take_one {α : Type} {l : List α} {i : Nat} {x : α} (h : l[i]? = some x) : l.take (i + 1) = l.take i ++ [x] := by
  rw [List.take_succ, h]; rfl
theorem Seen.nil (kvs : List (Key × V)) : Seen kvs kvs [] := ⟨rfl, fun s => ⟨fun h => ⟨h, List.not_mem_nil⟩, fun h => h.1⟩⟩
theorem Seen.put {kvs kv' : List (Key × V)} {ns : List Int} {s : Int} {v : V} (h : Seen kvs kv' ns) (hs : valV kv' (Sum.inl s) = none) : Seen kvs (putK kv' (Sum.inl s) v) (ns ++ [s]) := by
  refine ⟨?_, fun x => ?_⟩
  · unfold putK
    rw [if_neg (by rw [valV_any, hs]; decide), List.length_append, List.length_append, h.1]
    rfl
  · rw [valV_put, List.mem_append, List.mem_singleton]
    by_cases e : x = s
    · subst e
      rw [if_pos rfl]
      exact ⟨fun z => (nomatch z), fun z => absurd (Or.inr rfl) z.2⟩
    · rw [if_neg (fun z => e (Sum.inl.inj z)), h.2 x]
      exact ⟨fun z => ⟨z.1, fun q => q.elim z.2 e⟩, fun z => ⟨z.1, fun q => z.2 (.inl q)⟩⟩
theorem Seen.more {k0 k1 k2 : List (Key × V)} {ns ms : List Int} (h : Seen k0 k1 ns) (h' : Seen k1 k2 ms) : Seen k0 k2 (ns ++ ms) := by
  refine ⟨by rw [h'.1, h.1, List.length_append, Nat.add_assoc], fun s => ?_⟩
  rw [h'.2 s, h.2 s, List.mem_append]
  exact ⟨fun z => ⟨z.1.1, fun q => q.elim z.1.2 z.2⟩, fun z => ⟨⟨z.1, fun q => z.2 (.inl q)⟩, fun q => z.2 (.inr q)⟩⟩
theorem FrD.refl (d : Addr) (H : Hp) : FrD d H H := fun b u _ h => h
theorem FrD.trans {d : Addr} {H H1 H2 : Hp} (a : FrD d H H1) (b : FrD d H1 H2) : FrD d H H2 := fun c u n h => b c u n (a c u n h)
theorem FrD.lst {d : Addr} {H H' : Hp} {kvs : List (Key × V)} (f : FrD d H H') (hd : H d = some (.dK kvs)) : ∀ a xs, H a = some (.lst xs) → H' a = some (.lst xs) := fun a xs h => f a _ (ne_of h hd (by intro z; cases z)) h
theorem FrD.some {d : Addr} {H H' : Hp} {kvs : List (Key × V)} (f : FrD d H H') (hd : H' d = some (.dK kvs)) : ∀ a, H a ≠ none → H' a ≠ none := fun a h => by
  by_cases e : a = d
  · subst e; rw [hd]; intro z; cases z
  · cases q : H a with
    | none => exact absurd q h
    | some u => rw [f a u e q]; intro z; cases z
/-- what a group is -/
structure Grp (n : Nat) (t : Tr n) : Prop where
  fu : full n t
  as : asc n t
  inn : ∀ s ∈ flat n t, inR 1000000000 (.int s) = true
  nd : (flat n t).Nodup
def spGroupList (n : Nat) : Sp := fun vs H Q _ => ∃ v d, ∃ t : Tr (n + 1), ∃ kvs, vs = [v, .int (3 - (n : Int)), .ref d] ∧ AtR H (n + 1) v t ∧ Grp (n + 1) t ∧ H d = some (.dK kvs) ∧ (∀ s ∈ flat (n + 1) t, valV kvs (Sum.inl s) = none) ∧ kvs.length + (flat (n + 1) t).length ≤ 1000 ∧
  ∀ w kv' H', FrD d H H' → New H H' (n + 1) w t → H' d = some (.dK kv') → Seen kvs kv' (flat (n + 1) t) → Q w H'
structure WF (S : Tr 4) : Prop where
  fu : ∀ g ∈ ls S, full 3 g
  as : asc 4 S
  inn : ∀ s ∈ flat 4 S, inR 1000000000 (.int s) = true
  nd : (flat 4 S).Nodup
theorem WF.grp {S : Tr 4} (h : WF S) {i : Nat} {g : Tr 3} (e : (ls S)[i]? = some g) : Grp 3 g :=
  have hm := List.mem_of_getElem? e
  ⟨h.fu g hm, h.as g hm, fun s hs => h.inn s (flat_mem hm hs), (flat_nd e h.nd).1⟩
theorem Grp.kid {n : Nat} {t : Tr (n + 2)} (h : Grp (n + 2) t) {i : Nat} {g : Tr (n + 1)} (e : (ls t)[i]? = some g) : Grp (n + 1) g :=
  have hm := List.mem_of_getElem? e
  ⟨h.fu.2 g hm, h.as g hm, fun s hs => h.inn s (flat_mem hm hs), (flat_nd e h.nd).1⟩
def spSorting (K : PySem.W.Frag) : Sp := fun vs H Q _ => ∃ v, ∃ S : Tr 4, vs = [v] ∧ AtR H 4 v S ∧ WF S ∧ (flat 4 S).length ≤ 1000 ∧ ∀ w H', Same H H' → New H H' 4 w S → Q w H'
theorem le_k {j k n : Nat} (h : j ≤ k) : j ≤ Nat.add k n := Nat.le_trans h (Nat.le_add_right k n)
theorem flat_pos : ∀ {n : Nat} {t : Tr n}, full n t → 1 ≤ (flat n t).length
  | 0, _, _ => Nat.le_refl 1
  | n + 1, t, h => by
    obtain ⟨x, r, e⟩ := List.exists_cons_of_ne_nil h.1
    have hx := flat_pos (h.2 x (by rw [e]; exact List.mem_cons_self ..))
    have e2 : flat (n + 1) t = flat n x ++ flat (n + 1) (r : List (Tr n)) := congrArg (fun z : List (Tr n) => flat (n + 1) z) e
    rw [e2, List.length_append]
    omega
theorem flat_full {n : Nat} : ∀ {ts : List (Tr n)}, (∀ t ∈ ts, full n t) → ts.length ≤ (flat (n + 1) ts).length
  | [], _ => Nat.zero_le _
  | x :: r, h => by
    have h1 := flat_pos (h x (List.mem_cons_self ..))
    have h2 := flat_full (ts := r) fun t ht => h t (List.mem_cons_of_mem _ ht)
    have e2 : flat (n + 1) (x :: r : List (Tr n)) = flat n x ++ flat (n + 1) (r : List (Tr n)) := rfl
    rw [e2, List.length_append, List.length_cons]
    omega
theorem seqNil {K : PySem.W.Frag} {H : Hp} {n : Nat} {a b : Addr} {xs : List V} (ha : SqL K H a xs) (hb : SqL K H b []) : SeqEq K H (EqD K H n) (.ref a) (.ref b) xs.isEmpty := by
  cases xs with
  | nil => exact .list (e := fun _ => true) ha hb rfl fun i x y h => (by rw [List.getElem?_nil] at h; cases h)
  | cons x r => exact .listN ha hb (by intro z; cases z)
theorem atI_ix {α : Type} {xs : List α} {i : Int} (h0 : 0 ≤ i) (h1 : i < xs.length) : ∃ j v, j < xs.length ∧ xs[j]? = some v ∧ atI xs i = some v ∧ ixN xs.length i = some j := by
  have hj : i.toNat < xs.length := by omega
  refine ⟨i.toNat, xs[i.toNat], hj, List.getElem?_eq_getElem hj, atI_toNat h0 (List.getElem?_eq_getElem hj), ?_⟩
  unfold ixN
  rw [if_pos h0, if_pos h1]
def spCell (K : PySem.W.Frag) : Sp := fun vs H Q _ => ∃ (a : Addr) (k : Int) (ns : List Int), vs = [.ref a, .int k] ∧ 0 ≤ k ∧ SqL K H a (ns.map V.int) ∧ ∀ i, Q (.int i) H
def spDrawn (K : PySem.W.Frag) : Sp := fun vs H Q _ => ∃ (a : Addr) (k : Int) (ns : List Int), vs = [.ref a, .int k] ∧ 0 ≤ k ∧ k < ns.length ∧ ns.length ≤ 63 ∧ SqL K H a (ns.map V.int) ∧ ∀ r, 0 ≤ r → Q (.int r) H
def spSheet : Sp := fun vs H Q _ => ∃ m k, vs = [.int m, .int k] ∧ 1 ≤ k ∧ k < 64 ∧ ∀ r, (r - 1) % 64 = k → inR 1000000000 (.int r) = true → Q (.int r) H
theorem inR_int (m i : Int) : inR m (.int i) = (decide (1 ≤ i) && decide (i ≤ m)) := rfl
theorem inR_of {m i : Int} (h1 : 1 ≤ i) (h2 : i ≤ m) : inR m (.int i) = true := by rw [inR_int, decide_eq_true h1, decide_eq_true h2]; rfl
/-- S with one sheet more -/
structure Put (S : Tr 4) (s : Int) (S' : Tr 4) : Prop where
  p : (flat 4 S').Perm (flat 4 S ++ [s])
  fu : (∀ g ∈ ls S, full 3 g) → ∀ g ∈ ls S', full 3 g
  as : asc 4 S → asc 4 S'
theorem Put.wf {S S' : Tr 4} {s : Int} (h : Put S s S') (w : WF S) (hs : s ∉ flat 4 S) (hr : inR 1000000000 (.int s) = true) : WF S' := by
  refine ⟨h.fu w.fu, h.as w.as, fun x hx => ?_, ?_⟩
  · rcases List.mem_append.mp (h.p.mem_iff.mp hx) with q | q
    · exact w.inn x q
    · rw [List.mem_singleton.mp q]; exact hr
  · rw [h.p.nodup_iff, List.nodup_append]
    exact ⟨w.nd, List.nodup_cons.mpr ⟨List.not_mem_nil, List.nodup_nil⟩, fun x hx y hy e => hs (by rw [← List.mem_singleton.mp hy, ← e]; exact hx)⟩
theorem full_all_set {n : Nat} {ts : List (Tr n)} {i : Nat} {t : Tr n} (h : ∀ g ∈ ts, full n g) (ht : full n t) : ∀ g ∈ ts.set i t, full n g := fun x hx => by
  rcases List.mem_or_eq_of_mem_set hx with q | q
  · exact h x q
  · rw [q]; exact ht
/-- a group with one sheet more -/
structure PutG (n : Nat) (t : Tr (n + 1)) (s : Int) (t' : Tr (n + 1)) : Prop where
  p : (flat (n + 1) t').Perm (flat (n + 1) t ++ [s])
  fu : full (n + 1) t → full (n + 1) t'
  as : asc (n + 1) t → asc (n + 1) t'
theorem PutG.up {n : Nat} {ts : Tr (n + 2)} {i : Nat} {t t' : Tr (n + 1)} {s : Int} (h : PutG n t s t') (e : (ls ts)[i]? = some t) : PutG (n + 1) ts s ((ls ts).set i t' : List (Tr (n + 1))) :=
  have hm := List.mem_of_getElem? e
  ⟨flat_set (n + 1) (ls ts) i t t' s e h.p, fun f => full_set f (h.fu (f.2 t hm)), fun a => asc_set a (h.as (a t hm))⟩
theorem PutG.top {S : Tr 4} {i : Nat} {t t' : Tr 3} {s : Int} (h : PutG 2 t s t') (e : (ls S)[i]? = some t) : Put S s ((ls S).set i t' : List (Tr 3)) :=
  have hm := List.mem_of_getElem? e
  ⟨flat_set 3 (ls S) i t t' s e h.p, fun f => full_all_set f (h.fu (f t hm)), fun a => asc_set a (h.as (a t hm))⟩
/-- a new group with this sheet alone -/
def solo : (n : Nat) → Int → Tr n
  | 0, s => s
  | n + 1, s => ([solo n s] : List (Tr n))
theorem solo_flat : ∀ (n : Nat) (s : Int), flat n (solo n s) = [s]
  | 0, s => rfl
  | n + 1, s => by
    show flat n (solo n s) ++ [] = [s]
    rw [solo_flat n s]
    rfl
theorem solo_full : ∀ (n : Nat) (s : Int), full n (solo n s)
  | 0, _ => trivial
  | n + 1, s => ⟨List.cons_ne_nil _ _, fun t ht => by rw [List.mem_singleton.mp ht]; exact solo_full n s⟩
theorem solo_asc : ∀ (n : Nat) (s : Int), asc n (solo n s)
  | 0, _ => trivial
  | 1, s => List.pairwise_singleton _ _
  | n + 2, s => fun t ht => by rw [List.mem_singleton.mp ht]; exact solo_asc (n + 1) s
theorem PutG.app {n : Nat} (ts : Tr (n + 2)) (s : Int) : PutG (n + 1) ts s (ls ts ++ [solo (n + 1) s] : List (Tr (n + 1))) := by
  refine ⟨?_, fun f => full_app f (solo_full _ s), fun a => asc_app a (solo_asc _ s)⟩
  rw [flat_app]
  have e : flat (n + 2) ([solo (n + 1) s] : List (Tr (n + 1))) = [s] := solo_flat (n + 2) s
  rw [e]
theorem Put.app (S : Tr 4) (s : Int) : Put S s (ls S ++ [solo 3 s] : List (Tr 3)) := by
  refine ⟨?_, fun f x hx => ?_, fun a => asc_app a (solo_asc _ s)⟩
  · rw [flat_app]
    have e : flat 4 ([solo 3 s] : List (Tr 3)) = [s] := solo_flat 4 s
    rw [e]
  · rcases List.mem_append.mp hx with q | q
    · exact f x q
    · rw [List.mem_singleton.mp q]; exact solo_full 3 s
theorem PutG.form {f f' : List Int} {s : Int} (p : f'.Perm (f ++ [s])) (hs : f'.Pairwise (· ≤ ·)) (hn : s ∉ f) : PutG 0 f s f' := by
  refine ⟨(List.Perm.of_eq (flat_ints f')).trans (p.trans (List.Perm.of_eq (congrArg (· ++ [s]) (flat_ints f).symm))), fun _ => ⟨fun z => ?_, fun t _ => trivial⟩, fun a => ?_⟩
  · have z : f' = [] := z
    rw [z] at p
    exact absurd (p.mem_iff.mpr (List.mem_append_right _ (List.mem_singleton.mpr rfl))) List.not_mem_nil
  · have a : f.Pairwise (· < ·) := a
    have nd : f.Nodup := a.imp fun h => Int.ne_of_lt h
    have nd' : f'.Nodup := by
      rw [p.nodup_iff, List.nodup_append]
      exact ⟨nd, List.nodup_cons.mpr ⟨List.not_mem_nil, List.nodup_nil⟩, fun x hx y hy e => hn (by rw [← List.mem_singleton.mp hy, ← e]; exact hx)⟩
    show f'.Pairwise (· < ·)
    exact (hs.and nd').imp fun h => by omega
def spPut : Sp := fun vs H Q _ => ∃ v s m, ∃ S : Tr 4, ∃ o : Ow, vs = [v, .int s, .int m] ∧ At o H 4 [] v S ∧ Dom o H ∧ WF S ∧ s ∉ flat 4 S ∧ (flat 4 S).length < 60 ∧
  ∀ H', ∀ S' : Tr 4, ∀ o' : Ow, (∀ b u, o b = none → H b = some u → H' b = some u) → At o' H' 4 [] v S' → Dom o' H' → (∀ b r, o' b = some r → o b = none → H b = none) → Put S s S' → Q .non H'
theorem newSolo {H H1 : Hp} {n : Nat} {w : V} {s : Int} {q : Addr} (h : New H H1 n w (solo n s)) (hq : H1 q = none) (sm : Same H H1) : New H (upd H1 q (.lst [w])) (n + 1) (.ref q) (solo (n + 1) s) := by
  have nq : H q = none := sm.free hq
  have nl : NewL H1 H1 q n [] [] := NewL.nil
  obtain ⟨o, k, d⟩ := h
  refine ⟨fun b => if b = q then some [] else (o b).map (· ++ [0]), ⟨q, [w], rfl, if_pos rfl, upd_same, rfl, fun j x t hx ht => ?_⟩, fun b r hr => ?_⟩
  · match j, hx, ht with
    | 0, hx, ht =>
      cases hx
      have ht : some (solo n s) = some t := ht
      cases ht
      refine (k.under [0]).frame fun b r xs hb _ hx => ⟨?_, ?_⟩
      · rw [upd_ne (fun z => by rw [z, hq] at hx; cases hx)]
        exact hx
      · show (if b = q then some [] else (o b).map (· ++ [0])) = some r
        rw [if_neg (fun z => by rw [z, hq] at hx; cases hx)]
        exact hb
    | j + 1, hx, ht => cases hx
  · have hr : (if b = q then some [] else (o b).map (· ++ [0])) = some r := hr
    by_cases e : b = q
    · subst e
      exact ⟨nq, by rw [upd_same]; intro z; cases z⟩
    · rw [if_neg e] at hr
      cases e2 : o b with
      | none => rw [e2] at hr; cases hr
      | some r' => exact ⟨(d b r' e2).1, by rw [upd_ne e]; exact (d b r' e2).2⟩
theorem putEnd {o o' : Ow} {G G1 : Hp} {c : Addr} {u : HO} {pc : List Nat} (x : Ext o o' G G1) (s : Same G G1) (hc : o c = some pc) : (∀ b v, o b = none → G b = some v → upd G1 c u b = some v) ∧ ∀ b r, o' b = some r → o b = none → G b = none := by
  refine ⟨fun b v hb hv => ?_, fun b r hr hb => ?_⟩
  · rw [upd_ne (fun z => by rw [z, hc] at hb; cases hb)]
    exact s b v hv
  · cases e : G b with
    | none => rfl
    | some v => rw [x.old b (by rw [e]; intro z; cases z), hb] at hr; cases hr
def spLSort (K : PySem.W.Frag) : Sp := fun vs H Q _ => ∃ (a : Addr) (ns : List Int) (mx : Int), vs = [.ref a, .int 1, .int mx] ∧ 0 ≤ mx ∧ mx ≤ 60 ∧ SqL K H a (ns.map V.int) ∧ ns.length ≤ 63 ∧
  ∀ w H', ∀ S : Tr 4, Same H H' → New H H' 4 w S → WF S → (flat 4 S).length ≤ 60 → Q w H'
/-- no list in it is long -/
def small : (n : Nat) → Tr n → Prop
  | 0, _ => True
  | n + 1, ts => (ls ts).length ≤ 1000 ∧ ∀ t ∈ ls ts, small n t
theorem small_of : ∀ {n : Nat} {t : Tr n}, full n t → (flat n t).length ≤ 1000 → small n t
  | 0, _, _, _ => trivial
  | n + 1, t, h, l => ⟨Nat.le_trans (flat_full (fun x hx => h.2 x hx) (ts := ls t)) l, fun x hx => by
    obtain ⟨i, e⟩ := List.getElem?_of_mem hx
    have := flat_len e
    exact small_of (h.2 x hx) (Nat.le_trans (Nat.le_trans (Nat.le_add_left _ _) this) l)⟩
theorem small_S {S : Tr 4} (h : ∀ g ∈ ls S, full 3 g) (l : (flat 4 S).length ≤ 1000) : small 4 S :=
  ⟨Nat.le_trans (flat_full (fun x hx => h x hx) (ts := ls S)) l, fun x hx => by
    obtain ⟨i, e⟩ := List.getElem?_of_mem hx
    have := flat_len e
    exact small_of (h x hx) (Nat.le_trans (Nat.le_trans (Nat.le_add_left _ _) this) l)⟩
def spSame (n : Nat) : Sp := fun vs H Q _ => ∃ v w, ∃ t : Tr n, vs = [v, w] ∧ AtR H n v t ∧ AtR H n w t ∧ small n t ∧ Q (.bl true) H
def spCopy : Sp := fun vs H Q _ => ∃ v, ∃ S : Tr 4, vs = [v] ∧ AtR H 4 v S ∧ (flat 4 S).length ≤ 1000 ∧ (∀ g ∈ ls S, full 3 g) ∧ ∀ w H', Same H H' → New H H' 4 w S → Q w H'
theorem WF.nil : WF ([] : List (Tr 3)) := by
  refine ⟨fun g h => ?_, fun g h => ?_, fun s h => ?_, List.nodup_nil⟩
  · exact absurd (show g ∈ ([] : List (Tr 3)) from h) List.not_mem_nil
  · exact absurd (show g ∈ ([] : List (Tr 3)) from h) List.not_mem_nil
  · exact absurd (show s ∈ ([] : List Int) from h) List.not_mem_nil
theorem small_solo : ∀ (n : Nat) (s : Int), small n (solo n s)
  | 0, _ => trivial
  | n + 1, s => ⟨by show 1 ≤ 1000; decide, fun t ht => by rw [List.mem_singleton.mp ht]; exact small_solo n s⟩
theorem small_kid {n : Nat} {ts : Tr (n + 1)} {s : Int} {i : Nat} {t : Tr n} (h : small (n + 1) ts) (e : (ls (ls ts ++ [solo n s] : List (Tr n)))[i]? = some t) : small n t := by
  rcases List.mem_append.mp (List.mem_of_getElem? e) with q | q
  · exact h.2 t q
  · rw [List.mem_singleton.mp q]; exact small_solo n s
def spChange : Sp := fun vs H Q _ => ∃ v m, ∃ S : Tr 4, ∃ o : Ow, vs = [v, .int m] ∧ At o H 4 [] v S ∧ Dom o H ∧ small 4 S ∧ ∀ H', (∀ b u, o b = none → H b = some u → H' b = some u) → Q .non H'
/-- what is not owned by o stays -/
def Kp (o : Ow) (H : Hp) (o1 : Ow) (G : Hp) : Prop := ∀ b u, o b = none → H b = some u → G b = some u ∧ o1 b = none
theorem Kp.step {o o1 o2 : Ow} {H G G1 : Hp} {c : Addr} {w : HO} {pc : List Nat} (k : Kp o H o1 G) (x : Ext o1 o2 G G1) (s : Same G G1) (hc : o1 c = some pc) : Kp o H o2 (upd G1 c w) := fun b u hb hu => by
  obtain ⟨h1, h2⟩ := k b u hb hu
  refine ⟨(putEnd x s hc).1 b u h2 h1, ?_⟩
  rw [x.old b (some_ne h1)]
  exact h2
theorem nd_take {ns : List Int} {i : Nat} {s : Int} (h : ns.Nodup) (hs : ns[i]? = some s) : s ∉ ns.take i := fun z => by
  have e : ns = ns.take i ++ s :: ns.drop (i + 1) := by
    obtain ⟨hi, rfl⟩ := List.getElem?_eq_some_iff.mp hs
    rw [List.getElem_cons_drop hi, List.take_append_drop]
  rw [e, List.nodup_append] at h
  exact h.2.2 s z s (List.mem_cons_self ..) rfl
theorem atI_last {α : Type} (xs : List α) (v : α) : atI (xs ++ [v]) (-1) = some v := by
  have e : ixN (xs ++ [v]).length (-1) = some xs.length := by
    unfold ixN
    rw [List.length_append, List.length_singleton]
    simp
    omega
  unfold atI
  rw [e]
  simp
theorem getI {ns : List Int} {i : Nat} {x : V} (h : (ns.map V.int)[i]? = some x) : ∃ s, ns[i]? = some s ∧ x = .int s := by
  rw [List.getElem?_map] at h
  cases e : ns[i]? with
  | none => rw [e] at h; cases h
  | some s => rw [e] at h; exact ⟨s, rfl, (Option.some.inj h).symm⟩
def srt (ns : List Int) : List Int := ns.mergeSort fun a b => decide (a ≤ b)
theorem srt_perm (ns : List Int) : (srt ns).Perm ns := List.mergeSort_perm ..
theorem srt_pw (ns : List Int) : (srt ns).Pairwise (· ≤ ·) :=
  (List.pairwise_mergeSort (le := fun a b => decide (a ≤ b)) (fun a b c h1 h2 => decide_eq_true (Int.le_trans (of_decide_eq_true h1) (of_decide_eq_true h2))) (fun a b => by
    rcases Int.le_total a b with h | h
    · rw [decide_eq_true h]; rfl
    · rw [decide_eq_true h, Bool.or_true]) ns).imp fun h => of_decide_eq_true h
theorem srt_is {ms ns : List Int} (p : ms.Perm ns) (h : ms.Pairwise (· ≤ ·)) : ms = srt ns :=
  (p.trans (srt_perm ns).symm).eq_of_pairwise (fun a b _ _ h1 h2 => Int.le_antisymm h1 h2) h (srt_pw ns)
theorem srt_asc {ns : List Int} (h : ns.Pairwise (· < ·)) : srt ns = ns := (srt_is (List.Perm.refl ns) (h.imp fun h => Int.le_of_lt h)).symm
abbrev Rw := List Int × List Int
def rows : (n : Nat) → List Int → List (Tr (n + 1)) → List Rw
  | 0, p, ts => ts.zipIdx.flatMap fun x => [(p ++ [(x.2 : Int)], x.1)]
  | n + 1, p, ts => ts.zipIdx.flatMap fun x => (p ++ [(x.2 : Int)], srt (flat (n + 2) x.1)) :: rows n (p ++ [(x.2 : Int)]) x.1
/-- the rows of one group -/
def one : (n : Nat) → List Int → Nat → Tr (n + 1) → List Rw
  | 0, p, i, t => [(p ++ [(i : Int)], t)]
  | n + 1, p, i, t => (p ++ [(i : Int)], srt (flat (n + 2) t)) :: rows n (p ++ [(i : Int)]) t
theorem rows_one : ∀ (n : Nat) (p : List Int) (ts : List (Tr (n + 1))), rows n p ts = ts.zipIdx.flatMap fun x => one n p x.2 x.1
  | 0, _, _ => rfl
  | _ + 1, _, _ => rfl
theorem rows_take {n : Nat} {p : List Int} {ts : List (Tr (n + 1))} {i : Nat} {t : Tr (n + 1)} (h : ts[i]? = some t) : rows n p (ts.take (i + 1)) = rows n p (ts.take i) ++ one n p i t := by
  have e : ts.take (i + 1) = ts.take i ++ [t] := by rw [List.take_succ, h]; rfl
  have hi : i < ts.length := (List.getElem?_eq_some_iff.mp h).1
  have el : (ts.take i).length = i := by rw [List.length_take]; omega
  rw [rows_one, rows_one, e, List.zipIdx_append, List.flatMap_append, el]
  show _ ++ (one n p (0 + i) t ++ []) = _
  rw [Nat.zero_add, List.append_nil]
def sheets3 (rs : List Rw) : List Int := rs.flatMap fun r => if r.1.length = 3 then r.2 else []
theorem sheets3_app (a b : List Rw) : sheets3 (a ++ b) = sheets3 a ++ sheets3 b := List.flatMap_append
theorem rows_flat : ∀ (n : Nat) (p : List Int) (ts : List (Tr (n + 1))), p.length + n = 2 → sheets3 (rows n p ts) = flat (n + 2) ts := by
  intro n
  induction n with
  | zero =>
    intro p ts hp
    have : ∀ (us : List (Tr 1)) (k : Nat), sheets3 ((us.zipIdx k).flatMap fun x => one 0 p x.2 x.1) = flat 2 us := by
      intro us
      induction us with
      | nil => intro k; rfl
      | cons t r ih =>
        intro k
        rw [List.zipIdx_cons, List.flatMap_cons, sheets3_app, ih (k + 1)]
        have e : sheets3 (one 0 p (t, k).snd (t, k).fst) = flat 1 t := by
          show List.append (if (p ++ [(k : Int)]).length = 3 then ls t else []) [] = flat 1 t
          rw [if_pos (by rw [List.length_append]; show p.length + 1 = 3; omega)]
          exact (List.append_nil (ls t)).trans (flat_ints t).symm
        rw [e]
        rfl
    rw [rows_one]
    exact this ts 0
  | succ n ih0 =>
    intro p ts hp
    have : ∀ (us : List (Tr (n + 2))) (k : Nat), sheets3 ((us.zipIdx k).flatMap fun x => one (n + 1) p x.2 x.1) = flat (n + 3) us := by
      intro us
      induction us with
      | nil => intro k; rfl
      | cons t r ih =>
        intro k
        rw [List.zipIdx_cons, List.flatMap_cons, sheets3_app, ih (k + 1)]
        have e : sheets3 (one (n + 1) p (t, k).snd (t, k).fst) = flat (n + 2) t := by
          have el : (p ++ [(k : Int)]).length = p.length + 1 := by rw [List.length_append]; rfl
          show List.append (if (p ++ [(k : Int)]).length = 3 then srt (flat (n + 2) t) else []) (sheets3 (rows n (p ++ [(k : Int)]) (ls t))) = _
          rw [if_neg (by omega)]
          exact ih0 _ (ls t) (by omega)
        rw [e]
        rfl
    rw [rows_one]
    exact this ts 0
theorem rows_len : ∀ (n : Nat) (p : List Int) (ts : List (Tr (n + 1))), (∀ t ∈ ts, full (n + 1) t) → (rows n p ts).length ≤ (n + 1) * (flat (n + 2) ts).length := by
  intro n
  induction n with
  | zero =>
    intro p ts hf
    have : ∀ (us : List (Tr 1)) (k : Nat), (∀ t ∈ us, full 1 t) → ((us.zipIdx k).flatMap fun x => one 0 p x.2 x.1).length ≤ (flat 2 us).length := by
      intro us
      induction us with
      | nil => intro k _; exact Nat.le_refl _
      | cons t r ih =>
        intro k hf
        rw [List.zipIdx_cons, List.flatMap_cons, List.length_append]
        have h1 := ih (k + 1) fun t ht => hf t (List.mem_cons_of_mem _ ht)
        have h2 := flat_pos (hf t (List.mem_cons_self ..))
        have e2 : flat 2 (t :: r : List (Tr 1)) = flat 1 t ++ flat 2 (r : List (Tr 1)) := rfl
        rw [e2, List.length_append]
        have e3 : (one 0 p (t, k).snd (t, k).fst).length = 1 := rfl
        omega
    rw [rows_one]
    have h := this ts 0 hf
    exact Nat.le_trans h (Nat.le_of_eq (Nat.one_mul _).symm)
  | succ n ih0 =>
    intro p ts hf
    have : ∀ (us : List (Tr (n + 2))) (k : Nat), (∀ t ∈ us, full (n + 2) t) → ((us.zipIdx k).flatMap fun x => one (n + 1) p x.2 x.1).length ≤ (n + 2) * (flat (n + 3) us).length := by
      intro us
      induction us with
      | nil => intro k _; exact Nat.zero_le _
      | cons t r ih =>
        intro k hf
        rw [List.zipIdx_cons, List.flatMap_cons, List.length_append]
        have h1 := ih (k + 1) fun t ht => hf t (List.mem_cons_of_mem _ ht)
        have h2 := flat_pos (hf t (List.mem_cons_self ..))
        have h3 : (rows n (p ++ [(k : Int)]) (ls t)).length ≤ (n + 1) * (flat (n + 2) t).length := ih0 (p ++ [(k : Int)]) (ls t) (hf t (List.mem_cons_self ..)).2
        have e2 : flat (n + 3) (t :: r : List (Tr (n + 2))) = flat (n + 2) t ++ flat (n + 3) (r : List (Tr (n + 2))) := rfl
        rw [e2, List.length_append, Nat.mul_add]
        have e3 : (one (n + 1) p (t, k).snd (t, k).fst).length = (rows n (p ++ [(k : Int)]) (ls t)).length + 1 := rfl
        have e4 : (n + 2) * (flat (n + 2) t).length = (n + 1) * (flat (n + 2) t).length + (flat (n + 2) t).length := by rw [Nat.succ_mul]
        omega
    rw [rows_one]
    exact this ts 0 hf
def RowT (H0 H : Hp) (v : V) (r : Rw) : Prop := ∃ t ip sl, v = .ref t ∧ H t = some (.tup [.ref ip, .ref sl]) ∧ H ip = some (.tup (r.1.map V.int)) ∧ H sl = some (.lst (r.2.map V.int)) ∧ H0 sl = none
def RowsAt (H0 H : Hp) (vs : List V) (rs : List Rw) : Prop := vs.length = rs.length ∧ ∀ (j : Nat) v r, vs[j]? = some v → rs[j]? = some r → RowT H0 H v r
theorem RowT.same {H0 H H' : Hp} {v : V} {r : Rw} (h : RowT H0 H v r) (s : Same H H') : RowT H0 H' v r := let ⟨t, ip, sl, e, a, b, c, d⟩ := h; ⟨t, ip, sl, e, s _ _ a, s _ _ b, s _ _ c, d⟩
theorem RowT.older {H0 H1 H : Hp} {v : V} {r : Rw} (h : RowT H1 H v r) (s : Same H0 H1) : RowT H0 H v r := let ⟨t, ip, sl, e, a, b, c, d⟩ := h; ⟨t, ip, sl, e, a, b, c, s.free d⟩
theorem RowsAt.same {H0 H H' : Hp} {vs : List V} {rs : List Rw} (h : RowsAt H0 H vs rs) (s : Same H H') : RowsAt H0 H' vs rs := ⟨h.1, fun j v r a b => (h.2 j v r a b).same s⟩
theorem RowsAt.older {H0 H1 H : Hp} {vs : List V} {rs : List Rw} (h : RowsAt H1 H vs rs) (s : Same H0 H1) : RowsAt H0 H vs rs := ⟨h.1, fun j v r a b => (h.2 j v r a b).older s⟩
theorem RowsAt.elder {H0 H1 H : Hp} {vs : List V} {rs : List Rw} (h : RowsAt H1 H vs rs) (f : ∀ b, H1 b = none → H0 b = none) : RowsAt H0 H vs rs := ⟨h.1, fun j v r a b => let ⟨t, ip, sl, e, a1, b1, c1, d1⟩ := h.2 j v r a b; ⟨t, ip, sl, e, a1, b1, c1, f _ d1⟩⟩
theorem RowsAt.nil {H0 H : Hp} : RowsAt H0 H [] [] := ⟨rfl, fun j v r h => by rw [List.getElem?_nil] at h; cases h⟩
theorem RowsAt.app {H0 H : Hp} {vs ws : List V} {rs qs : List Rw} (h : RowsAt H0 H vs rs) (h' : RowsAt H0 H ws qs) : RowsAt H0 H (vs ++ ws) (rs ++ qs) := by
  refine ⟨by rw [List.length_append, List.length_append, h.1, h'.1], fun j v r hv hr => ?_⟩
  rcases Nat.lt_or_ge j vs.length with q | q
  · rw [List.getElem?_append_left q] at hv
    rw [List.getElem?_append_left (by rw [← h.1]; exact q)] at hr
    exact h.2 j v r hv hr
  · rw [List.getElem?_append_right q] at hv
    rw [List.getElem?_append_right (by rw [← h.1]; exact q), ← h.1] at hr
    exact h'.2 _ v r hv hr
theorem RowsAt.one {H0 H : Hp} {v : V} {r : Rw} (h : RowT H0 H v r) : RowsAt H0 H [v] [r] := by
  refine ⟨rfl, fun j w q hw hq => ?_⟩
  match j, hw, hq with
  | 0, hw, hq => cases hw; cases hq; exact h
  | j + 1, hw, hq => cases hw
/-- but for the list that grows -/
theorem RowT.upd {H0 H : Hp} {v : V} {r : Rw} {l : Addr} {xs ys : List V} (h : RowT H0 H v r) (hl : H l = some (.lst xs)) (hl0 : H0 l ≠ none) : RowT H0 (L2.upd H l (.lst ys)) v r := by
  obtain ⟨t, ip, sl, e, a, b, c, d⟩ := h
  have n1 : t ≠ l := fun z => by rw [z, hl] at a; cases a
  have n2 : ip ≠ l := fun z => by rw [z, hl] at b; cases b
  have n3 : sl ≠ l := fun z => hl0 (z ▸ d)
  exact ⟨t, ip, sl, e, by rw [upd_ne n1]; exact a, by rw [upd_ne n2]; exact b, by rw [upd_ne n3]; exact c, d⟩
theorem RowsAt.upd {H0 H : Hp} {vs : List V} {rs : List Rw} {l : Addr} {xs ys : List V} (h : RowsAt H0 H vs rs) (hl : H l = some (.lst xs)) (hl0 : H0 l ≠ none) : RowsAt H0 (L2.upd H l (.lst ys)) vs rs := ⟨h.1, fun j v r a b => (h.2 j v r a b).upd hl hl0⟩
def spSheetsOf : Sp := fun vs H Q _ => ∃ l ws H0 rs, vs = [.ref l] ∧ H l = some (.lst ws) ∧ RowsAt H0 H ws rs ∧ (sheets3 rs).length < 64 ∧ rs.length ≤ 1000 ∧ ∀ q H', Same H H' → H q = none → H' q = some (.lst ((srt (sheets3 rs)).map V.int)) → Q (.ref q) H'
def spGroupsIn (K : PySem.W.Frag) (n : Nat) : Sp := fun vs H Q _ => ∃ tp ps v, ∃ ts : Tr (n + 2), vs = [.ref tp, v] ∧ SqT K H tp (ps.map V.int) ∧ ps.length + n = 2 ∧ AtR H (n + 2) v ts ∧ (∀ t ∈ ls ts, full (n + 1) t) ∧ (flat (n + 2) ts).length < 64 ∧
  ∀ l ws H', Same H H' → H l = none → H' l = some (.lst ws) → RowsAt H H' ws (rows n ps (ls ts)) → Q (.ref l) H'
def spGroups (K : PySem.W.Frag) : Sp := fun vs H Q _ => ∃ v, ∃ S : Tr 4, vs = [v] ∧ AtR H 4 v S ∧ WF S ∧ (flat 4 S).length < 64 ∧ ∀ l ws H', Same H H' → H l = none → H' l = some (.lst ws) → RowsAt H H' ws (rows 2 [] (ls S)) → Q (.ref l) H'
def RowL (H : Hp) (v : V) (r : Rw) : Prop := ∃ a t l, v = .ref a ∧ H a = some (.lst [.ref t, .ref l]) ∧ H t = some (.tup (r.1.map V.int)) ∧ H l = some (.lst (r.2.map V.int))
def RowsL (H : Hp) (vs : List V) (rs : List Rw) : Prop := vs.length = rs.length ∧ ∀ (j : Nat) v r, vs[j]? = some v → rs[j]? = some r → RowL H v r
theorem RowL.keep {H H' : Hp} {v : V} {r : Rw} (h : RowL H v r) (s : ∀ b u, H b = some u → H' b = some u) : RowL H' v r := let ⟨a, t, l, e, h1, h2, h3⟩ := h; ⟨a, t, l, e, s _ _ h1, s _ _ h2, s _ _ h3⟩
theorem RowsL.same {H H' : Hp} {vs : List V} {rs : List Rw} (h : RowsL H vs rs) (s : Same H H') : RowsL H' vs rs := ⟨h.1, fun j v r a b => (h.2 j v r a b).keep s⟩
/-- rows none of whose lists is one of X -/
def RowX (X : Addr → Prop) (H : Hp) (v : V) (r : Rw) : Prop := ∃ a t l, v = .ref a ∧ H a = some (.lst [.ref t, .ref l]) ∧ H t = some (.tup (r.1.map V.int)) ∧ H l = some (.lst (r.2.map V.int)) ∧ ¬ X a ∧ ¬ X l
def RowsX (X : Addr → Prop) (H : Hp) (vs : List V) (rs : List Rw) : Prop := vs.length = rs.length ∧ ∀ (j : Nat) v r, vs[j]? = some v → rs[j]? = some r → RowX X H v r
theorem RowX.l {X : Addr → Prop} {H : Hp} {v : V} {r : Rw} (h : RowX X H v r) : RowL H v r := let ⟨a, t, l, e, h1, h2, h3, _⟩ := h; ⟨a, t, l, e, h1, h2, h3⟩
theorem RowsX.l {X : Addr → Prop} {H : Hp} {vs : List V} {rs : List Rw} (h : RowsX X H vs rs) : RowsL H vs rs := ⟨h.1, fun j v r a b => (h.2 j v r a b).l⟩
theorem RowX.keep {X Y : Addr → Prop} {H H' : Hp} {v : V} {r : Rw} (h : RowX X H v r) (s : ∀ b u, H b = some u → ¬ X b → H' b = some u ∧ ¬ Y b) (ht : ∀ b ys, H b = some (.tup ys) → H' b = some (.tup ys)) : RowX Y H' v r := by
  obtain ⟨a, t, l, e, h1, h2, h3, n1, n2⟩ := h
  exact ⟨a, t, l, e, (s _ _ h1 n1).1, ht _ _ h2, (s _ _ h3 n2).1, (s _ _ h1 n1).2, (s _ _ h3 n2).2⟩
theorem RowsX.keep {X Y : Addr → Prop} {H H' : Hp} {vs : List V} {rs : List Rw} (h : RowsX X H vs rs) (s : ∀ b u, H b = some u → ¬ X b → H' b = some u ∧ ¬ Y b) (ht : ∀ b ys, H b = some (.tup ys) → H' b = some (.tup ys)) : RowsX Y H' vs rs := ⟨h.1, fun j v r a b => (h.2 j v r a b).keep s ht⟩
theorem RowsX.app {X : Addr → Prop} {H : Hp} {vs ws : List V} {rs qs : List Rw} (h : RowsX X H vs rs) (h' : RowsX X H ws qs) : RowsX X H (vs ++ ws) (rs ++ qs) := by
  refine ⟨by rw [List.length_append, List.length_append, h.1, h'.1], fun j v r hv hr => ?_⟩
  rcases Nat.lt_or_ge j vs.length with q | q
  · rw [List.getElem?_append_left q] at hv
    rw [List.getElem?_append_left (by rw [← h.1]; exact q)] at hr
    exact h.2 j v r hv hr
  · rw [List.getElem?_append_right q] at hv
    rw [List.getElem?_append_right (by rw [← h.1]; exact q), ← h.1] at hr
    exact h'.2 _ v r hv hr
theorem RowsL.app {H : Hp} {vs ws : List V} {rs qs : List Rw} (h : RowsL H vs rs) (h' : RowsL H ws qs) : RowsL H (vs ++ ws) (rs ++ qs) := by
  refine ⟨by rw [List.length_append, List.length_append, h.1, h'.1], fun j v r hv hr => ?_⟩
  rcases Nat.lt_or_ge j vs.length with q | q
  · rw [List.getElem?_append_left q] at hv
    rw [List.getElem?_append_left (by rw [← h.1]; exact q)] at hr
    exact h.2 j v r hv hr
  · rw [List.getElem?_append_right q] at hv
    rw [List.getElem?_append_right (by rw [← h.1]; exact q), ← h.1] at hr
    exact h'.2 _ v r hv hr
theorem RowsL.one {H : Hp} {v : V} {r : Rw} (h : RowL H v r) : RowsL H [v] [r] := by
  refine ⟨rfl, fun j w q hw hq => ?_⟩
  match j, hw, hq with
  | 0, hw, hq => cases hw; cases hq; exact h
  | j + 1, hw, hq => cases hw
theorem RowsX.one {X : Addr → Prop} {H : Hp} {v : V} {r : Rw} (h : RowX X H v r) : RowsX X H [v] [r] := by
  refine ⟨rfl, fun j w q hw hq => ?_⟩
  match j, hw, hq with
  | 0, hw, hq => cases hw; cases hq; exact h
  | j + 1, hw, hq => cases hw
theorem atI_mid {α : Type} (xs ys : List α) (v : α) : atI (xs ++ [v] ++ ys) (xs.length : Int) = some v := atI_nat (by simp)
theorem RowsX.nil {X : Addr → Prop} {H : Hp} : RowsX X H [] [] := ⟨rfl, fun j v r h => by rw [List.getElem?_nil] at h; cases h⟩
theorem RowsL.nil {H : Hp} : RowsL H [] [] := ⟨rfl, fun j v r h => by rw [List.getElem?_nil] at h; cases h⟩
theorem AtR.ofInts {H : Hp} {a : Addr} {ns : List Int} (h : H a = some (.lst (ns.map V.int))) : AtR H 1 (.ref a) ns :=
  ⟨a, _, rfl, h, List.length_map .., fun j w t hw ht => by
    have ht : ns[j]? = some t := ht
    rw [List.getElem?_map, ht] at hw
    cases hw
    rfl⟩
/-- rows of which all can be held one beside the other -/
def Short (rs : List Rw) : Prop := rs.length ≤ 1000 ∧ ∀ r ∈ rs, r.1.length ≤ 1000 ∧ r.2.length ≤ 1000
def spRight : Sp := fun vs H Q _ => ∃ l ws m us H0 rs, vs = [.ref l, .ref m] ∧ H l = some (.lst ws) ∧ RowsAt H0 H ws rs ∧ H m = some (.lst us) ∧ RowsL H us rs ∧ Short rs ∧ ∀ H', Same H H' → Q (.bl true) H'
def spDue : Sp := fun vs H Q _ => ∃ v, ∃ S : Tr 4, vs = [v] ∧ AtR H 4 v S ∧ WF S ∧ (flat 4 S).length < 64 ∧ ∀ l ws H', Same H H' → H' l = some (.lst ws) → RowsL H' ws (rows 2 [] (ls S)) → Q (.ref l) H'
def firstP : List Rw → Int → Option (List Int)
  | [], _ => none
  | r :: rs, s => if r.1.length = 3 ∧ s ∈ r.2 then some r.1 else firstP rs s
def PathV (H : Hp) (w : V) (o : Option (List Int)) : Prop := match o with | none => w = .non | some p => ∃ ip, w = .ref ip ∧ H ip = some (.tup (p.map V.int))
theorem inV_ints (s : Int) : ∀ ns : List Int, inV (.int s) (ns.map V.int) = decide (s ∈ ns)
  | [] => rfl
  | n :: ns => by
    show (eqV (.int n) (.int s) || inV (.int s) (ns.map V.int)) = _
    rw [inV_ints s ns]
    by_cases e : n = s
    · subst e
      simp [eqV]
    · have : eqV (.int n) (.int s) = false := by simp [eqV, e]
      rw [this, Bool.false_or]
      have e' : ¬ s = n := fun z => e z.symm
      simp [e']
theorem flatI (ns : List Int) : (ns.map V.int).all flatV = true := by
  rw [List.all_eq_true]
  intro x hx
  obtain ⟨i, _, rfl⟩ := List.mem_map.mp hx
  rfl
def spRefuse (K : PySem.W.Frag) (C : Addr) : Sp := fun vs H Q E => ∃ x, vs = [x] ∧ Own K H x ∧ (inR 1000000000 x = true → Q .non H) ∧ (inR 1000000000 x = false → E (.ref C) none H)
def spPathOf (K : PySem.W.Frag) (C : Addr) : Sp := fun vs H Q E => ∃ v x, ∃ S : Tr 4, vs = [v, x] ∧ AtR H 4 v S ∧ WF S ∧ (flat 4 S).length < 64 ∧ Own K H x ∧ (inR 1000000000 x = false → ∀ H', Same H H' → E (.ref C) none H') ∧
  (∀ s, x = .int s → inR 1000000000 x = true → ∀ w H', Same H H' → PathV H' w (firstP (rows 2 [] (ls S)) s) → Q w H')
def spTakenNo (K : PySem.W.Frag) (C : Addr) : Sp := fun vs H Q E => ∃ v x, ∃ S : Tr 4, vs = [v, x] ∧ AtR H 4 v S ∧ WF S ∧ (flat 4 S).length < 64 ∧ Own K H x ∧ (inR 1000000000 x = true → ∀ s, x = .int s → firstP (rows 2 [] (ls S)) s = none) ∧ ∀ H', Same H H' → E (.ref C) none H'
def spLaidNo (K : PySem.W.Frag) (C : Addr) : Sp := fun vs H Q E => ∃ v x p, ∃ S : Tr 4, vs = [v, x, p] ∧ AtR H 4 v S ∧ WF S ∧ (flat 4 S).length < 64 ∧ Own K H x ∧ inR 1000000000 x = false ∧ ∀ H', Same H H' → E (.ref C) none H'
theorem inR_int' {m : Int} {x : V} (h : inR m x = true) : ∃ i, x = .int i := by
  cases x <;> first | exact ⟨_, rfl⟩ | exact absurd (show false = true from h) Bool.false_ne_true
def wo : (n : Nat) → Int → Tr (n + 1) → Tr (n + 1)
  | 0, s, f => (List.filter (fun x => !decide (x = s)) (f : List Int) : List Int)
  | n + 1, s, ts => (List.filter (fun t : Tr (n + 1) => !(ls t).isEmpty) ((ls ts).map (wo n s)) : List (Tr (n + 1)))
def spWithout (n : Nat) : Sp := fun vs H Q _ => ∃ v s, ∃ t : Tr (n + 1), vs = [v, .int s, .int (3 - (n : Int))] ∧ AtR H (n + 1) v t ∧ small (n + 1) t ∧ ∀ w H', Same H H' → New H H' (n + 1) w (wo n s t) → Q w H'
abbrev Q4 := Int × Int × Int × Int
def rlI (r : Q4) : List Int := [r.1, r.2.1, r.2.2.1, r.2.2.2]
def rl (r : Q4) : Tr 1 := rlI r
def pl1 (a b d : Int) (f : List Int) : List Q4 := f.map fun s => (s, a, b, d)
def pl2 (a b : Int) : Int → List (Tr 1) → List Q4
  | _, [] => []
  | d, f :: r => pl1 a b d (ls f) ++ pl2 a b (d + 1) r
def pl3 (a : Int) : Int → List (Tr 2) → List Q4
  | _, [] => []
  | b, c :: r => pl2 a b 0 (ls c) ++ pl3 a (b + 1) r
def pl4 : Int → List (Tr 3) → List Q4
  | _, [] => []
  | a, g :: r => pl3 a 0 (ls g) ++ pl4 (a + 1) r
def places (S : Tr 4) : List Q4 := pl4 0 (ls S)
theorem pl2_app (a b : Int) : ∀ (xs ys : List (Tr 1)) (d : Int), pl2 a b d (xs ++ ys) = pl2 a b d xs ++ pl2 a b (d + xs.length) ys
  | [], ys, d => by show pl2 a b d ys = [] ++ pl2 a b (d + (0 : Nat)) ys; simp
  | x :: r, ys, d => by
    show pl1 a b d (ls x) ++ pl2 a b (d + 1) (r ++ ys) = (pl1 a b d (ls x) ++ pl2 a b (d + 1) r) ++ pl2 a b (d + (r.length + 1 : Nat)) ys
    rw [pl2_app a b r ys (d + 1), List.append_assoc, show d + 1 + (r.length : Int) = d + (r.length + 1 : Nat) by omega]
theorem pl3_app (a : Int) : ∀ (xs ys : List (Tr 2)) (d : Int), pl3 a d (xs ++ ys) = pl3 a d xs ++ pl3 a (d + xs.length) ys
  | [], ys, d => by show pl3 a d ys = [] ++ pl3 a (d + (0 : Nat)) ys; simp
  | x :: r, ys, d => by
    show pl2 a d 0 (ls x) ++ pl3 a (d + 1) (r ++ ys) = (pl2 a d 0 (ls x) ++ pl3 a (d + 1) r) ++ pl3 a (d + (r.length + 1 : Nat)) ys
    rw [pl3_app a r ys (d + 1), List.append_assoc, show d + 1 + (r.length : Int) = d + (r.length + 1 : Nat) by omega]
theorem pl4_app : ∀ (xs ys : List (Tr 3)) (d : Int), pl4 d (xs ++ ys) = pl4 d xs ++ pl4 (d + xs.length) ys
  | [], ys, d => by show pl4 d ys = [] ++ pl4 (d + (0 : Nat)) ys; simp
  | x :: r, ys, d => by
    show pl3 d 0 (ls x) ++ pl4 (d + 1) (r ++ ys) = (pl3 d 0 (ls x) ++ pl4 (d + 1) r) ++ pl4 (d + (r.length + 1 : Nat)) ys
    rw [pl4_app r ys (d + 1), List.append_assoc, show d + 1 + (r.length : Int) = d + (r.length + 1 : Nat) by omega]
theorem pl2_take {a b : Int} {xs : List (Tr 1)} {i : Nat} {x : Tr 1} (h : xs[i]? = some x) : pl2 a b 0 (xs.take (i + 1)) = pl2 a b 0 (xs.take i) ++ pl1 a b i (ls x) := by
  have hi := (List.getElem?_eq_some_iff.mp h).1
  rw [take_one h, pl2_app, List.length_take, Nat.min_eq_left (by omega), Int.zero_add]
  show _ ++ (pl1 a b i (ls x) ++ []) = _
  rw [List.append_nil]
theorem pl3_take {a : Int} {xs : List (Tr 2)} {i : Nat} {x : Tr 2} (h : xs[i]? = some x) : pl3 a 0 (xs.take (i + 1)) = pl3 a 0 (xs.take i) ++ pl2 a i 0 (ls x) := by
  have hi := (List.getElem?_eq_some_iff.mp h).1
  rw [take_one h, pl3_app, List.length_take, Nat.min_eq_left (by omega), Int.zero_add]
  show _ ++ (pl2 a i 0 (ls x) ++ []) = _
  rw [List.append_nil]
theorem pl4_take {xs : List (Tr 3)} {i : Nat} {x : Tr 3} (h : xs[i]? = some x) : pl4 0 (xs.take (i + 1)) = pl4 0 (xs.take i) ++ pl3 i 0 (ls x) := by
  have hi := (List.getElem?_eq_some_iff.mp h).1
  rw [take_one h, pl4_app, List.length_take, Nat.min_eq_left (by omega), Int.zero_add]
  show _ ++ (pl3 i 0 (ls x) ++ []) = _
  rw [List.append_nil]
theorem pl2_len (a b : Int) : ∀ (xs : List (Tr 1)) (d : Int), (pl2 a b d xs).length = (flat 2 xs).length
  | [], _ => rfl
  | x :: r, d => by
    show (pl1 a b d (ls x) ++ pl2 a b (d + 1) r).length = (flat 1 x ++ flat 2 (r : List (Tr 1))).length
    rw [List.length_append, List.length_append, pl2_len a b r, flat_ints x]
    exact congrArg (· + _) (List.length_map ..)
theorem pl3_len (a : Int) : ∀ (xs : List (Tr 2)) (d : Int), (pl3 a d xs).length = (flat 3 xs).length
  | [], _ => rfl
  | x :: r, d => by
    show (pl2 a d 0 (ls x) ++ pl3 a (d + 1) r).length = (flat 2 x ++ flat 3 (r : List (Tr 2))).length
    rw [List.length_append, List.length_append, pl3_len a r, pl2_len]
theorem pl4_len : ∀ (xs : List (Tr 3)) (d : Int), (pl4 d xs).length = (flat 4 xs).length
  | [], _ => rfl
  | x :: r, d => by
    show (pl3 d 0 (ls x) ++ pl4 (d + 1) r).length = (flat 3 x ++ flat 4 (r : List (Tr 3))).length
    rw [List.length_append, List.length_append, pl4_len r, pl3_len]
theorem pl1_fst (a b d : Int) (f : List Int) : (pl1 a b d f).map (·.1) = f := by
  unfold pl1
  rw [List.map_map]
  exact List.map_id _
theorem pl2_fst (a b : Int) : ∀ (xs : List (Tr 1)) (d : Int), (pl2 a b d xs).map (·.1) = flat 2 xs
  | [], _ => rfl
  | x :: r, d => by
    show (pl1 a b d (ls x) ++ pl2 a b (d + 1) r).map (·.1) = flat 1 x ++ flat 2 (r : List (Tr 1))
    rw [List.map_append, pl2_fst a b r, flat_ints x]
    exact congrArg (· ++ flat 2 (r : List (Tr 1))) (pl1_fst a b d x)
theorem pl3_fst (a : Int) : ∀ (xs : List (Tr 2)) (d : Int), (pl3 a d xs).map (·.1) = flat 3 xs
  | [], _ => rfl
  | x :: r, d => by
    show (pl2 a d 0 (ls x) ++ pl3 a (d + 1) r).map (·.1) = flat 2 x ++ flat 3 (r : List (Tr 2))
    rw [List.map_append, pl3_fst a r, pl2_fst]
theorem pl4_fst : ∀ (xs : List (Tr 3)) (d : Int), (pl4 d xs).map (·.1) = flat 4 xs
  | [], _ => rfl
  | x :: r, d => by
    show (pl3 d 0 (ls x) ++ pl4 (d + 1) r).map (·.1) = flat 3 x ++ flat 4 (r : List (Tr 3))
    rw [List.map_append, pl4_fst r, pl3_fst]
abbrev T3 := Int × Int × Int
/-- the law's own numbering: where the rows ahead stood, where they stand now -/
def mvS (st : T3 × T3) (r : Q4) : T3 × T3 :=
  (r.2, if r.2.1 ≠ st.1.1 then (st.2.1 + 1, 0, 0) else if r.2.2.1 ≠ st.1.2.1 then (st.2.1, st.2.2.1 + 1, 0) else if r.2.2.2 ≠ st.1.2.2 then (st.2.1, st.2.2.1, st.2.2.2 + 1) else st.2)
def mv : T3 × T3 → List Q4 → List Q4
  | _, [] => []
  | st, r :: rs => (r.1, (mvS st r).2) :: mv (mvS st r) rs
def mvE (st : T3 × T3) (rs : List Q4) : T3 × T3 := rs.foldl mvS st
theorem mv_app : ∀ (a b : List Q4) (st : T3 × T3), mv st (a ++ b) = mv st a ++ mv (mvE st a) b
  | [], _, _ => rfl
  | r :: a, b, st => by
    show (r.1, (mvS st r).2) :: mv (mvS st r) (a ++ b) = _
    rw [mv_app a b (mvS st r)]
    rfl
theorem mvE_app (a b : List Q4) (st : T3 × T3) : mvE st (a ++ b) = mvE (mvE st a) b := List.foldl_append ..
theorem mv_len : ∀ (a : List Q4) (st : T3 × T3), (mv st a).length = a.length
  | [], _ => rfl
  | r :: a, st => congrArg Nat.succ (mv_len a (mvS st r))
/-- a form's rows, behind its first one -/
theorem mv_form (a b d : Int) : ∀ (f : List Int) (h : T3), mv ((a, b, d), h) (pl1 a b d f) = pl1 h.1 h.2.1 h.2.2 f ∧ mvE ((a, b, d), h) (pl1 a b d f) = ((a, b, d), h)
  | [], _ => ⟨rfl, rfl⟩
  | s :: f, h => by
    have e : mvS ((a, b, d), h) (s, a, b, d) = ((a, b, d), h) := by
      unfold mvS
      rw [if_neg (fun z => z rfl), if_neg (fun z => z rfl), if_neg (fun z => z rfl)]
    obtain ⟨i1, i2⟩ := mv_form a b d f h
    constructor
    · show (s, (mvS ((a, b, d), h) (s, a, b, d)).2) :: mv (mvS ((a, b, d), h) (s, a, b, d)) (pl1 a b d f) = (s, h) :: pl1 h.1 h.2.1 h.2.2 f
      rw [e, i1]
    · show mvE (mvS ((a, b, d), h) (s, a, b, d)) (pl1 a b d f) = _
      rw [e, i2]
theorem mv_first (a b d : Int) (s : Int) (f : List Int) (st : T3 × T3) (h : T3) (hs : (mvS st (s, a, b, d)).2 = h) : mv st (pl1 a b d (s :: f)) = pl1 h.1 h.2.1 h.2.2 (s :: f) ∧ mvE st (pl1 a b d (s :: f)) = ((a, b, d), h) := by
  have e : mvS st (s, a, b, d) = ((a, b, d), h) := by rw [← hs]; rfl
  obtain ⟨i1, i2⟩ := mv_form a b d f h
  constructor
  · show (s, (mvS st (s, a, b, d)).2) :: mv (mvS st (s, a, b, d)) (pl1 a b d f) = (s, h) :: pl1 h.1 h.2.1 h.2.2 f
    rw [e, i1]
  · show mvE (mvS st (s, a, b, d)) (pl1 a b d f) = _
    rw [e, i2]
/-- those that are not empty -/
def ne {n : Nat} (xs : List (Tr (n + 1))) : List (Tr (n + 1)) := xs.filter fun t => !(ls t).isEmpty
theorem ne_nil {n : Nat} (xs : List (Tr (n + 1))) : ne (([] : List (Tr n)) :: xs) = ne xs := rfl
theorem ne_cons {n : Nat} (y : Tr n) (r : List (Tr n)) (xs : List (Tr (n + 1))) : ne ((y :: r : List (Tr n)) :: xs) = (y :: r : List (Tr n)) :: ne xs := rfl
/-- a clan that is open: its forms from the place d0 on -/
theorem mv_open2 (a b : Int) : ∀ (xs : List (Tr 1)) (d0 lk : Int) (x y z : Int), lk < d0 → mv ((a, b, lk), (x, y, z)) (pl2 a b d0 xs) = pl2 x y (z + 1) (ne xs) ∧ ∃ lk' z', mvE ((a, b, lk), (x, y, z)) (pl2 a b d0 xs) = ((a, b, lk'), (x, y, z'))
  | [], _, lk, _, _, z, _ => ⟨rfl, lk, z, rfl⟩
  | f :: r, d0, lk, x, y, z, hlt => by
    obtain ⟨fl, hfl⟩ : ∃ fl : List Int, fl = f := ⟨f, rfl⟩
    subst hfl
    show mv _ (pl1 a b d0 fl ++ pl2 a b (d0 + 1) r) = _ ∧ _
    rw [mv_app]
    show _ ∧ ∃ lk' z', mvE _ (pl1 a b d0 fl ++ pl2 a b (d0 + 1) r) = _
    rw [mvE_app]
    cases fl with
    | nil => exact mv_open2 a b r (d0 + 1) lk x y z (by omega)
    | cons s f =>
      have hs : (mvS ((a, b, lk), (x, y, z)) (s, a, b, d0)).2 = (x, y, z + 1) := by
        unfold mvS
        rw [if_neg (fun z => z rfl), if_neg (fun z => z rfl), if_pos (show d0 ≠ lk by omega)]
      obtain ⟨i1, i2⟩ := mv_first a b d0 s f _ _ hs
      rw [i1, i2]
      obtain ⟨j1, j2⟩ := mv_open2 a b r (d0 + 1) d0 x y (z + 1) (by omega)
      rw [j1]
      exact ⟨rfl, j2⟩
/-- a clan that is not open yet -/
theorem mv_new2 (a b : Int) (st : T3 × T3) (x y : Int) (hb : ∀ s d, (mvS st (s, a, b, d)).2 = (x, y, 0)) : ∀ (xs : List (Tr 1)) (d0 : Int), mv st (pl2 a b d0 xs) = pl2 x y 0 (ne xs) ∧ ((ne xs = [] ∧ mvE st (pl2 a b d0 xs) = st) ∨ (ne xs ≠ [] ∧ ∃ lk' z', mvE st (pl2 a b d0 xs) = ((a, b, lk'), (x, y, z'))))
  | [], _ => ⟨rfl, .inl ⟨rfl, rfl⟩⟩
  | f :: r, d0 => by
    obtain ⟨fl, hfl⟩ : ∃ fl : List Int, fl = f := ⟨f, rfl⟩
    subst hfl
    show mv _ (pl1 a b d0 fl ++ pl2 a b (d0 + 1) r) = _ ∧ ((_ ∧ mvE _ (pl1 a b d0 fl ++ pl2 a b (d0 + 1) r) = _) ∨ (_ ∧ ∃ lk' z', mvE _ (pl1 a b d0 fl ++ pl2 a b (d0 + 1) r) = _))
    rw [mv_app, mvE_app]
    cases fl with
    | nil => exact mv_new2 a b st x y hb r (d0 + 1)
    | cons s f =>
      obtain ⟨i1, i2⟩ := mv_first a b d0 s f _ _ (hb s d0)
      rw [i1, i2]
      obtain ⟨j1, j2⟩ := mv_open2 a b r (d0 + 1) d0 x y 0 (by omega)
      rw [j1]
      exact ⟨rfl, .inr ⟨fun z => (nomatch z), j2⟩⟩
/-- the forms that are not empty, of the clans that are not -/
def ne2 (g : List (Tr 2)) : List (Tr 2) := ne (g.map fun c => (ne (ls c) : Tr 2))
def ne3 (S : List (Tr 3)) : List (Tr 3) := ne (S.map fun g => (ne2 (ls g) : Tr 3))
theorem mv_open3 (a : Int) : ∀ (xs : List (Tr 2)) (b0 lj lk : Int) (x y z : Int), lj < b0 → mv ((a, lj, lk), (x, y, z)) (pl3 a b0 xs) = pl3 x (y + 1) (ne2 xs) ∧ ∃ lj' lk' y' z', mvE ((a, lj, lk), (x, y, z)) (pl3 a b0 xs) = ((a, lj', lk'), (x, y', z'))
  | [], _, lj, lk, _, y, z, _ => ⟨rfl, lj, lk, y, z, rfl⟩
  | c :: r, b0, lj, lk, x, y, z, hlt => by
    show mv _ (pl2 a b0 0 (ls c) ++ pl3 a (b0 + 1) r) = _ ∧ ∃ lj' lk' y' z', mvE _ (pl2 a b0 0 (ls c) ++ pl3 a (b0 + 1) r) = _
    rw [mv_app, mvE_app]
    have hs : ∀ s d, (mvS ((a, lj, lk), (x, y, z)) (s, a, b0, d)).2 = (x, y + 1, 0) := fun s d => by
      unfold mvS
      rw [if_neg (fun z => z rfl), if_pos (show b0 ≠ lj by omega)]
    obtain ⟨i1, i2⟩ := mv_new2 a b0 _ x (y + 1) hs (ls c) 0
    rw [i1]
    rcases i2 with ⟨e, i2⟩ | ⟨e, lk', z', i2⟩
    · rw [i2, e]
      have e2 : ne2 (c :: r) = ne2 r := by
        show ne ((ne (ls c) : Tr 2) :: r.map fun c => (ne (ls c) : Tr 2)) = _
        rw [e]
        rfl
      rw [e2]
      exact mv_open3 a r (b0 + 1) lj lk x y z (by omega)
    · rw [i2]
      obtain ⟨j1, j2⟩ := mv_open3 a r (b0 + 1) b0 lk' x (y + 1) z' (by omega)
      rw [j1]
      refine ⟨?_, j2⟩
      obtain ⟨f, t, e3⟩ := List.exists_cons_of_ne_nil e
      have e2 : ne2 (c :: r) = (ne (ls c) : Tr 2) :: ne2 r := by
        show ne ((ne (ls c) : Tr 2) :: r.map fun c => (ne (ls c) : Tr 2)) = _
        rw [e3]
        rfl
      rw [e2]
      rfl
theorem mv_new3 (a : Int) (st : T3 × T3) (x : Int) (hb : ∀ s b d, (mvS st (s, a, b, d)).2 = (x, 0, 0)) : ∀ (xs : List (Tr 2)) (b0 : Int), mv st (pl3 a b0 xs) = pl3 x 0 (ne2 xs) ∧ ((ne2 xs = [] ∧ mvE st (pl3 a b0 xs) = st) ∨ (ne2 xs ≠ [] ∧ ∃ lj' lk' y' z', mvE st (pl3 a b0 xs) = ((a, lj', lk'), (x, y', z'))))
  | [], _ => ⟨rfl, .inl ⟨rfl, rfl⟩⟩
  | c :: r, b0 => by
    show mv _ (pl2 a b0 0 (ls c) ++ pl3 a (b0 + 1) r) = _ ∧ ((_ ∧ mvE _ (pl2 a b0 0 (ls c) ++ pl3 a (b0 + 1) r) = _) ∨ (_ ∧ ∃ lj' lk' y' z', mvE _ (pl2 a b0 0 (ls c) ++ pl3 a (b0 + 1) r) = _))
    rw [mv_app, mvE_app]
    obtain ⟨i1, i2⟩ := mv_new2 a b0 _ x 0 (fun s d => hb s b0 d) (ls c) 0
    rw [i1]
    rcases i2 with ⟨e, i2⟩ | ⟨e, lk', z', i2⟩
    · rw [i2, e]
      have e2 : ne2 (c :: r) = ne2 r := by
        show ne ((ne (ls c) : Tr 2) :: r.map fun c => (ne (ls c) : Tr 2)) = _
        rw [e]
        rfl
      rw [e2]
      exact mv_new3 a st x hb r (b0 + 1)
    · rw [i2]
      obtain ⟨j1, j2⟩ := mv_open3 a r (b0 + 1) b0 lk' x 0 z' (by omega)
      rw [j1]
      obtain ⟨f, t, e3⟩ := List.exists_cons_of_ne_nil e
      have e2 : ne2 (c :: r) = (ne (ls c) : Tr 2) :: ne2 r := by
        show ne ((ne (ls c) : Tr 2) :: r.map fun c => (ne (ls c) : Tr 2)) = _
        rw [e3]
        rfl
      rw [e2]
      exact ⟨rfl, .inr ⟨fun z => (nomatch z), j2⟩⟩
theorem mv_open4 : ∀ (xs : List (Tr 3)) (a0 li lj lk : Int) (x y z : Int), li < a0 → mv ((li, lj, lk), (x, y, z)) (pl4 a0 xs) = pl4 (x + 1) (ne3 xs)
  | [], _, _, _, _, _, _, _, _ => rfl
  | g :: r, a0, li, lj, lk, x, y, z, hlt => by
    show mv _ (pl3 a0 0 (ls g) ++ pl4 (a0 + 1) r) = _
    rw [mv_app]
    have hs : ∀ s b d, (mvS ((li, lj, lk), (x, y, z)) (s, a0, b, d)).2 = (x + 1, 0, 0) := fun s b d => by
      unfold mvS
      rw [if_pos (show a0 ≠ li by omega)]
    obtain ⟨i1, i2⟩ := mv_new3 a0 _ (x + 1) hs (ls g) 0
    rw [i1]
    rcases i2 with ⟨e, i2⟩ | ⟨e, lj', lk', y', z', i2⟩
    · rw [i2, e]
      have e2 : ne3 (g :: r) = ne3 r := by
        show ne ((ne2 (ls g) : Tr 3) :: r.map fun g => (ne2 (ls g) : Tr 3)) = _
        rw [e]
        rfl
      rw [e2]
      exact mv_open4 r (a0 + 1) li lj lk x y z (by omega)
    · rw [i2, mv_open4 r (a0 + 1) a0 lj' lk' (x + 1) y' z' (by omega)]
      obtain ⟨f, t, e3⟩ := List.exists_cons_of_ne_nil e
      have e2 : ne3 (g :: r) = (ne2 (ls g) : Tr 3) :: ne3 r := by
        show ne ((ne2 (ls g) : Tr 3) :: r.map fun g => (ne2 (ls g) : Tr 3)) = _
        rw [e3]
        rfl
      rw [e2]
      rfl
def st0 : T3 × T3 := ((-1, -1, -1), (-1, -1, -1))
/-- the rows of all but s -/
theorem pl1_wo (a b d s : Int) (f : List Int) : (pl1 a b d f).filter (fun r => !decide (r.1 = s)) = pl1 a b d (ls (wo 0 s f)) := by
  show (f.map fun s => (s, a, b, d)).filter (fun r => !decide (r.1 = s)) = (f.filter fun x => !decide (x = s)).map fun s => (s, a, b, d)
  rw [List.filter_map]
  rfl
theorem pl2_wo (a b s : Int) : ∀ (xs : List (Tr 1)) (d : Int), (pl2 a b d xs).filter (fun r => !decide (r.1 = s)) = pl2 a b d (xs.map (wo 0 s))
  | [], _ => rfl
  | x :: r, d => by
    show (pl1 a b d (ls x) ++ pl2 a b (d + 1) r).filter _ = pl1 a b d (ls (wo 0 s x)) ++ pl2 a b (d + 1) (r.map (wo 0 s))
    rw [List.filter_append, pl2_wo a b s r]
    exact congrArg (· ++ pl2 a b (d + 1) (r.map (wo 0 s))) (pl1_wo a b d s x)
/-- the forms without s, empty ones too -/
theorem pl3_wo (a s : Int) : ∀ (xs : List (Tr 2)) (d : Int), (pl3 a d xs).filter (fun r => !decide (r.1 = s)) = pl3 a d (xs.map fun c => ((ls c).map (wo 0 s) : Tr 2))
  | [], _ => rfl
  | x :: r, d => by
    show (pl2 a d 0 (ls x) ++ pl3 a (d + 1) r).filter _ = pl2 a d 0 ((ls x).map (wo 0 s)) ++ pl3 a (d + 1) (r.map fun c => ((ls c).map (wo 0 s) : Tr 2))
    rw [List.filter_append, pl3_wo a s r, pl2_wo]
theorem pl4_wo (s : Int) : ∀ (xs : List (Tr 3)) (d : Int), (pl4 d xs).filter (fun r => !decide (r.1 = s)) = pl4 d (xs.map fun g => ((ls g).map fun c => ((ls c).map (wo 0 s) : Tr 2) : Tr 3))
  | [], _ => rfl
  | x :: r, d => by
    show (pl3 d 0 (ls x) ++ pl4 (d + 1) r).filter _ = pl3 d 0 ((ls x).map fun c => ((ls c).map (wo 0 s) : Tr 2)) ++ pl4 (d + 1) (r.map fun g => ((ls g).map fun c => ((ls c).map (wo 0 s) : Tr 2) : Tr 3))
    rw [List.filter_append, pl4_wo s r, pl3_wo]
theorem moved_up (S : Tr 4) (s : Int) : mv st0 ((places S).filter (fun r => !decide (r.1 = s))) = places (wo 3 s S) := by
  unfold places
  rw [pl4_wo]
  have h := mv_open4 ((ls S).map fun g => ((ls g).map fun c => ((ls c).map (wo 0 s) : Tr 2) : Tr 3)) 0 (-1) (-1) (-1) (-1) (-1) (-1) (by decide)
  refine h.trans ?_
  show pl4 0 (ne3 _) = pl4 0 _
  refine congrArg (pl4 0) ?_
  show ne (((ls S).map fun g => ((ls g).map fun c => ((ls c).map (wo 0 s) : Tr 2) : Tr 3)).map fun g => (ne2 (ls g) : Tr 3)) = ne ((ls S).map (wo 2 s))
  refine congrArg ne (Eq.trans List.map_map (List.map_congr_left fun g _ => ?_))
  show ne (((ls g).map fun c => ((ls c).map (wo 0 s) : Tr 2)).map fun c => (ne (ls c) : Tr 2)) = ne ((ls g).map (wo 1 s))
  exact congrArg ne (Eq.trans List.map_map (List.map_congr_left fun c _ => rfl))
theorem mem_rows0 {p : List Int} {fs : List (Tr 1)} {r : Rw} : r ∈ rows 0 p fs ↔ ∃ (k : Nat) (f : Tr 1), fs[k]? = some f ∧ r = (p ++ [(k : Int)], ls f) := by
  rw [rows_one, List.mem_flatMap]
  constructor
  · rintro ⟨x, hx, hr⟩
    exact ⟨x.2, x.1, List.mem_zipIdx_iff_getElem?.mp hx, List.mem_singleton.mp hr⟩
  · rintro ⟨k, f, hf, rfl⟩
    exact ⟨(f, k), List.mem_zipIdx_iff_getElem?.mpr hf, List.mem_singleton.mpr rfl⟩
theorem mem_rows1 {n : Nat} {p : List Int} {ts : List (Tr (n + 2))} {r : Rw} : r ∈ rows (n + 1) p ts ↔ ∃ (i : Nat) (t : Tr (n + 2)), ts[i]? = some t ∧ (r = (p ++ [(i : Int)], srt (flat (n + 2) t)) ∨ r ∈ rows n (p ++ [(i : Int)]) (ls t)) := by
  rw [rows_one, List.mem_flatMap]
  constructor
  · rintro ⟨x, hx, hr⟩
    exact ⟨x.2, x.1, List.mem_zipIdx_iff_getElem?.mp hx, List.mem_cons.mp hr⟩
  · rintro ⟨i, t, ht, hr⟩
    exact ⟨(t, i), List.mem_zipIdx_iff_getElem?.mpr ht, List.mem_cons.mpr hr⟩
/-- the sheet s lies at p -/
def Lies (S : Tr 4) (s : Int) (p : List Int) : Prop := ∃ (i j k : Nat) (g : Tr 3) (c : Tr 2) (f : Tr 1), (ls S)[i]? = some g ∧ (ls g)[j]? = some c ∧ (ls c)[k]? = some f ∧ s ∈ ls f ∧ p = [(i : Int), (j : Int), (k : Int)]
theorem mem_flat1 {f : Tr 1} {s : Int} : s ∈ flat 1 f ↔ s ∈ ls f := by
  have := flat_ints f
  constructor
  · intro h; rw [this] at h; exact h
  · intro h; rw [this]; exact h
theorem deep_row {S : Tr 4} {r : Rw} (h : r ∈ rows 2 [] (ls S)) (h3 : r.1.length = 3) : ∃ (i j k : Nat) (g : Tr 3) (c : Tr 2) (f : Tr 1), (ls S)[i]? = some g ∧ (ls g)[j]? = some c ∧ (ls c)[k]? = some f ∧ r = ([(i : Int), (j : Int), (k : Int)], ls f) := by
  obtain ⟨i, g, hg, h | h⟩ := mem_rows1.mp h
  · rw [h] at h3; exact absurd (show (1 : Nat) = 3 from h3) (by decide)
  obtain ⟨j, c, hc, h | h⟩ := mem_rows1.mp h
  · rw [h] at h3; exact absurd (show (2 : Nat) = 3 from h3) (by decide)
  obtain ⟨k, f, hf, h⟩ := mem_rows0.mp h
  exact ⟨i, j, k, g, c, f, hg, hc, hf, h⟩
theorem uniq_at {n : Nat} {ts : List (Tr n)} {i i' : Nat} {t t' : Tr n} {s : Int} (nd : (flat (n + 1) ts).Nodup) (h : ts[i]? = some t) (h' : ts[i']? = some t') (hs : s ∈ flat n t) (hs' : s ∈ flat n t') : i = i' := by
  have key : ∀ {a b : Nat} {x y : Tr n}, ts[a]? = some x → ts[b]? = some y → s ∈ flat n x → s ∈ flat n y → ¬ a < b := fun {a b x y} ha hb hx hy lt => by
    refine (flat_nd hb nd).2 s hy ?_
    refine flat_mem (t := x) ?_ hx
    exact List.mem_of_getElem? (i := a) (by rw [List.getElem?_take_of_lt lt]; exact ha)
  have h1 := key h h' hs hs'
  have h2 := key h' h hs' hs
  omega
theorem first_is {s : Int} {p : List Int} : ∀ {rs : List Rw}, (∀ r ∈ rs, r.1.length = 3 → s ∈ r.2 → r.1 = p) → (∃ r ∈ rs, r.1.length = 3 ∧ s ∈ r.2) → firstP rs s = some p
  | [], _, ⟨r, h, _⟩ => nomatch h
  | r :: rs, u, ⟨q, hq, h3, hs⟩ => by
    show (if r.1.length = 3 ∧ s ∈ r.2 then some r.1 else firstP rs s) = some p
    by_cases e : r.1.length = 3 ∧ s ∈ r.2
    · rw [if_pos e, u r (List.mem_cons_self ..) e.1 e.2]
    · rw [if_neg e]
      refine first_is (fun x hx => u x (List.mem_cons_of_mem _ hx)) ⟨q, ?_, h3, hs⟩
      rcases List.mem_cons.mp hq with rfl | hq
      · exact absurd ⟨h3, hs⟩ e
      · exact hq
theorem first_no {s : Int} : ∀ {rs : List Rw}, (∀ r ∈ rs, r.1.length = 3 → s ∉ r.2) → firstP rs s = none
  | [], _ => rfl
  | r :: rs, u => by
    show (if r.1.length = 3 ∧ s ∈ r.2 then some r.1 else firstP rs s) = none
    rw [if_neg (fun e => u r (List.mem_cons_self ..) e.1 e.2)]
    exact first_no fun x hx => u x (List.mem_cons_of_mem _ hx)
theorem Lies.first {S : Tr 4} {s : Int} {p : List Int} (wf : WF S) (h : Lies S s p) : firstP (rows 2 [] (ls S)) s = some p := by
  obtain ⟨i, j, k, g, c, f, hg, hc, hf, hs, rfl⟩ := h
  have hs := mem_flat1.mpr hs
  have hs2 := flat_mem (List.mem_of_getElem? hf) hs
  have hs3 := flat_mem (List.mem_of_getElem? hc) hs2
  refine first_is (fun r hr h3 hr2 => ?_) ⟨([(i : Int), (j : Int), (k : Int)], ls f), mem_rows1.mpr ⟨i, g, hg, .inr (mem_rows1.mpr ⟨j, c, hc, .inr (mem_rows0.mpr ⟨k, f, hf, rfl⟩)⟩)⟩, rfl, mem_flat1.mp hs⟩
  obtain ⟨i', j', k', g', c', f', hg', hc', hf', rfl⟩ := deep_row hr h3
  have gs := mem_flat1.mpr hr2
  have gs2 := flat_mem (List.mem_of_getElem? hf') gs
  have gs3 := flat_mem (List.mem_of_getElem? hc') gs2
  obtain rfl := uniq_at wf.nd hg hg' hs3 gs3
  rw [hg] at hg'
  cases hg'
  have ndg := (flat_nd hg wf.nd).1
  obtain rfl := uniq_at ndg hc hc' hs2 gs2
  rw [hc] at hc'
  cases hc'
  obtain rfl := uniq_at (flat_nd hc ndg).1 hf hf' hs gs
  rfl
theorem first_out {S : Tr 4} {s : Int} (h : s ∉ flat 4 S) : firstP (rows 2 [] (ls S)) s = none := first_no fun r hr h3 hr2 => by
  obtain ⟨i, j, k, g, c, f, hg, hc, hf, rfl⟩ := deep_row hr h3
  exact h (flat_mem (List.mem_of_getElem? hg) (flat_mem (List.mem_of_getElem? hc) (flat_mem (List.mem_of_getElem? hf) (mem_flat1.mpr hr2))))
/-- what is known of the sheets of done -/
structure Kn (S : Tr 4) (G : Hp) (kvs : List (Key × V)) (done : List Int) : Prop where
  has : ∀ s ∈ done, valV kvs (Sum.inl s) ≠ none
  val : ∀ s v, valV kvs (Sum.inl s) = some v → ∃ p a, Lies S s p ∧ v = .ref a ∧ G a = some (.lst (p.map V.int))
  keys : ∀ q ∈ kvs, ∃ s ∈ flat 4 S, q.1 = Sum.inl s
  len : kvs.length ≤ done.length
theorem Kn.nil {S : Tr 4} {G : Hp} : Kn S G [] [] := by
  refine ⟨fun s h => ?_, fun s v h => ?_, fun q h => ?_, Nat.le_refl _⟩
  · exact absurd h List.not_mem_nil
  · rw [valV_nil] at h; cases h
  · exact absurd h List.not_mem_nil
theorem Kn.keep {S : Tr 4} {G G' : Hp} {kvs : List (Key × V)} {done : List Int} (h : Kn S G kvs done) (s : ∀ a xs, G a = some (.lst xs) → G' a = some (.lst xs)) : Kn S G' kvs done :=
  ⟨h.has, fun x v e => let ⟨p, a, l, e', g⟩ := h.val x v e; ⟨p, a, l, e', s _ _ g⟩, h.keys, h.len⟩
theorem Kn.put {S : Tr 4} {G : Hp} {kvs : List (Key × V)} {done : List Int} {s : Int} {p : List Int} {a : Addr} (h : Kn S G kvs done) (l : Lies S s p) (g : G a = some (.lst (p.map V.int))) (hs : s ∈ flat 4 S) : Kn S G (putK kvs (Sum.inl s) (.ref a)) (done ++ [s]) := by
  refine ⟨fun x hx => ?_, fun x v e => ?_, fun q hq => ?_, ?_⟩
  · rw [valV_put]
    by_cases e : x = s
    · rw [if_pos (by rw [e])]; intro z; cases z
    · rw [if_neg (fun z => e (Sum.inl.inj z))]
      rcases List.mem_append.mp hx with q | q
      · exact h.has x q
      · exact absurd (List.mem_singleton.mp q) e
  · rw [valV_put] at e
    by_cases e' : x = s
    · rw [if_pos (by rw [e'])] at e
      cases e
      rw [e']
      exact ⟨p, a, l, rfl, g⟩
    · rw [if_neg (fun z => e' (Sum.inl.inj z))] at e
      exact h.val x v e
  · unfold putK at hq
    split at hq
    · obtain ⟨q', hq', rfl⟩ := List.mem_map.mp hq
      obtain ⟨x, hx, e⟩ := h.keys q' hq'
      refine ⟨x, hx, ?_⟩
      split
      · exact e
      · exact e
    · rcases List.mem_append.mp hq with q1 | q1
      · exact h.keys q q1
      · rw [List.mem_singleton.mp q1]; exact ⟨s, hs, rfl⟩
  · have := h.len
    unfold putK
    rw [List.length_append]
    show _ ≤ done.length + 1
    split
    · rw [List.length_map]; omega
    · rw [List.length_append]; show kvs.length + 1 ≤ _; omega
def spKnown : Sp := fun vs H Q _ => ∃ v, ∃ S : Tr 4, vs = [v] ∧ AtR H 4 v S ∧ WF S ∧ (flat 4 S).length < 64 ∧ ∀ d kvs H', Same H H' → H' d = some (.dK kvs) → Kn S H' kvs (flat 4 S) → Q (.ref d) H'
def spRefusedS (K : PySem.W.Frag) : Sp := fun vs H Q _ => ∃ wy v x p, ∃ S : Tr 4, vs = [.int wy, v, x, p] ∧ AtR H 4 v S ∧ WF S ∧ (flat 4 S).length < 64 ∧ Own K H x ∧ (wy = 0 ∨ wy = 1 → inR 1000000000 x = false) ∧ (inR 1000000000 x = true → ∀ s, x = .int s → firstP (rows 2 [] (ls S)) s = none) ∧ ∀ H', Same H H' → Q (.bl true) H'
def spAt : Sp := fun vs H Q _ => ∃ v s d kvs, ∃ S : Tr 4, vs = [v, .int s, .ref d] ∧ AtR H 4 v S ∧ WF S ∧ (flat 4 S).length < 64 ∧ inR 1000000000 (.int s) = true ∧ H d = some (.dK kvs) ∧ Kn S H kvs (flat 4 S) ∧ ∀ H', Same H H' → Q (.bl true) H'
theorem flat_ne {n : Nat} : ∀ xs : List (Tr (n + 1)), flat (n + 2) (ne xs : List (Tr (n + 1))) = flat (n + 2) xs
  | [] => rfl
  | x :: r => by
    obtain ⟨y, hy⟩ : ∃ y : List (Tr n), y = x := ⟨x, rfl⟩
    subst hy
    cases y with
    | nil => exact flat_ne r
    | cons a t =>
      show flat (n + 1) (a :: t : List (Tr n)) ++ flat (n + 2) (ne r : List (Tr (n + 1))) = flat (n + 1) (a :: t : List (Tr n)) ++ flat (n + 2) r
      rw [flat_ne r]
theorem flat_wo (s : Int) : ∀ (n : Nat) (t : Tr (n + 1)), flat (n + 1) (wo n s t) = (flat (n + 1) t).filter (fun x => !decide (x = s))
  | 0, f => (flat_ints (wo 0 s f)).trans (congrArg (List.filter (fun x => !decide (x = s))) (flat_ints f).symm)
  | n + 1, ts => by
    have key : ∀ xs : List (Tr (n + 1)), flat (n + 2) (xs.map (wo n s) : List (Tr (n + 1))) = (flat (n + 2) xs).filter (fun x => !decide (x = s)) := fun xs => by
      induction xs with
      | nil => rfl
      | cons x r ih =>
        show flat (n + 1) (wo n s x) ++ flat (n + 2) (r.map (wo n s) : List (Tr (n + 1))) = (flat (n + 1) x ++ flat (n + 2) (r : List (Tr (n + 1)))).filter _
        rw [List.filter_append, ih, flat_wo s n x]
    exact (flat_ne _).trans (key (ls ts))
theorem wo_in {n : Nat} {s : Int} {ts : Tr (n + 2)} {x : Tr (n + 1)} (h : x ∈ ls (wo (n + 1) s ts)) : ls x ≠ [] ∧ ∃ t ∈ ls ts, x = wo n s t := by
  have h : x ∈ List.filter (fun t : Tr (n + 1) => !(ls t).isEmpty) ((ls ts).map (wo n s)) := h
  obtain ⟨h1, h2⟩ := List.mem_filter.mp h
  obtain ⟨t, ht, e⟩ := List.mem_map.mp h1
  refine ⟨fun z => ?_, t, ht, e.symm⟩
  rw [z] at h2
  cases h2
theorem wo_full {s : Int} : ∀ {n : Nat} {ts : Tr (n + 2)} {x : Tr (n + 1)}, x ∈ ls (wo (n + 1) s ts) → full (n + 1) x
  | 0, _, _, h => ⟨(wo_in h).1, fun _ _ => trivial⟩
  | n + 1, _, x, h => by
    obtain ⟨h1, t, _, rfl⟩ := wo_in h
    exact ⟨h1, fun y hy => wo_full hy⟩
theorem wo_asc {s : Int} : ∀ {n : Nat} {t : Tr (n + 1)}, asc (n + 1) t → asc (n + 1) (wo n s t)
  | 0, f, h => by
    have h : List.Pairwise (α := Int) (· < ·) f := h
    exact List.Pairwise.filter (R := ((· < ·) : Int → Int → Prop)) (fun x => !decide (x = s)) h
  | n + 1, ts, h => fun x hx => by
    obtain ⟨_, t, ht, rfl⟩ := wo_in hx
    exact wo_asc (h t ht)
theorem WF.wo {S : Tr 4} (w : WF S) (s : Int) : WF (My.wo 3 s S) := by
  have e := flat_wo s 3 S
  refine ⟨fun g hg => wo_full hg, wo_asc w.as, fun x hx => w.inn x ?_, ?_⟩
  · have hx : x ∈ flat (3 + 1) (My.wo 3 s S) := hx
    rw [e] at hx
    exact (List.mem_filter.mp hx).1
  · show (flat (3 + 1) (My.wo 3 s S)).Nodup
    rw [e]
    exact w.nd.filter _
theorem wo_len (S : Tr 4) (s : Int) : (flat 4 (wo 3 s S)).length ≤ (flat 4 S).length := by
  have e : flat 4 (wo 3 s S) = (flat 4 S).filter (fun x => !decide (x = s)) := flat_wo s 3 S
  rw [e]
  exact List.length_filter_le _ _
theorem nd_filter {s : Int} : ∀ {xs : List Int}, xs.Nodup → s ∈ xs → (xs.filter (fun x => !decide (x = s))).length + 1 = xs.length
  | [], _, h => nomatch h
  | x :: r, nd, h => by
    rw [List.nodup_cons] at nd
    by_cases e : x = s
    · subst e
      rw [List.filter_cons_of_neg (by simp), List.length_cons]
      rw [List.filter_eq_self.mpr fun y hy => ?_]
      have : y ≠ x := fun q => nd.1 (q ▸ hy)
      simp [this]
    · rw [List.filter_cons_of_pos (by simp [e]), List.length_cons, List.length_cons]
      rcases List.mem_cons.mp h with q | q
      · exact absurd q.symm e
      · rw [nd_filter nd.2 q]
theorem wo_len1 {S : Tr 4} (w : WF S) {s : Int} (h : s ∈ flat 4 S) : (flat 4 (wo 3 s S)).length + 1 = (flat 4 S).length := by
  have e : flat 4 (wo 3 s S) = (flat 4 S).filter (fun x => !decide (x = s)) := flat_wo s 3 S
  rw [e]
  exact nd_filter w.nd h
theorem Lies.of {S : Tr 4} {s : Int} (h : s ∈ flat 4 S) : ∃ p, Lies S s p := by
  obtain ⟨g, hg, h3⟩ := List.mem_flatMap.mp (show s ∈ (ls S).flatMap (flat 3) from h)
  obtain ⟨c, hc, h2⟩ := List.mem_flatMap.mp (show s ∈ (ls g).flatMap (flat 2) from h3)
  obtain ⟨f, hf, h1⟩ := List.mem_flatMap.mp (show s ∈ (ls c).flatMap (flat 1) from h2)
  obtain ⟨i, ei⟩ := List.getElem?_of_mem hg
  obtain ⟨j, ej⟩ := List.getElem?_of_mem hc
  obtain ⟨k, ek⟩ := List.getElem?_of_mem hf
  exact ⟨_, i, j, k, g, c, f, ei, ej, ek, mem_flat1.mp h1, rfl⟩
def spLSortN (K : PySem.W.Frag) : Sp := fun vs H Q _ => ∃ (a : Addr) (ns : List Int) (mx : Int), vs = [.ref a, .int 1, .int mx] ∧ 0 ≤ mx ∧ mx ≤ 60 ∧ SqL K H a (ns.map V.int) ∧ ns.length ≤ 63 ∧
  ∀ w H', ∀ S : Tr 4, Same H H' → New H H' 4 w S → WF S → (flat 4 S).length ≤ 60 → (flat 4 S).length ≤ ns.length → Q w H'
def spTaken : Sp := fun vs H Q _ => ∃ v s, ∃ S : Tr 4, vs = [v, .int s] ∧ AtR H 4 v S ∧ WF S ∧ (flat 4 S).length < 64 ∧ s ∈ flat 4 S ∧ ∀ w H', Same H H' → New H H' 4 w (wo 3 s S) → Q w H'
def spPlaces : Sp := fun vs H Q _ => ∃ v, ∃ S : Tr 4, vs = [v] ∧ AtR H 4 v S ∧ (∀ g ∈ ls S, full 3 g) ∧ (flat 4 S).length < 64 ∧ ∀ w H', Same H H' → New H H' 2 w ((places S).map rl : List (Tr 1)) → Q w H'
def spMoved : Sp := fun vs H Q _ => ∃ l, ∃ R : List Q4, vs = [.ref l] ∧ AtR H 2 (.ref l) (R.map rl : List (Tr 1)) ∧ R.length < 64 ∧ ∀ w H', Same H H' → New H H' 2 w ((mv st0 R).map rl : List (Tr 1)) → Q w H'
def spWholeL : Sp := fun vs H Q _ => ∃ v, ∃ S : Tr 4, vs = [v] ∧ AtR H 4 v S ∧ (∀ g ∈ ls S, full 3 g) ∧ (flat 4 S).length < 64 ∧ ∀ H', Same H H' → Q (.bl true) H'
def spRightT : Sp := fun vs H Q _ => ∃ v s, ∃ S : Tr 4, vs = [v, .int s] ∧ AtR H 4 v S ∧ WF S ∧ (flat 4 S).length < 64 ∧ s ∈ flat 4 S ∧ ∀ H', Same H H' → Q (.bl true) H'
def t3 (x : T3) : List V := [.int x.1, .int x.2.1, .int x.2.2]
theorem t3_0 (x : T3) : atI (t3 x) 0 = some (.int x.1) := atI_nat (j := 0) rfl
theorem t3_1 (x : T3) : atI (t3 x) 1 = some (.int x.2.1) := atI_nat (j := 1) rfl
theorem t3_2 (x : T3) : atI (t3 x) 2 = some (.int x.2.2) := atI_nat (j := 2) rfl
def Vis (i j m : Nat) : List Nat → Prop
  | [m', j', i'] => i' < i ∨ (i' = i ∧ (j' < j ∨ (j' = j ∧ m' < m)))
  | _ => False
theorem vis3 {i j m a b c : Nat} : Vis i j m [c, b, a] ↔ (a < i ∨ (a = i ∧ (b < j ∨ (b = j ∧ c < m)))) := Iff.rfl
theorem vis_is {i j m : Nat} {p : List Nat} (h : Vis i j m p) : ∃ c b a, p = [c, b, a] := by
  match p, h with
  | [c, b, a], _ => exact ⟨c, b, a, rfl⟩
/-- what is not owned stays, and what is owned and not visited yet -/
structure Jv (o : Ow) (G0 : Hp) (i j m : Nat) (G : Hp) : Prop where
  out : ∀ b u, o b = none → G0 b = some u → G b = some u
  own : ∀ b p u, o b = some p → ¬ Vis i j m p → G0 b = some u → G b = some u
theorem Jv.mono {o : Ow} {G0 G : Hp} {i j m i' j' m' : Nat} (h : Jv o G0 i j m G) (hv : ∀ c b a, Vis i j m [c, b, a] → Vis i' j' m' [c, b, a]) : Jv o G0 i' j' m' G :=
  ⟨h.out, fun b p u hp hn => h.own b p u hp fun z => hn (by
    obtain ⟨x, y, w, rfl⟩ := vis_is z
    exact hv _ _ _ z)⟩
theorem Jv.step {o : Ow} {G0 G : Hp} {i j m : Nat} {a : Addr} {w : HO} (h : Jv o G0 i j m G) (ha : o a = some [m, j, i]) : Jv o G0 i j (m + 1) (upd G a w) := by
  refine ⟨fun b u hb hu => ?_, fun b p u hp hn hu => ?_⟩
  · rw [upd_ne (fun z => by rw [z, ha] at hb; cases hb)]
    exact h.out b u hb hu
  · have nb : b ≠ a := fun z => by
      rw [z, ha] at hp
      cases hp
      exact hn (vis3.mpr (.inr ⟨rfl, .inr ⟨rfl, Nat.lt_succ_self m⟩⟩))
    rw [upd_ne nb]
    refine h.own b p u hp (fun z => hn ?_) hu
    obtain ⟨x, y, v, rfl⟩ := vis_is z
    rw [vis3] at z ⊢
    omega
/-- things one by one -/
def AtL (H : Hp) (n : Nat) (ws : List V) (ts : List (Tr n)) : Prop := ws.length = ts.length ∧ ∀ (j : Nat) w t, ws[j]? = some w → ts[j]? = some t → AtR H n w t
theorem AtL.nil {H : Hp} {n : Nat} : AtL H n [] [] := ⟨rfl, fun j w t h => (by rw [List.getElem?_nil] at h; cases h)⟩
theorem AtL.snoc {H : Hp} {n : Nat} {ws : List V} {ts : List (Tr n)} {w : V} {t : Tr n} (h : AtL H n ws ts) (hw : AtR H n w t) : AtL H n (ws ++ [w]) (ts ++ [t]) := by
  refine ⟨by rw [List.length_append, List.length_append, h.1]; rfl, fun j u x hu hx => ?_⟩
  by_cases hj : j < ws.length
  · rw [List.getElem?_append_left hj] at hu
    rw [List.getElem?_append_left (by rw [← h.1]; exact hj)] at hx
    exact h.2 j u x hu hx
  · rw [List.getElem?_append_right (by omega)] at hu
    rw [List.getElem?_append_right (by rw [← h.1]; omega)] at hx
    obtain ⟨h1, e1⟩ := List.getElem?_eq_some_iff.mp hu
    have j0 : j - ws.length = 0 := by simpa using h1
    rw [j0] at hu
    rw [← h.1, j0] at hx
    cases Option.some.inj hu
    cases Option.some.inj hx
    exact hw
theorem AtL.at {H H' : Hp} {n : Nat} {a : Addr} {ws : List V} {ts : List (Tr n)} (h : AtL H n ws ts) (s : Same H H') (e : H' a = some (.lst ws)) : AtR H' (n + 1) (.ref a) ts := ⟨a, ws, rfl, e, h.1, fun j w t hw ht => (h.2 j w t hw ht).same s⟩
theorem small_rl (R : List Q4) (h : R.length ≤ 1000) : small 2 (R.map rl : List (Tr 1)) := by
  refine ⟨by show (R.map rl).length ≤ 1000; rw [List.length_map]; exact h, fun t ht => ?_⟩
  obtain ⟨r, _, rfl⟩ := List.mem_map.mp (show t ∈ R.map rl from ht)
  exact ⟨by show (4 : Nat) ≤ 1000; decide, fun _ _ => trivial⟩
theorem iteT' {b : Bool} {P Q : Prop} (h : b = true) (p : P) : if b = true then P else Q := by rw [if_pos h]; exact p
theorem iteF' {b : Bool} {P Q : Prop} (h : b = false) (p : Q) : if b = true then P else Q := by rw [if_neg (by rw [h]; decide)]; exact p
def okP : V → Bool
  | .int i => decide (0 ≤ i)
  | _ => false
/-- the things that a path may be of -/
def plainV : V → Bool
  | .int _ => true
  | .bl _ => true
  | .str _ => true
  | _ => false
theorem plainV.own {K : PySem.W.Frag} {H : Hp} {x : V} (h : plainV x = true) : Own K H x := by
  cases x <;> first | exact Own.int | exact Own.bl | exact Own.str | exact absurd (show false = true from h) Bool.false_ne_true
def nonN : List V → Option (List Int)
  | [] => some []
  | .int i :: r => if 0 ≤ i then (nonN r).map (i :: ·) else none
  | _ :: _ => none
theorem nonN_some : ∀ xs : List V, (nonN xs).isSome = xs.all okP
  | [] => rfl
  | x :: r => by
    cases x with
    | int i =>
      show (if 0 ≤ i then (nonN r).map (i :: ·) else none).isSome = (decide (0 ≤ i) && r.all okP)
      by_cases h : 0 ≤ i
      · rw [if_pos h, decide_eq_true h, Option.isSome_map, nonN_some r]; rfl
      · rw [if_neg h, decide_eq_false h]; rfl
    | _ => rfl
theorem nonN_is : ∀ {xs : List V} {q : List Int}, nonN xs = some q → xs = q.map V.int ∧ ∀ i ∈ q, 0 ≤ i
  | [], q, h => by
    cases (Option.some.inj h : [] = q)
    exact ⟨rfl, fun i hi => nomatch hi⟩
  | x :: r, q, h => by
    cases x with
    | int i =>
      have h : (if 0 ≤ i then (nonN r).map (i :: ·) else none) = some q := h
      by_cases h0 : 0 ≤ i
      · rw [if_pos h0] at h
        obtain ⟨q', e1, e2⟩ := Option.map_eq_some_iff.mp h
        subst e2
        obtain ⟨a, b⟩ := nonN_is e1
        refine ⟨by rw [a]; rfl, fun j hj => ?_⟩
        rcases List.mem_cons.mp hj with e | e
        · rw [e]; exact h0
        · exact b j e
      · rw [if_neg h0] at h; cases h
    | _ => exact absurd (show (none : Option (List Int)) = some q from h) (by intro z; cases z)
def pathQ (xs : List V) : Option (List Int) := if 1 ≤ xs.length ∧ xs.length ≤ 3 then nonN xs else none
theorem pathQ_is {xs : List V} {q : List Int} (h : pathQ xs = some q) : xs = q.map V.int ∧ (∀ i ∈ q, 0 ≤ i) ∧ 1 ≤ q.length ∧ q.length ≤ 3 := by
  unfold pathQ at h
  by_cases h0 : 1 ≤ xs.length ∧ xs.length ≤ 3
  · rw [if_pos h0] at h
    obtain ⟨a, b⟩ := nonN_is h
    rw [a, List.length_map] at h0
    exact ⟨a, b, h0⟩
  · rw [if_neg h0] at h; cases h
/-- p is, or is no path -/
def IsP (K : PySem.W.Frag) (H : Hp) (p : V) (o : Option (List Int)) : Prop :=
  (∃ a xs, p = .ref a ∧ H a = some (.tup xs) ∧ (∀ x ∈ xs, plainV x = true) ∧ o = pathQ xs) ∨ (o = none ∧ (p = .non ∨ (∃ i, p = .int i) ∨ ∃ a xs, p = .ref a ∧ H a = some (.lst xs)))
theorem IsP.same {K : PySem.W.Frag} {H H' : Hp} {p : V} {o : Option (List Int)} (h : IsP K H p o) (s : Same H H') : IsP K H' p o := by
  rcases h with ⟨a, xs, e, h, r⟩ | ⟨e, h | h | ⟨a, xs, e2, h⟩⟩
  · exact .inl ⟨a, xs, e, s _ _ h, r⟩
  · exact .inr ⟨e, .inl h⟩
  · exact .inr ⟨e, .inr (.inl h)⟩
  · exact .inr ⟨e, .inr (.inr ⟨a, xs, e2, s _ _ h⟩)⟩
theorem IsP.tup {K : PySem.W.Frag} {H : Hp} {a : Addr} {xs : List V} (h : H a = some (.tup xs)) (hp : xs.all plainV = true) : ∃ o, IsP K H (.ref a) o := ⟨_, .inl ⟨a, xs, rfl, h, List.all_eq_true.mp hp, rfl⟩⟩
/-- t with the sheet s laid to the path q in it, if that leads to a group -/
def lay : (n : Nat) → Tr (n + 2) → Int → List Int → Option (Tr (n + 2))
  | 0, t, s, [i] => if i = ((ls t).length : Int) then some (ls t ++ [solo 1 s] : List (Tr 1)) else if i < ((ls t).length : Int) then (match (ls t)[i.toNat]? with | some f => some ((ls t).set i.toNat (srt (List.append (α := Int) f [s])) : List (Tr 1)) | none => none) else none
  | n + 1, t, s, [i] => if i = ((ls t).length : Int) then some (ls t ++ [solo (n + 2) s] : List (Tr (n + 2))) else none
  | n + 1, t, s, i :: j :: r => if i < ((ls t).length : Int) then (match (ls t)[i.toNat]? with | some g => (lay n g s (j :: r)).map fun g' => ((ls t).set i.toNat g' : List (Tr (n + 2))) | none => none) else none
  | _, _, _, _ => none
theorem lay_last {n : Nat} {t : Tr (n + 2)} {s i : Int} (h : i = ((ls t).length : Int)) : lay n t s [i] = some (ls t ++ [solo (n + 1) s] : List (Tr (n + 1))) := by
  cases n with
  | zero => unfold lay; rw [if_pos h]; rfl
  | succ n => unfold lay; rw [if_pos h]; rfl
theorem lay_form {t : Tr 2} {s i : Int} {f : Tr 1} (h : i < ((ls t).length : Int)) (hf : (ls t)[i.toNat]? = some f) : lay 0 t s [i] = some ((ls t).set i.toNat (srt (List.append (α := Int) f [s])) : List (Tr 1)) := by
  unfold lay
  rw [if_neg (by omega), if_pos h, hf]
  rfl
theorem lay_no0 {n : Nat} {t : Tr (n + 2)} {s i : Int} (h : i ≠ ((ls t).length : Int)) (h' : ¬ (i < ((ls t).length : Int) ∧ n = 0)) : lay n t s [i] = none := by
  cases n with
  | zero => unfold lay; rw [if_neg h, if_neg (fun z => h' ⟨z, rfl⟩)]
  | succ n => unfold lay; rw [if_neg h]
theorem lay_no {n : Nat} {t : Tr (n + 2)} {s i j : Int} {r : List Int} (h : ¬ i < ((ls t).length : Int)) : lay n t s (i :: j :: r) = none := by
  cases n with
  | zero => rfl
  | succ n => unfold lay; rw [if_neg h]
theorem lay_in {n : Nat} {t : Tr (n + 3)} {s i j : Int} {r : List Int} {g : Tr (n + 2)} (h : i < ((ls t).length : Int)) (hg : (ls t)[i.toNat]? = some g) : lay (n + 1) t s (i :: j :: r) = (lay n g s (j :: r)).map fun g' => ((ls t).set i.toNat g' : List (Tr (n + 2))) := by
  rw [lay, if_pos h, hg]
  rfl
/-- a list in a tree that is owned: what changes in it changes the tree -/
structure Hole (o : Ow) (G : Hp) (v : V) (n : Nat) (p : List Nat) (a : Addr) (t : Tr (n + 1)) (C : Tr (n + 1) → Tr 4) : Prop where
  at_ : At o G (n + 1) p (.ref a) t
  up : ∀ (o' : Ow) (G1 : Hp) (c : Addr) (pc : List Nat) (ys : List V) (t' : Tr (n + 1)), Same G G1 → Ext o o' G G1 → o c = some pc → p <:+ pc → At o' (upd G1 c (.lst ys)) (n + 1) p (.ref a) t' → At o' (upd G1 c (.lst ys)) 4 [] v (C t')
theorem Hole.top {o : Ow} {G : Hp} {a : Addr} {U : Tr 4} (h : At o G 4 [] (.ref a) U) : Hole o G (.ref a) 3 [] a U id := ⟨h, fun _ _ _ _ _ _ _ _ _ _ k => k⟩
theorem Hole.kid {o : Ow} {G : Hp} {v : V} {n : Nat} {p : List Nat} {a b : Addr} {t : Tr (n + 2)} {g : Tr (n + 1)} {C : Tr (n + 2) → Tr 4} {vs : List V} {i : Nat} (h : Hole o G v (n + 1) p a t C) (dm : Dom o G) (hv : G a = some (.lst vs)) (hw : vs[i]? = some (.ref b)) (hg : (ls t)[i]? = some g) : Hole o G v n (i :: p) b g (fun g' => C ((ls t).set i g' : List (Tr (n + 1)))) := by
  refine ⟨?_, fun o' G1 c pc ys t' s x hc hp k => h.up o' G1 c pc ys _ s x hc ((List.suffix_cons i p).trans hp) (h.at_.up dm hv hw s x hc hp k)⟩
  obtain ⟨w, t2, e1, e2, k⟩ := h.at_.kid hv (List.getElem?_eq_some_iff.mp hw).1
  rw [hw] at e1
  cases e1
  rw [hg] at e2
  cases e2
  exact k
def spIsPath (K : PySem.W.Frag) : Sp := fun vs H Q _ => ∃ p o, vs = [p] ∧ IsP K H p o ∧ ∀ H', Same H H' → Q (.bl o.isSome) H'
def spNewGroup : Sp := fun vs H Q _ => ∃ (s : Int) (n : Nat), vs = [.int s, .int (3 - (n : Int))] ∧ n ≤ 2 ∧ ∀ w H', Same H H' → New H H' (n + 1) w (solo (n + 1) s) → Q w H'
/-- the heap behind a tree that has changed in its own lists -/
structure Chg (o : Ow) (H : Hp) (o' : Ow) (H' : Hp) (v : V) (U' : Tr 4) : Prop where
  kp : ∀ b u, o b = none → H b = some u → H' b = some u
  at_ : At o' H' 4 [] v U'
  dm : Dom o' H'
  nw : ∀ b r, o' b = some r → o b = none → H b = none
def spPutSheet (C : Addr) : Sp := fun vs H Q E => ∃ v s a q, ∃ U : Tr 4, ∃ o : Ow, vs = [v, .int s, .ref a] ∧ At o H 4 [] v U ∧ Dom o H ∧ (∀ g ∈ ls U, full 3 g) ∧ (flat 4 U).length < 63 ∧ H a = some (.tup (q.map V.int)) ∧ (∀ i ∈ q, 0 ≤ i) ∧ 1 ≤ q.length ∧ q.length ≤ 3 ∧
  (lay 2 U s q = none → ∀ H', Same H H' → E (.ref C) none H') ∧ (∀ U', lay 2 U s q = some U' → ∀ o' H', Chg o H o' H' v U' → Q .non H')
def spLaid (K : PySem.W.Frag) (C : Addr) : Sp := fun vs H Q E => ∃ v s p op, ∃ S : Tr 4, vs = [v, .int s, p] ∧ AtR H 4 v S ∧ WF S ∧ (flat 4 S).length < 63 ∧ inR 1000000000 (.int s) = true ∧ IsP K H p op ∧
  (op.bind (lay 2 (wo 3 s S) s) = none → ∀ H', Same H H' → E (.ref C) none H') ∧ (∀ U', op.bind (lay 2 (wo 3 s S) s) = some U' → ∀ w H', Same H H' → New H H' 4 w U' → Q w H')
/-- a tree that was new and has changed is new -/
theorem Chg.new {o o' : Ow} {H0 H H' : Hp} {v : V} {U' : Tr 4} (c : Chg o H o' H' v U') (hn : ∀ a r, o a = some r → H0 a = none) (s : Same H0 H) : New H0 H' 4 v U' ∧ Same H0 H' := by
  refine ⟨⟨o', c.at_, fun a r hr => ⟨?_, c.dm a r hr⟩⟩, fun b u hb => c.kp b u ?_ (s b u hb)⟩
  · cases e : o a with
    | none => exact s.free (c.nw a r hr e)
    | some r' => exact hn a r' e
  · cases e : o b with
    | none => rfl
    | some r' => rw [hn b r' e] at hb; cases hb
theorem ne_take {n : Nat} {xs : List (Tr (n + 1))} {i : Nat} {x : Tr (n + 1)} (h : xs[i]? = some x) : ne (xs.take (i + 1)) = if (ls x).isEmpty = true then ne (xs.take i) else ne (xs.take i) ++ [x] := by
  unfold ne
  rw [take_one h, List.filter_append]
  cases e : (ls x).isEmpty with
  | true => rw [List.filter_cons_of_neg (by rw [e]; decide), List.filter_nil, List.append_nil, if_pos rfl]
  | false => rw [List.filter_cons_of_pos (by rw [e]; rfl), List.filter_nil, if_neg (by decide)]
theorem ne_le {n : Nat} (xs : List (Tr (n + 1))) (i : Nat) : (ne (xs.take i)).length ≤ xs.length := Nat.le_trans (List.length_filter_le _ _) (by rw [List.length_take]; omega)
theorem empty_len {α β : Type} {xs : List α} {ys : List β} (h : xs.length = ys.length) : ys.isEmpty = xs.isEmpty := by
  rw [Bool.eq_iff_iff, List.isEmpty_iff_length_eq_zero, List.isEmpty_iff_length_eq_zero, h]
/-- a list of those that are not empty: one more that is empty -/
theorem _root_.L2.NewL.ne0 {n : Nat} {H G G2 : Hp} {l : Addr} {ws : List V} {us : List (Tr (n + 1))} {i : Nat} {t : Tr (n + 1)} (h : NewL H G l (n + 1) ws (ne (us.take i))) (s : Same G G2) (eu : us[i]? = some t) (he : (ls t).isEmpty = true) : NewL H G2 l (n + 1) ws (ne (us.take (i + 1))) := by
  rw [ne_take eu, if_pos he]
  refine h.frame (fun a xs _ _ e => s a _ e) fun a e => ?_
  cases q : G a with
  | none => exact absurd q e
  | some u => rw [s a u q]; intro z; cases z
/-- one more that is not -/
theorem _root_.L2.NewL.ne1 {n : Nat} {H G G2 : Hp} {l : Addr} {ws : List V} {us : List (Tr (n + 1))} {i : Nat} {t : Tr (n + 1)} {w : V} (h : NewL H G l (n + 1) ws (ne (us.take i))) (hl : H l = none) (h1 : G l = some (.lst ws)) (sG : Same H G) (s : Same G G2) (nw : New G G2 (n + 1) w t) (eu : us[i]? = some t) (he : (ls t).isEmpty = false) :
    Same H (upd G2 l (.lst (ws ++ [w]))) ∧ NewL H (upd G2 l (.lst (ws ++ [w]))) l (n + 1) (ws ++ [w]) (ne (us.take (i + 1))) := by
  rw [ne_take eu, if_neg (by rw [he]; decide)]
  refine ⟨fun b u hb => ?_, ?_⟩
  · rw [upd_ne (ne_of_none hb hl)]
    exact s _ _ (sG _ _ hb)
  refine (h.snoc (some_ne h1) (fun b hb => sG.free hb) (fun b xs _ _ hb => s b _ hb) (fun b hb => ?_) nw).frame (fun b xs nb _ hb => by rw [upd_ne nb]; exact hb) (fun b hb => ?_)
  · cases q : G b with
    | none => exact absurd q hb
    | some u => rw [s b u q]; intro z; cases z
  · by_cases q : b = l
    · rw [q, upd_same]; intro z; cases z
    · rw [upd_ne q]; exact hb
def spLeft : Sp := fun vs H Q _ => ∃ v s, ∃ S : Tr 4, vs = [v, .int s] ∧ AtR H 4 v S ∧ small 4 S ∧ ∀ w H', Same H H' → New H H' 4 w (wo 3 s S) → Q w H'
theorem lay_put : ∀ {n : Nat} {t t' : Tr (n + 2)} {s : Int} {q : List Int}, lay n t s q = some t' → s ∉ flat (n + 2) t → (∀ i ∈ q, 0 ≤ i) → PutG (n + 1) t s t' := by
  intro n
  induction n with
  | zero =>
    intro t t' s q h hs h0
    match q, h with
    | [i], h =>
      by_cases e : i = ((ls t).length : Int)
      · rw [lay_last e] at h
        cases h
        exact PutG.app t s
      · by_cases e2 : i < ((ls t).length : Int)
        · have hi : i.toNat < (ls t).length := by have := h0 i (List.mem_singleton.mpr rfl); omega
          obtain ⟨f, hf⟩ : ∃ f, (ls t)[i.toNat]? = some f := ⟨_, List.getElem?_eq_getElem hi⟩
          rw [lay_form e2 hf] at h
          cases h
          obtain ⟨fl, hfl⟩ : ∃ fl : List Int, fl = f := ⟨f, rfl⟩
          subst hfl
          refine PutG.up (n := 0) (PutG.form (f := fl) (srt_perm _) (srt_pw _) fun z => hs ?_) hf
          exact flat_mem (List.mem_of_getElem? hf) ((List.Perm.of_eq (flat_ints fl)).mem_iff.mpr z)
        · rw [lay_no0 e (fun z => e2 z.1)] at h
          cases h
    | [], h => cases h
    | _ :: _ :: _, h => cases h
  | succ n ih =>
    intro t t' s q h hs h0
    match q, h with
    | [i], h =>
      by_cases e : i = ((ls t).length : Int)
      · rw [lay_last e] at h
        cases h
        exact PutG.app t s
      · rw [lay_no0 e (fun z => by have := z.2; omega)] at h
        cases h
    | i :: j :: r, h =>
      by_cases e2 : i < ((ls t).length : Int)
      · have hi : i.toNat < (ls t).length := by have := h0 i (List.mem_cons_self ..); omega
        obtain ⟨g, hg⟩ : ∃ g, (ls t)[i.toNat]? = some g := ⟨_, List.getElem?_eq_getElem hi⟩
        rw [lay_in e2 hg] at h
        obtain ⟨g', e3, e4⟩ := Option.map_eq_some_iff.mp h
        subst e4
        exact (ih e3 (fun z => hs (flat_mem (List.mem_of_getElem? hg) z)) fun k hk => h0 k (List.mem_cons_of_mem _ hk)).up hg
      · rw [lay_no e2] at h
        cases h
    | [], h => cases h
theorem lay_top {U U' : Tr 4} {s : Int} {q : List Int} (h : lay 2 U s q = some U') (hs : s ∉ flat 4 U) (h0 : ∀ i ∈ q, 0 ≤ i) : Put U s U' := by
  match q, h with
  | [i], h =>
    by_cases e : i = ((ls U).length : Int)
    · rw [lay_last e] at h
      cases h
      exact Put.app U s
    · rw [lay_no0 e (fun z => by have := z.2; omega)] at h
      cases h
  | i :: j :: r, h =>
    by_cases e2 : i < ((ls U).length : Int)
    · have hi : i.toNat < (ls U).length := by have := h0 i (List.mem_cons_self ..); omega
      obtain ⟨g, hg⟩ : ∃ g, (ls U)[i.toNat]? = some g := ⟨_, List.getElem?_eq_getElem hi⟩
      rw [lay_in e2 hg] at h
      obtain ⟨g', e3, e4⟩ := Option.map_eq_some_iff.mp h
      subst e4
      exact (lay_put e3 (fun z => hs (flat_mem (List.mem_of_getElem? hg) z)) fun k hk => h0 k (List.mem_cons_of_mem _ hk)).top hg
    · rw [lay_no e2] at h
      cases h
  | [], h => cases h
theorem wo_not {S : Tr 4} {s : Int} : s ∉ flat 4 (wo 3 s S) := fun z => by
  have e : flat 4 (wo 3 s S) = (flat 4 S).filter (fun x => !decide (x = s)) := flat_wo s 3 S
  rw [e] at z
  have := (List.mem_filter.mp z).2
  simp at this
/-- what is laid by a path is a sorting -/
theorem lay_wf {K : PySem.W.Frag} {H : Hp} {p : V} {op : Option (List Int)} {S U' : Tr 4} {s : Int} (ip : IsP K H p op) (w : WF S) (hs : inR 1000000000 (.int s) = true) (h : op.bind (lay 2 (wo 3 s S) s) = some U') : WF U' ∧ (flat 4 U').length ≤ (flat 4 S).length + 1 := by
  cases op with
  | none => cases h
  | some q =>
    have h : lay 2 (wo 3 s S) s q = some U' := h
    rcases ip with ⟨a, xs, _, _, _, e⟩ | ⟨e, _⟩
    · have pt := lay_top h wo_not (pathQ_is e.symm).2.1
      refine ⟨pt.wf (w.wo s) wo_not hs, ?_⟩
      have l1 := pt.p.length_eq
      have l2 := wo_len S s
      rw [List.length_append] at l1
      have l3 : [s].length = 1 := rfl
      omega
    · cases e
def spDueL (K : PySem.W.Frag) : Sp := fun vs H Q _ => ∃ v s p op, ∃ U : Tr 4, ∃ o : Ow, vs = [v, .int s, p] ∧ At o H 4 [] v U ∧ Dom o H ∧ (∀ g ∈ ls U, full 3 g) ∧ (flat 4 U).length < 63 ∧ IsP K H p op ∧
  (op.bind (lay 2 U s) = none → ∀ H', Same H H' → Q .non H') ∧ (∀ U', op.bind (lay 2 U s) = some U' → ∀ o' H', Chg o H o' H' v U' → Q v H')
def spPathL (K : PySem.W.Frag) : Sp := fun vs H Q _ => ∃ v m, ∃ U : Tr 4, vs = [v, .int m] ∧ AtR H 4 v U ∧ (∀ g ∈ ls U, full 3 g) ∧ ∀ w H' op, Same H H' → IsP K H' w op → Q w H'
def spRefP (K : PySem.W.Frag) : Sp := fun vs H Q _ => ∃ v s p op, ∃ S : Tr 4, vs = [v, .int s, p] ∧ AtR H 4 v S ∧ WF S ∧ (flat 4 S).length < 63 ∧ inR 1000000000 (.int s) = true ∧ IsP K H p op ∧ op.bind (lay 2 (wo 3 s S) s) = none ∧ ∀ H', Same H H' → Q (.bl true) H'
def spRightL (K : PySem.W.Frag) : Sp := fun vs H Q _ => ∃ v s p op, ∃ S : Tr 4, vs = [v, .int s, p] ∧ AtR H 4 v S ∧ WF S ∧ (flat 4 S).length < 63 ∧ inR 1000000000 (.int s) = true ∧ IsP K H p op ∧ ∀ H', Same H H' → Q (.bl true) H'

def spLaw (K : PySem.W.Frag) : Sp := fun vs H Q _ => ∃ (a : Addr) (ns : List Int), vs = [.ref a] ∧ SqL K H a (ns.map V.int) ∧ ns.length ≤ 63 ∧ ∀ H', Q (.bl true) H'

def top (i : Nat) : Stmt := PySem.Challenge.pw_rightname_k45_laid.main.body.getD i (.Pass ⟨0, 0, 0, 0⟩)
abbrev s_is_whole : Stmt := top 7
abbrev s_is_number : Stmt := top 8
abbrev s_sorting_list : Stmt := top 11
abbrev s_group_list : Stmt := top 12
abbrev s_sheet_list : Stmt := top 13
abbrev s_refuse_sheet : Stmt := top 14
abbrev s_without : Stmt := top 15
abbrev s_laid : Stmt := top 16
abbrev s_is_path : Stmt := top 17
abbrev s_put_sheet : Stmt := top 18
abbrev s_new_group : Stmt := top 19
abbrev s_Ldrawn : Stmt := top 21
abbrev s_Lsheet : Stmt := top 22
abbrev s_Lput : Stmt := top 23
abbrev s_Lsorting : Stmt := top 24
abbrev s_Lcopy : Stmt := top 25
abbrev s_Lsame : Stmt := top 26
abbrev s_Lleft : Stmt := top 27
abbrev s_Lpath : Stmt := top 28
abbrev s_Ldue : Stmt := top 29
abbrev s_Lrefused : Stmt := top 30
abbrev s_Lright : Stmt := top 31
abbrev s_law : Stmt := top 32
structure Fn (K : PySem.W.Frag) (mg : Str → Option Value) (x : Str) (st : Stmt) (ps : List Str) (f : Addr) (fd : FuncData) : Prop where
  fn : Fun K x x st f fd
  mgf : mg x = some (.ref f)
  bi : Binds K fd ps []
theorem Fn.kp {K : PySem.W.Frag} {mg : Str → Option Value} {x : Str} {st : Stmt} {ps : List Str} {f : Addr} {fd : FuncData} (F : Fn K mg x st ps f fd) : PySem.W.keepIn K (.ref f) = true := F.fn.kp
set_option genInjectivity false in
set_option genSizeOfSpec false in
set_option genSizeOf false in
structure Ad where
  a_is_whole : Addr
  d_is_whole : FuncData
  a_is_number : Addr
  d_is_number : FuncData
  a_sorting_list : Addr
  d_sorting_list : FuncData
  a_group_list : Addr
  d_group_list : FuncData
  a_sheet_list : Addr
  d_sheet_list : FuncData
  a_refuse_sheet : Addr
  d_refuse_sheet : FuncData
  a_without : Addr
  d_without : FuncData
  a_laid : Addr
  d_laid : FuncData
  a_is_path : Addr
  d_is_path : FuncData
  a_put_sheet : Addr
  d_put_sheet : FuncData
  a_new_group : Addr
  d_new_group : FuncData
  a_Ldrawn : Addr
  d_Ldrawn : FuncData
  a_Lsheet : Addr
  d_Lsheet : FuncData
  a_Lput : Addr
  d_Lput : FuncData
  a_Lsorting : Addr
  d_Lsorting : FuncData
  a_Lcopy : Addr
  d_Lcopy : FuncData
  a_Lsame : Addr
  d_Lsame : FuncData
  a_Lleft : Addr
  d_Lleft : FuncData
  a_Lpath : Addr
  d_Lpath : FuncData
  a_Ldue : Addr
  d_Ldue : FuncData
  a_Lrefused : Addr
  d_Lrefused : FuncData
  a_Lright : Addr
  d_Lright : FuncData
  a_law : Addr
  d_law : FuncData
  u_LAST_NUMBER : Value
  u_FORM_DEPTH : Value
  c_NoSorting : Addr
  c_NoSheet : Addr
  c_NoPath : Addr
  c_RightError : Addr
structure Txt (w : World) (K : PySem.W.Frag) (mg : Str → Option Value) (c : Ad) : Prop where
  is_whole : Fn K mg "is_whole" s_is_whole ["thing"] c.a_is_whole c.d_is_whole
  is_number : Fn K mg "is_number" s_is_number ["thing"] c.a_is_number c.d_is_number
  sorting_list : Fn K mg "sorting_list" s_sorting_list ["sorting"] c.a_sorting_list c.d_sorting_list
  group_list : Fn K mg "group_list" s_group_list ["group", "depth", "seen"] c.a_group_list c.d_group_list
  sheet_list : Fn K mg "sheet_list" s_sheet_list ["sheets", "seen"] c.a_sheet_list c.d_sheet_list
  refuse_sheet : Fn K mg "refuse_sheet" s_refuse_sheet ["sheet"] c.a_refuse_sheet c.d_refuse_sheet
  without : Fn K mg "without" s_without ["parts", "sheet", "depth"] c.a_without c.d_without
  laid : Fn K mg "laid" s_laid ["sorting", "sheet", "path"] c.a_laid c.d_laid
  is_path : Fn K mg "is_path" s_is_path ["thing"] c.a_is_path c.d_is_path
  put_sheet : Fn K mg "put_sheet" s_put_sheet ["parts", "sheet", "path"] c.a_put_sheet c.d_put_sheet
  new_group : Fn K mg "new_group" s_new_group ["sheet", "depth"] c.a_new_group c.d_new_group
  Ldrawn : Fn K mg "_law_drawn" s_Ldrawn ["_law_script", "_law_k"] c.a_Ldrawn c.d_Ldrawn
  Lsheet : Fn K mg "_law_sheet" s_Lsheet ["_law_number", "_law_k"] c.a_Lsheet c.d_Lsheet
  Lput : Fn K mg "_law_put" s_Lput ["_law_sorting_here", "_law_sheet_here", "_law_number"] c.a_Lput c.d_Lput
  Lsorting : Fn K mg "_law_sorting" s_Lsorting ["_law_script", "_law_start", "_law_most"] c.a_Lsorting c.d_Lsorting
  Lcopy : Fn K mg "_law_copy" s_Lcopy ["_law_sorting_here"] c.a_Lcopy c.d_Lcopy
  Lsame : Fn K mg "_law_same" s_Lsame ["_law_found", "_law_due_here"] c.a_Lsame c.d_Lsame
  Lleft : Fn K mg "_law_left" s_Lleft ["_law_sorting_here", "_law_sheet_here"] c.a_Lleft c.d_Lleft
  Lpath : Fn K mg "_law_path" s_Lpath ["_law_left_here", "_law_number"] c.a_Lpath c.d_Lpath
  Ldue : Fn K mg "_law_due" s_Ldue ["_law_left_here", "_law_sheet_here", "_law_path_here"] c.a_Ldue c.d_Ldue
  Lrefused : Fn K mg "_law_refused" s_Lrefused ["_law_sorting_here", "_law_sheet_here", "_law_path_here"] c.a_Lrefused c.d_Lrefused
  Lright : Fn K mg "_law_right" s_Lright ["_law_sorting_here", "_law_sheet_here", "_law_path_here"] c.a_Lright c.d_Lright
  law : Fn K mg "law" s_law ["_law_script"] c.a_law c.d_law
  mg_LAST_NUMBER : mg "LAST_NUMBER" = some c.u_LAST_NUMBER
  rl_LAST_NUMBER : RelV (.int 1000000000) c.u_LAST_NUMBER
  mg_FORM_DEPTH : mg "FORM_DEPTH" = some c.u_FORM_DEPTH
  rl_FORM_DEPTH : RelV (.int 3) c.u_FORM_DEPTH
  mg_NoSorting : mg "NoSorting" = some (.ref c.c_NoSorting)
  mg_NoSheet : mg "NoSheet" = some (.ref c.c_NoSheet)
  mg_NoPath : mg "NoPath" = some (.ref c.c_NoPath)
  mg_RightError : mg "RightError" = some (.ref c.c_RightError)
  x_NoSorting : XCls K c.c_NoSorting
  q_NoSorting : XAsk K c.c_NoSorting
  i_NoSorting_NoPath : PySem.W.kitOne K (.ref c.c_NoSorting) (.ref c.c_NoPath) = some false
  i_NoSorting_ValueError : PySem.W.kitOne K (.ref c.c_NoSorting) (.type "ValueError") = some true
  i_NoSorting_NoSorting : PySem.W.kitOne K (.ref c.c_NoSorting) (.ref c.c_NoSorting) = some true
  i_NoSorting_NoSheet : PySem.W.kitOne K (.ref c.c_NoSorting) (.ref c.c_NoSheet) = some false
  e_NoSorting_RightError : PySem.W.exmOne K (.ref c.c_NoSorting) (.ref c.c_RightError) = some true
  x_NoSheet : XCls K c.c_NoSheet
  q_NoSheet : XAsk K c.c_NoSheet
  i_NoSheet_NoPath : PySem.W.kitOne K (.ref c.c_NoSheet) (.ref c.c_NoPath) = some false
  i_NoSheet_ValueError : PySem.W.kitOne K (.ref c.c_NoSheet) (.type "ValueError") = some true
  i_NoSheet_NoSorting : PySem.W.kitOne K (.ref c.c_NoSheet) (.ref c.c_NoSorting) = some false
  i_NoSheet_NoSheet : PySem.W.kitOne K (.ref c.c_NoSheet) (.ref c.c_NoSheet) = some true
  e_NoSheet_RightError : PySem.W.exmOne K (.ref c.c_NoSheet) (.ref c.c_RightError) = some true
  x_NoPath : XCls K c.c_NoPath
  q_NoPath : XAsk K c.c_NoPath
  i_NoPath_NoPath : PySem.W.kitOne K (.ref c.c_NoPath) (.ref c.c_NoPath) = some true
  i_NoPath_ValueError : PySem.W.kitOne K (.ref c.c_NoPath) (.type "ValueError") = some true
  i_NoPath_NoSorting : PySem.W.kitOne K (.ref c.c_NoPath) (.ref c.c_NoSorting) = some false
  i_NoPath_NoSheet : PySem.W.kitOne K (.ref c.c_NoPath) (.ref c.c_NoSheet) = some false
  e_NoPath_RightError : PySem.W.exmOne K (.ref c.c_NoPath) (.ref c.c_RightError) = some true
  no_len : mg "len" = none
  no_isinstance : mg "isinstance" = none
  no_int : mg "int" = none
  no_bool : mg "bool" = none
  no_list : mg "list" = none
  no_tuple : mg "tuple" = none
  no_sorted : mg "sorted" = none
  no_range : mg "range" = none
  no_min : mg "min" = none
  no_all : mg "all" = none
  no_ValueError : mg "ValueError" = none
theorem sc_is_whole : FnScope ["thing"] ["thing"] (defScope s_is_whole) := ⟨rfl, rfl, rfl, by decide +kernel, rfl, by decide +kernel, by decide +kernel⟩
theorem sc_is_number : FnScope ["thing"] ["thing"] (defScope s_is_number) := ⟨rfl, rfl, rfl, by decide +kernel, rfl, by decide +kernel, by decide +kernel⟩
theorem sc_sorting_list : FnScope ["sorting", "seen"] ["sorting"] (defScope s_sorting_list) := ⟨rfl, rfl, rfl, by decide +kernel, rfl, by decide +kernel, by decide +kernel⟩
theorem sc_group_list : FnScope ["group", "depth", "seen"] ["group", "depth", "seen"] (defScope s_group_list) := ⟨rfl, rfl, rfl, by decide +kernel, rfl, by decide +kernel, by decide +kernel⟩
theorem sc_sheet_list : FnScope ["sheets", "seen", "found", "sheet"] ["sheets", "seen"] (defScope s_sheet_list) := ⟨rfl, rfl, rfl, by decide +kernel, rfl, by decide +kernel, by decide +kernel⟩
theorem sc_refuse_sheet : FnScope ["sheet"] ["sheet"] (defScope s_refuse_sheet) := ⟨rfl, rfl, rfl, by decide +kernel, rfl, by decide +kernel, by decide +kernel⟩
theorem sc_without : FnScope ["parts", "sheet", "depth", "left"] ["parts", "sheet", "depth"] (defScope s_without) := ⟨rfl, rfl, rfl, by decide +kernel, rfl, by decide +kernel, by decide +kernel⟩
theorem sc_laid : FnScope ["sorting", "sheet", "path", "parts", "left"] ["sorting", "sheet", "path"] (defScope s_laid) := ⟨rfl, rfl, rfl, by decide +kernel, rfl, by decide +kernel, by decide +kernel⟩
theorem sc_is_path : FnScope ["thing"] ["thing"] (defScope s_is_path) := ⟨rfl, rfl, rfl, by decide +kernel, rfl, by decide +kernel, by decide +kernel⟩
theorem sc_put_sheet : FnScope ["parts", "sheet", "path", "above", "place", "last"] ["parts", "sheet", "path"] (defScope s_put_sheet) := ⟨rfl, rfl, rfl, by decide +kernel, rfl, by decide +kernel, by decide +kernel⟩
theorem sc_new_group : FnScope ["sheet", "depth", "group", "above"] ["sheet", "depth"] (defScope s_new_group) := ⟨rfl, rfl, rfl, by decide +kernel, rfl, by decide +kernel, by decide +kernel⟩
theorem sc_Ldrawn : FnScope ["_law_script", "_law_k"] ["_law_script", "_law_k"] (defScope s_Ldrawn) := ⟨rfl, rfl, rfl, by decide +kernel, rfl, by decide +kernel, by decide +kernel⟩
theorem sc_Lsheet : FnScope ["_law_number", "_law_k"] ["_law_number", "_law_k"] (defScope s_Lsheet) := ⟨rfl, rfl, rfl, by decide +kernel, rfl, by decide +kernel, by decide +kernel⟩
theorem sc_Lput : FnScope ["_law_sorting_here", "_law_sheet_here", "_law_number", "_law_genus", "_law_clan", "_law_at"] ["_law_sorting_here", "_law_sheet_here", "_law_number"] (defScope s_Lput) := ⟨rfl, rfl, rfl, by decide +kernel, rfl, by decide +kernel, by decide +kernel⟩
theorem sc_Lsorting : FnScope ["_law_script", "_law_start", "_law_most", "_law_sorting_here", "_law_k", "_law_number"] ["_law_script", "_law_start", "_law_most"] (defScope s_Lsorting) := ⟨rfl, rfl, rfl, by decide +kernel, rfl, by decide +kernel, by decide +kernel⟩
theorem sc_Lcopy : FnScope ["_law_sorting_here", "_law_found", "_law_genus", "_law_clan"] ["_law_sorting_here"] (defScope s_Lcopy) := ⟨rfl, rfl, rfl, by decide +kernel, rfl, by decide +kernel, by decide +kernel⟩
theorem sc_Lsame : FnScope ["_law_found", "_law_due_here", "_law_k"] ["_law_found", "_law_due_here"] (defScope s_Lsame) := ⟨rfl, rfl, rfl, by decide +kernel, rfl, by decide +kernel, by decide +kernel⟩
theorem sc_Lleft : FnScope ["_law_sorting_here", "_law_sheet_here", "_law_found", "_law_genus", "_law_kept", "_law_clan", "_law_some_forms", "_law_form", "_law_some"] ["_law_sorting_here", "_law_sheet_here"] (defScope s_Lleft) := ⟨rfl, rfl, rfl, by decide +kernel, rfl, by decide +kernel, by decide +kernel⟩
theorem sc_Lpath : FnScope ["_law_left_here", "_law_number", "_law_i", "_law_j", "_law_more", "_law_some"] ["_law_left_here", "_law_number"] (defScope s_Lpath) := ⟨rfl, rfl, rfl, by decide +kernel, rfl, by decide +kernel, by decide +kernel⟩
theorem sc_Ldue : FnScope ["_law_left_here", "_law_sheet_here", "_law_path_here", "_law_place", "_law_holder"] ["_law_left_here", "_law_sheet_here", "_law_path_here"] (defScope s_Ldue) := ⟨rfl, rfl, rfl, by decide +kernel, rfl, by decide +kernel, by decide +kernel⟩
theorem sc_Lrefused : FnScope ["_law_sorting_here", "_law_sheet_here", "_law_path_here", "_law_caught", "e"] ["_law_sorting_here", "_law_sheet_here", "_law_path_here"] (defScope s_Lrefused) := ⟨rfl, rfl, rfl, by decide +kernel, rfl, by decide +kernel, by decide +kernel⟩
theorem sc_Lright : FnScope ["_law_sorting_here", "_law_sheet_here", "_law_path_here", "_law_handed", "_law_due_here", "_law_found", "_law_genus", "_law_clan", "_law_form"] ["_law_sorting_here", "_law_sheet_here", "_law_path_here"] (defScope s_Lright) := ⟨rfl, rfl, rfl, by decide +kernel, rfl, by decide +kernel, by decide +kernel⟩
theorem sc_law : FnScope ["_law_script", "_law_sorting_here", "_law_sheets", "_law_genus", "_law_clan", "_law_form", "_law_k", "_law_number", "_law_sheet_here", "_law_path_here"] ["_law_script"] (defScope s_law) := ⟨rfl, rfl, rfl, by decide +kernel, rfl, by decide +kernel, by decide +kernel⟩
section
variable {P : Program} {w : World} {K : PySem.W.Frag} {mg : Str → Option Value} {base : Heap} {c : Ad}

set_option maxHeartbeats 4000000 in
theorem ok_is_whole (T : Txt w K mg c) : FnOk P w K mg base CX0 1 c.a_is_whole c.d_is_whole ["thing"] (spW K) := by
  refine T.is_whole.fn.ok sc_is_whole (fun vs H Q E h => ?_) (fun cdv A outer s H vs Q E hr h => ?_)
  · obtain ⟨x, rfl, _⟩ := h
    rfl
  · obtain ⟨x, rfl, ow, k⟩ := h
    refine ⟨_, (pss_one (ps_ret (pe_and (pe_callB call_isiA rfl T.no_isinstance bt_isinstance (pa_cons (pv 0) (pa_cons (pe_bltn (v := .ty "int") rfl T.no_int bt_int rfl) pa_nil))) (pe_one (pe_not (pe_callB call_isiA rfl T.no_isinstance bt_isinstance (pa_cons (pv 0) (pa_cons (pe_bltn (v := .ty "bool") rfl T.no_bool bt_bool rfl) pa_nil)))))))), ?_⟩
    refine ⟨x, rfl, rIsiA.int ow ⟨_, rfl, ?_⟩⟩
    cases x with
    | int i => exact iteT ⟨_, rfl, rIsiA.bool ow ⟨_, rfl, k⟩⟩
    | bl b => exact iteT ⟨_, rfl, rIsiA.bool ow ⟨_, rfl, k⟩⟩
    | _ => exact iteF k

set_option maxHeartbeats 4000000 in
theorem ok_is_number (T : Txt w K mg c) : FnOk P w K mg base CX0 2 c.a_is_number c.d_is_number ["thing"] (spR K 1000000000) := by
  refine T.is_number.fn.ok sc_is_number (fun vs H Q E h => ?_) (fun cdv A outer s H vs Q E hr h => ?_)
  · obtain ⟨x, rfl, _⟩ := h
    rfl
  · obtain ⟨x, rfl, ow, k⟩ := h
    refine ⟨_, (pss_one (ps_ret (pe_and (pe_call (ok_is_whole T) (hr.mono (by decide)) rfl T.is_whole.mgf T.is_whole.kp T.is_whole.bi .nil pass0 (pa_cons (pv 0) pa_nil)) (pe_one (pe_chain op_le op_le pe_int (pv 0) (pe_glob rfl T.mg_LAST_NUMBER T.rl_LAST_NUMBER)))))), ?_⟩
    refine ⟨x, rfl, x, rfl, ow, _, rfl, ?_⟩
    cases x with
    | int i =>
      refine iteT ⟨_, rfl, _, _, rfl, rfl, _, rfl, ?_⟩
      by_cases h1 : 1 ≤ i
      · rw [if_pos (decide_eq_true h1)]
        refine ⟨_, _, rfl, rfl, ?_⟩
        simpa [inR, h1] using k
      · rw [if_neg (by simp [h1])]
        simpa [inR, h1] using k
    | _ => exact iteF k

set_option maxHeartbeats 4000000 in
theorem ok_sheet_list (T : Txt w K mg c) : FnOk P w K mg base (CXx P w) 3 c.a_sheet_list c.d_sheet_list ["sheets", "seen"] (spSheetList) := by
  refine T.sheet_list.fn.okx sc_sheet_list (fun vs H Q E h => ?_) (fun cdv A outer s H vs Q E hr h => ?_)
  · obtain ⟨a, d, ns, kvs, rfl, _⟩ := h
    rfl
  · obtain ⟨a, d, ns, kvs, rfl, hA, hD, hg, hp, hv, hz, k⟩ := h
    refine ⟨_, (pss_cons (ps_set (i := 2) sc_sheet_list.nd rfl (Or.inl rfl) (pe_lst pa_nil))
      (pss_cons (ps_for own_def rfl (pi_list (pv 0)) (pg_name (i := 3) sc_sheet_list.nd rfl (Or.inl rfl))
        (pss_cons (ps_if (pt_not (pt_val (pe_call (ok_is_number T) (hr.mono (by decide)) rfl T.is_number.mgf T.is_number.kp T.is_number.bi .nil pass0 (pa_cons (pv 3) pa_nil))))
        (pss_one (ps_raise T.x_NoSorting rfl rfl T.mg_NoSorting rz_def (pa_cons pe_str pa_nil)))
        pss_nil)
      (pss_cut (ps_if (PW.pt (pw_and (pt_truth (pv 2) (fun _ => rfl)) (pw_and1 (pt_cmpR op_le (pv 3) (pe_ix ix_list (pv 2) (pe_un un_neg pe_int) (fun _ _ => rfl)) (nomark _)))))
        (pss_one (ps_raise T.x_NoSorting rfl rfl T.mg_NoSorting rz_def (pa_cons pe_str pa_nil)))
        pss_nil)
      (pss_cons (ps_if (pt_cmp (pc_din (hu_of hr) (pv 3) (pv 1)))
        (pss_one (ps_raise T.x_NoSorting rfl rfl T.mg_NoSorting rz_def (pa_cons pe_str pa_nil)))
        pss_nil)
      (pss_cons (ps_dput (hu_of hr) (pv 1) (pv 3) pe_bl rfl)
      (pss_one (ps_expr (pe_bm PySem.F.plainAttrs_list PySem.F.slot_list_append PySem.F.type_list_append (MtM.r mt_append) (pv 2) (pa_cons (pv 3) pa_nil)))))))))
      (pss_one (ps_ret (pv 2))))), ?_⟩
    refine ⟨le_ble rfl, fun l hl => ?_⟩
    have nla : a ≠ l := ne_of_none hA hl
    have nld : d ≠ l := ne_of_none hD hl
    refine ⟨_, rfl, a, rfl, ⟨_, SqL.of (by rw [upd_ne nla]; exact hA)⟩, ?_⟩
    refine for_list (xs := ns.map V.int) (fun i σ G => ∃ z kv', σ = [some (.ref a), some (.ref d), some (.ref l), z] ∧ G l = some (.lst ((ns.take i).map V.int)) ∧ G a = some (.lst (ns.map V.int)) ∧ G d = some (.dK kv') ∧ Seen kvs kv' (ns.take i) ∧ FrD d H G) ?_ ?_ ?_ ?_
    · exact ⟨_, kvs, rfl, upd_same, by rw [upd_ne nla]; exact hA, by rw [upd_ne nld]; exact hD, Seen.nil kvs, fun b u _ hb => by rw [upd_ne (ne_of_none hb hl)]; exact hb⟩
    · rintro i σ G _ ⟨z, kv', _, _, h, _⟩
      exact SqL.of h
    · rintro i x σ G hx ⟨z, kv', rfl, h1, h2, h3, h4, h5⟩
      obtain ⟨s, hs, rfl⟩ := getI hx
      have hm := List.mem_of_getElem? hs
      have q : valV kv' (Sum.inl s) = none := (h4.2 s).mpr ⟨hv s hm, nd_take hg.nd hs⟩
      have n1 : l ≠ d := ne_of h1 h3 (by intro z; cases z)
      have n2 : a ≠ d := ne_of h2 h3 (by intro z; cases z)
      have n3 : a ≠ l := nla
      have hi : i < ns.length := (List.getElem?_eq_some_iff.mp hs).1
      have sz : 1000 < sizeLine := le_ble rfl
      have lt : (ns.take i).length = i := by rw [List.length_take]; omega
      have e4 := h4.1
      rw [lt] at e4
      refine ⟨_, rfl, _, rfl, Own.int, _, rfl, ?_⟩
      rw [hg.inn s hm]
      refine iteF ?_
      refine ⟨fun σ' G' => σ' = [some (V.ref a), some (V.ref d), some (V.ref l), some (V.int s)] ∧ G' = G, ?_, ?_⟩
      · refine ⟨_, rfl, _, .inl ⟨_, SqL.of h1, rfl⟩, ?_⟩
        match i, hs, h1 with
        | 0, _, _ => exact iteF ⟨rfl, rfl⟩
        | m + 1, hs, h1 =>
          obtain ⟨p, ep⟩ : ∃ p, ns[m]? = some p := ⟨ns[m], List.getElem?_eq_getElem (by omega)⟩
          rw [take_one ep, List.map_append] at h1
          have lt2 : p < s := by
            obtain ⟨h2', e2⟩ := List.getElem?_eq_some_iff.mp ep
            obtain ⟨h3', e3⟩ := List.getElem?_eq_some_iff.mp hs
            rw [← e2, ← e3]
            exact List.pairwise_iff_getElem.mp hp m (m + 1) h2' h3' (by omega)
          rw [take_one ep, List.map_append]
          have ee : (!(List.map V.int (ns.take m) ++ List.map V.int [p]).isEmpty) = true := by cases List.map V.int (ns.take m) <;> rfl
          rw [ee]
          refine iteT ⟨_, rfl, _, rfl, _, rfl, l, _, _, _, rfl, rfl, SqL.of h1, atI_last _ _, _, _, rfl, rfl, _, rfl, ?_⟩
          rw [decide_eq_false (by omega)]
          exact iteF ⟨rfl, rfl⟩
      rintro σ' G' ⟨rfl, rfl⟩
      refine ⟨_, rfl, _, rfl, d, _, rfl, DGet.k (k := Sum.inl s) h3, ?_⟩
      rw [q]
      refine ⟨_, rfl, iteF ?_⟩
      refine ⟨_, rfl, _, rfl, d, _, rfl, DPut.k (k := Sum.inl s) h3 (by omega), ?_⟩
      refine ⟨_, rfl, .inl ⟨rfl, _, SqL.of (by rw [upd_ne n1]; exact h1)⟩, _, rfl, l, _, _, rfl, rfl, by rw [upd_ne n1]; exact h1, by rw [List.length_map]; omega, ?_⟩
      refine ⟨_, putK kv' (Sum.inl s) (.bl true), rfl, ?_, ?_, ?_, ?_, ?_⟩
      · rw [upd_same, take_one hs, List.map_append]; rfl
      · rw [upd_ne n3, upd_ne n2]; exact h2
      · rw [upd_ne n1.symm, upd_same]
      · rw [take_one hs]; exact h4.put q
      · intro b u nb hb
        rw [upd_ne (fun z => by rw [z, hl] at hb; cases hb), upd_ne nb]
        exact h5 b u nb hb
    · rintro σ G ⟨z, kv', rfl, h1, h2, h3, h4, h5⟩
      rw [List.length_map, List.take_of_length_le (Nat.le_refl _)] at h1 h4
      exact ⟨_, rfl, k l kv' G h5 hl h1 h3 h4⟩

set_option maxHeartbeats 4000000 in
theorem ok_group_list (T : Txt w K mg c) : ∀ n : Nat, FnOk P w K mg base (CXx P w) (4 + n) c.a_group_list c.d_group_list ["group", "depth", "seen"] (spGroupList n)
  | 0 => by
    refine T.group_list.fn.okx sc_group_list (fun vs H Q E h => ?_) (fun cdv A outer s H vs Q E hr h => ?_)
    · obtain ⟨v, d, t, kvs, rfl, _⟩ := h
      rfl
    · obtain ⟨v, d, t, kvs, rfl, hat, hg, hD, hv, hz, k⟩ := h
      refine ⟨_, (pss_cons (ps_if (PW.pt (pw_or (pt_not (pt_val (pe_callB call_isiA rfl T.no_isinstance bt_isinstance (pa_cons (pv 0) (pa_cons (pe_bltn (v := .ty "list") rfl T.no_list bt_list rfl) pa_nil))))) (pw_or1 (pt_cmpR op_eq (pe_callB call_len_seq rfl T.no_len bt_len (pa_cons (pv 0) pa_nil)) pe_int (nomark _)))))
        (pss_one (ps_raise T.x_NoSorting rfl rfl T.mg_NoSorting rz_def (pa_cons pe_str pa_nil)))
        pss_nil)
      (pss_cons (ps_if (pt_cmpR op_eq (pv 1) (pe_glob rfl T.mg_FORM_DEPTH T.rl_FORM_DEPTH) (nomark _))
        (pss_one (ps_ret (pe_callS (ok_sheet_list T) (hr.mono (by decide)) rfl T.sheet_list.mgf T.sheet_list.kp T.sheet_list.bi .nil pass_def (pa_cons (pv 0) (pa_cons (pv 2) pa_nil)))))
        pss_nil)
      (pss_one ps_never))), ?_⟩
      obtain ⟨a, vs, rfl, _, _⟩ := hat.lst
      have hA := AtR.ints (ns := t) hat
      have hne : ls t ≠ [] := hg.fu.1
      refine ⟨_, rfl, rIsiA.ty (.lst hA) rfl ⟨_, rfl, iteF ?_⟩⟩
      refine ⟨_, rfl, a, _, rfl, .inl (SqL.of hA), rfl, _, rfl, ?_⟩
      refine ite2 (fun z => ?_) (fun _ => ?_)
      · exfalso
        have z := V.int.inj (of_decide_eq_true z)
        exact hne (List.length_eq_zero_iff.mp (by exact (List.length_map (f := V.int) (as := t)).symm.trans (Int.ofNat_eq_zero.mp z)))
      
      have e1 := flat_ints t
      refine ⟨_, rfl, rfl, _, rfl, iteT ?_⟩
      refine ⟨_, rfl, _, rfl, a, d, t, kvs, rfl, hA, hD, ⟨e1 ▸ hg.inn, e1 ▸ hg.nd⟩, hg.as, e1 ▸ hv, by rw [← e1]; exact hz, fun l kv' H' f hl h1 h2 h3 => ?_⟩
      exact k _ kv' H' f (New.ints hl h1) h2 (by rw [e1]; exact h3)
  | n + 1 => by
    have ih := ok_group_list T n
    refine T.group_list.fn.okx sc_group_list (fun vs H Q E h => ?_) (fun cdv A outer s H vs Q E hr h => ?_)
    · obtain ⟨v, d, t, kvs, rfl, _⟩ := h
      rfl
    · obtain ⟨v, d, t, kvs, rfl, hat, hg, hD, hv, hz, k⟩ := h
      refine ⟨_, (pss_cons (ps_if (PW.pt (pw_or (pt_not (pt_val (pe_callB call_isiA rfl T.no_isinstance bt_isinstance (pa_cons (pv 0) (pa_cons (pe_bltn (v := .ty "list") rfl T.no_list bt_list rfl) pa_nil))))) (pw_or1 (pt_cmpR op_eq (pe_callB call_len_seq rfl T.no_len bt_len (pa_cons (pv 0) pa_nil)) pe_int (nomark _)))))
        (pss_one (ps_raise T.x_NoSorting rfl rfl T.mg_NoSorting rz_def (pa_cons pe_str pa_nil)))
        pss_nil)
      (pss_cons (ps_if (pt_cmpR op_eq (pv 1) (pe_glob rfl T.mg_FORM_DEPTH T.rl_FORM_DEPTH) (nomark _))
        (pss_one (ps_ret (pe_callS (ok_sheet_list T) (hr.mono (le_k (by decide))) rfl T.sheet_list.mgf T.sheet_list.kp T.sheet_list.bi .nil pass_def (pa_cons (pv 0) (pa_cons (pv 2) pa_nil)))))
        pss_nil)
      (pss_one (ps_ret (pe_comp (N' := ["part", "seen", "depth"]) (js := [none, some 2, some 1]) rfl rfl (by decide +kernel) (by decide +kernel) (free_of ["seen", "depth"] (by decide +kernel) (fm_cons (.inl rfl) (fm_cons (.inl rfl) fm_nil))) (cap_of rfl (fm_cons (fun j e => nomatch e) (fm_cons (fun j e => by cases e; exact ⟨rfl, rfl, .inl rfl⟩) (fm_cons (fun j e => by cases e; exact ⟨rfl, rfl, .inl rfl⟩) fm_nil)))) (pi_list (pv 0)) (fun B => ⟨(pg_name (i := 0) (show List.Nodup (["part", "seen", "depth"] : List Str) by decide +kernel) rfl (Or.inl rfl)), pifs_nil, (pe_callS ih (hr.mono (Nat.le_refl _)) rfl T.group_list.mgf T.group_list.kp T.group_list.bi .nil passE0 (pa_cons (pv 0) (pa_cons (pe_op op_add (pv 2) pe_int) (pa_cons (pv 1) pa_nil))))⟩)))))), ?_⟩
      obtain ⟨a, vs, rfl, hA, hlen⟩ := hat.lst
      have hne : ls t ≠ [] := hg.fu.1
      refine ⟨_, rfl, rIsiA.ty (.lst hA) rfl ⟨_, rfl, iteF ?_⟩⟩
      refine ⟨_, rfl, a, _, rfl, .inl (SqL.of hA), rfl, _, rfl, ?_⟩
      refine ite2 (fun z => ?_) (fun _ => ?_)
      · exfalso
        have z := V.int.inj (of_decide_eq_true z)
        exact hne (List.length_eq_zero_iff.mp (by omega))
      
      refine ⟨_, rfl, rfl, _, rfl, ?_⟩
      refine ite2 (fun z => ?_) (fun _ => ?_)
      · exfalso
        have z := V.int.inj (of_decide_eq_true z)
        omega
      have sz : 1000 < sizeLine := le_ble rfl
      have lz : vs.length ≤ 1000 := by
        have := flat_full (fun g hg' => hg.fu.2 g hg') (ts := ls t)
        have e : (flat (n + 1 + 1) t).length = (flat (n + 1 + 1) (ls t : List (Tr (n + 1)))).length := rfl
        omega
      refine ⟨_, rfl, a, rfl, ⟨_, SqL.of hA⟩, fun l B hl => ?_⟩
      have nla : a ≠ l := ne_of_none hA hl
      have nld : d ≠ l := ne_of_none hD hl
      refine loop_lst (xs := vs) (fun i σ acc G => (∃ o, σ = [o, some (.ref d), some (.int (3 - ((n + 1 : Nat) : Int)))]) ∧ ∃ kv', G l = some (.lst acc) ∧ acc.length = i ∧ G d = some (.dK kv') ∧ Seen kvs kv' (flat (n + 2) ((ls t).take i : List (Tr (n + 1)))) ∧ FrD d H G ∧ NewL H G l (n + 1) acc ((ls t).take i)) (by omega) ?_ ?_ ?_ ?_
      · exact ⟨⟨_, rfl⟩, kvs, upd_same, rfl, by rw [upd_ne nld]; exact hD, Seen.nil kvs, fun b u _ hb => (by rw [upd_ne (ne_of_none hb hl)]; exact hb), NewL.nil⟩
      · rintro i σ acc G hi ⟨_, kv', h1, h2, h3, h4, h5, h6⟩
        exact ⟨h1, SqL.of (h5.lst hD _ _ hA), by omega⟩
      · rintro i x σ acc G hx ⟨⟨o, rfl⟩, kv', h1, h2, h3, h4, h5, h6⟩
        have hi : i < vs.length := (List.getElem?_eq_some_iff.mp hx).1
        obtain ⟨x', t', e1, e2, hk⟩ := hat.kid hA hi
        rw [hx] at e1
        cases e1
        have fn := flat_nd e2 hg.nd
        have fl := flat_len e2
        have e4 := h4.1
        have n1 : l ≠ d := ne_of h1 h3 (by intro z; cases z)
        refine ⟨_, rfl, _, rfl, _, _, rfl, rfl, _, rfl, x, d, t', kv', by show [x, V.int (3 - ((n + 1 : Nat) : Int) + 1), V.ref d] = _; rw [show (3 : Int) - ((n + 1 : Nat) : Int) + 1 = 3 - (n : Int) by omega], hk.keep (h5.lst hD), hg.kid e2, h3, fun s hs => (h4.2 s).mpr ⟨hv s (flat_mem (List.mem_of_getElem? e2) hs), fn.2 s hs⟩, ?_, fun w kv'' G' f nw hd2 sn => ?_⟩
        · have e5 : (flat (n + 1 + 1) t).length = (flat (n + 1 + 1) (ls t : List (Tr (n + 1)))).length := rfl
          have e6 : (flat (n + 2) ((ls t).take i : List (Tr (n + 1)))).length = (flat (n + 1 + 1) ((ls t).take i : List (Tr (n + 1)))).length := rfl
          omega
        have hl2 : G' l = some (.lst acc) := f l _ n1 h1
        refine ⟨hl2, Nx.mk hi ⟨⟨_, rfl⟩, kv'', upd_same, by rw [List.length_append, h2]; rfl, by rw [upd_ne n1.symm]; exact hd2, ?_, ?_, ?_⟩⟩
        · rw [flat_take e2]
          exact h4.more sn
        · exact fun b u nb hb => by
            rw [upd_ne (ne_of_none hb hl)]
            exact f b u nb (h5 b u nb hb)
        · rw [take_one e2]
          have hln : G l ≠ none := by rw [h1]; intro z; cases z
          refine (h6.snoc hln (fun b hb => ?_) (fun b xs _ _ hb => f.lst h3 b xs hb) (f.some hd2) nw).frame (fun b xs nb _ hb => by rw [upd_ne nb]; exact hb) (fun b hb => ?_)
          · cases q : H b with
            | none => rfl
            | some u => exact absurd hb (h5.some h3 b (by rw [q]; intro z; cases z))
          · by_cases q : b = l
            · rw [q, upd_same]; intro z; cases z
            · rw [upd_ne q]; exact hb
      · rintro σ acc G ⟨_, kv', h1, h2, h3, h4, h5, h6⟩
        have et : (ls t).take vs.length = ls t := List.take_of_length_le (by omega)
        rw [et] at h4 h6
        exact k _ kv' G h5 (h6.done hl h1) h3 h4

set_option maxHeartbeats 4000000 in
theorem ok_sorting_list (T : Txt w K mg c) : FnOk P w K mg base (CXx P w) 7 c.a_sorting_list c.d_sorting_list ["sorting"] (spSorting K) := by
  refine T.sorting_list.fn.okx sc_sorting_list (fun vs H Q E h => ?_) (fun cdv A outer s H vs Q E hr h => ?_)
  · obtain ⟨v, S, rfl, _⟩ := h
    rfl
  · obtain ⟨v, S, rfl, hat, wf, hz, k⟩ := h
    refine ⟨_, (pss_cons (ps_if (pt_not (pt_val (pe_callB call_isiA rfl T.no_isinstance bt_isinstance (pa_cons (pv 0) (pa_cons (pe_bltn (v := .ty "list") rfl T.no_list bt_list rfl) pa_nil)))))
        (pss_one (ps_raise T.x_NoSorting rfl rfl T.mg_NoSorting rz_def (pa_cons pe_str pa_nil)))
        pss_nil)
      (pss_cons (ps_set (i := 1) sc_sorting_list.nd rfl (Or.inr rfl) pe_dnewK)
      (pss_one (ps_ret (pe_comp (N' := ["group", "seen"]) (js := [none, some 1]) rfl rfl (by decide +kernel) (by decide +kernel) (free_of ["seen"] (by decide +kernel) (fm_cons (.inl rfl) fm_nil)) (cap_of rfl (fm_cons (fun j e => nomatch e) (fm_cons (fun j e => by cases e; exact ⟨rfl, rfl, .inl rfl⟩) fm_nil))) (pi_list (pv 0)) (fun B => ⟨(pg_name (i := 0) (show List.Nodup (["group", "seen"] : List Str) by decide +kernel) rfl (Or.inl rfl)), pifs_nil, (pe_callS (ok_group_list T 2) (hr.mono (by decide)) rfl T.group_list.mgf T.group_list.kp T.group_list.bi .nil passE0 (pa_cons (pv 0) (pa_cons pe_int (pa_cons (pv 1) pa_nil))))⟩)))))), ?_⟩
    obtain ⟨a, vs, rfl, hA, hlen⟩ := hat.lst
    refine ⟨_, rfl, rIsiA.ty (.lst hA) rfl ⟨_, rfl, iteF ?_⟩⟩
    refine fun d hd => ?_
    have nad : a ≠ d := ne_of_none hA hd
    have hD : upd H d (.dK []) d = some (.dK []) := upd_same
    have sH : Same H (upd H d (.dK [])) := Same.new hd
    have hA1 := sH a _ hA
    have hat1 := hat.same sH
    generalize upd H d (.dK []) = H1 at hD sH hA1 hat1
    have sz : 1000 < sizeLine := le_ble rfl
    have lz : vs.length ≤ 1000 := by
      have := flat_full (fun g hg' => wf.fu g hg') (ts := ls S)
      have e : (flat 4 S).length = (flat 4 (ls S : List (Tr 3))).length := rfl
      have e' : (flat (3 + 1) (ls S)).length = (flat 4 (ls S : List (Tr 3))).length := rfl
      omega
    refine ⟨_, rfl, a, rfl, ⟨_, SqL.of hA1⟩, fun l B hl => ?_⟩
    have nld : d ≠ l := ne_of_none hD hl
    refine loop_lst (xs := vs) (fun i σ acc G => (∃ o, σ = [o, some (.ref d)]) ∧ ∃ kv', G l = some (.lst acc) ∧ acc.length = i ∧ G d = some (.dK kv') ∧ Seen [] kv' (flat 4 ((ls S).take i : List (Tr 3))) ∧ FrD d H1 G ∧ NewL H1 G l 3 acc ((ls S).take i)) (by omega) ?_ ?_ ?_ ?_
    · exact ⟨⟨_, rfl⟩, [], upd_same, rfl, by rw [upd_ne nld]; exact hD, Seen.nil [], fun b u _ hb => (by rw [upd_ne (ne_of_none hb hl)]; exact hb), NewL.nil⟩
    · rintro i σ acc G hi ⟨_, kv', h1, h2, h3, h4, h5, h6⟩
      exact ⟨h1, SqL.of (h5.lst hD _ _ hA1), by omega⟩
    · rintro i x σ acc G hx ⟨⟨o, rfl⟩, kv', h1, h2, h3, h4, h5, h6⟩
      have hi : i < vs.length := (List.getElem?_eq_some_iff.mp hx).1
      obtain ⟨x', t', e1, e2, hk⟩ := hat1.kid hA1 hi
      rw [hx] at e1
      cases e1
      have fn := flat_nd e2 wf.nd
      have fl := flat_len e2
      have e4 := h4.1
      have n1 : l ≠ d := ne_of h1 h3 (by intro z; cases z)
      refine ⟨_, rfl, _, rfl, x, d, t', kv', by show [x, V.int 1, V.ref d] = _; rfl, hk.keep (h5.lst hD), wf.grp e2, h3, fun s hs => (h4.2 s).mpr ⟨rfl, fn.2 s hs⟩, ?_, fun w kv'' G' f nw hd2 sn => ?_⟩
      · have e5 : (flat 4 S).length = (flat (3 + 1) (ls S : List (Tr 3))).length := rfl
        have e6 : (flat 4 ((ls S).take i : List (Tr 3))).length = (flat (3 + 1) ((ls S).take i : List (Tr 3))).length := rfl
        have e7 : (flat (2 + 1) t').length = (flat 3 t').length := rfl
        have e8 : ([] : List (Key × V)).length = 0 := rfl
        omega
      have hl2 : G' l = some (.lst acc) := f l _ n1 h1
      refine ⟨hl2, Nx.mk hi ⟨⟨_, rfl⟩, kv'', upd_same, by rw [List.length_append, h2]; rfl, by rw [upd_ne n1.symm]; exact hd2, ?_, ?_, ?_⟩⟩
      · rw [flat_take e2]
        exact h4.more sn
      · exact fun b u nb hb => by
          rw [upd_ne (ne_of_none hb hl)]
          exact f b u nb (h5 b u nb hb)
      · rw [take_one e2]
        have hln : G l ≠ none := by rw [h1]; intro z; cases z
        refine (h6.snoc hln (fun b hb => ?_) (fun b xs _ _ hb => f.lst h3 b xs hb) (f.some hd2) nw).frame (fun b xs nb _ hb => by rw [upd_ne nb]; exact hb) (fun b hb => ?_)
        · cases q : H1 b with
          | none => rfl
          | some u => exact absurd hb (h5.some h3 b (by rw [q]; intro z; cases z))
        · by_cases q : b = l
          · rw [q, upd_same]; intro z; cases z
          · rw [upd_ne q]; exact hb
    · rintro σ acc G ⟨_, kv', h1, h2, h3, h4, h5, h6⟩
      have et : (ls S).take vs.length = ls S := List.take_of_length_le (by omega)
      rw [et] at h6
      refine k _ G (fun b u hb => h5 b u (fun z => ?_) (sH b u hb)) ((h6.done hl h1).older sH)
      rw [z, hd] at hb
      cases hb

set_option maxHeartbeats 4000000 in
theorem ok_refuse_sheet (T : Txt w K mg c) : FnOk P w K mg base (CXx P w) 3 c.a_refuse_sheet c.d_refuse_sheet ["sheet"] (spRefuse K c.c_NoSheet) := by
  refine T.refuse_sheet.fn.okx sc_refuse_sheet (fun vs H Q E h => ?_) (fun cdv A outer s H vs Q E hr h => ?_)
  · obtain ⟨x, rfl, _⟩ := h
    rfl
  · obtain ⟨x, rfl, ow, k1, k2⟩ := h
    refine ⟨_, (pss_one (ps_if (pt_not (pt_val (pe_call (ok_is_number T) (hr.mono (by decide)) rfl T.is_number.mgf T.is_number.kp T.is_number.bi .nil pass0 (pa_cons (pv 0) pa_nil))))
        (pss_one (ps_raise T.x_NoSheet rfl rfl T.mg_NoSheet rz_def (pa_cons pe_str pa_nil)))
        pss_nil)), ?_⟩
    refine ⟨_, rfl, x, rfl, ow, _, rfl, ?_⟩
    cases hx : inR 1000000000 x with
    | false => exact iteT ⟨le_ble rfl, k2 hx⟩
    | true => exact iteF (k1 hx)

set_option maxHeartbeats 4000000 in
theorem ok_without (T : Txt w K mg c) : ∀ n : Nat, FnOk P w K mg base CX0 (1 + n) c.a_without c.d_without ["parts", "sheet", "depth"] (spWithout n)
  | 0 => by
    refine T.without.fn.ok sc_without (fun vs H Q E h => ?_) (fun cdv A outer s H vs Q E hr h => ?_)
    · obtain ⟨v, s', t, rfl, _⟩ := h
      rfl
    · obtain ⟨v, s', t, rfl, hat, sm, k⟩ := h
      refine ⟨_, (pss_cons (ps_if (pt_cmpR op_eq (pv 2) (pe_glob rfl T.mg_FORM_DEPTH T.rl_FORM_DEPTH) (nomark _))
        (pss_one (ps_ret (pe_comp (N' := ["other", "sheet"]) (js := [none, some 1]) rfl rfl (by decide +kernel) (by decide +kernel) (free_of ["sheet"] (by decide +kernel) (fm_cons (.inl rfl) fm_nil)) (cap_of rfl (fm_cons (fun j e => nomatch e) (fm_cons (fun j e => by cases e; exact ⟨rfl, rfl, .inl rfl⟩) fm_nil))) (pi_list (pv 0)) (fun B => ⟨(pg_name (i := 0) (show List.Nodup (["other", "sheet"] : List Str) by decide +kernel) rfl (Or.inl rfl)), (pifs_one (pt_cmpR op_ne (pv 0) (pv 1) (nomark _))), (pv 0)⟩))))
        pss_nil)
      (pss_cons ps_never
      (pss_one ps_never))), ?_⟩
      obtain ⟨a, vs, rfl, _, _⟩ := hat.lst
      obtain ⟨f, hf⟩ : ∃ f : List Int, f = t := ⟨t, rfl⟩
      subst hf
      have hA := AtR.ints (ns := f) hat
      have sz : 1000 < sizeLine := le_ble rfl
      have lz : f.length ≤ 1000 := sm.1
      refine ⟨_, rfl, rfl, _, rfl, iteT ?_⟩
      refine ⟨_, rfl, a, rfl, ⟨_, SqL.of hA⟩, fun l B hl => ?_⟩
      refine loop_lst (xs := f.map V.int) (fun i σ acc G => (∃ o, σ = [o, some (.int s')]) ∧ Same H G ∧ G l = some (.lst acc) ∧ acc = ((f.take i).filter (fun x => !decide (x = s'))).map V.int) (by rw [List.length_map]; omega) ?_ ?_ ?_ ?_
      · exact ⟨⟨_, rfl⟩, Same.new hl, upd_same, rfl⟩
      · rintro i σ acc G hi ⟨_, sG, h1, h2⟩
        refine ⟨h1, SqL.of (sG _ _ hA), ?_⟩
        rw [h2, List.length_map]
        exact Nat.le_trans (List.length_filter_le _ _) (by rw [List.length_take]; omega)
      · rintro i x σ acc G hx ⟨⟨o, rfl⟩, sG, h1, h2⟩
        obtain ⟨y, hy, rfl⟩ := getI hx
        have hi : i < (f.map V.int).length := (List.getElem?_eq_some_iff.mp hx).1
        refine ⟨_, rfl, _, rfl, rfl, _, rfl, ?_⟩
        refine ite2 (fun z => ?_) (fun z => ?_)
        · have z : y ≠ s' := fun q => by rw [q, decide_eq_true rfl] at z; exact absurd z (by decide)
          refine ⟨_, rfl, h1, Nx.mk hi ⟨⟨_, rfl⟩, fun b u hb => ?_, upd_same, ?_⟩⟩
          · rw [upd_ne (ne_of_none hb hl)]
            exact sG _ _ hb
          · rw [take_one hy, List.filter_append, List.map_append, ← h2]
            simp [z]
        · have z : y = s' := V.int.inj (Decidable.of_not_not (p := V.int y = V.int s') (fun q => z (by rw [decide_eq_false q]; rfl)))
          refine Nx.mk hi ⟨⟨_, rfl⟩, sG, h1, ?_⟩
          rw [take_one hy, List.filter_append, List.map_append, ← h2]
          simp [z]
      · rintro σ acc G ⟨_, sG, h1, h2⟩
        rw [List.length_map, List.take_of_length_le (Nat.le_refl _)] at h2
        subst h2
        exact k _ G sG (New.ints hl h1)
  | n + 1 => by
    have ih := ok_without T n
    refine T.without.fn.ok sc_without (fun vs H Q E h => ?_) (fun cdv A outer s H vs Q E hr h => ?_)
    · obtain ⟨v, s', t, rfl, _⟩ := h
      rfl
    · obtain ⟨v, s', t, rfl, hat, sm, k⟩ := h
      refine ⟨_, (pss_cons (ps_if (pt_cmpR op_eq (pv 2) (pe_glob rfl T.mg_FORM_DEPTH T.rl_FORM_DEPTH) (nomark _))
        (pss_one (ps_ret (pe_comp (N' := ["other", "sheet"]) (js := [none, some 1]) rfl rfl (by decide +kernel) (by decide +kernel) (free_of ["sheet"] (by decide +kernel) (fm_cons (.inl rfl) fm_nil)) (cap_of rfl (fm_cons (fun j e => nomatch e) (fm_cons (fun j e => by cases e; exact ⟨rfl, rfl, .inl rfl⟩) fm_nil))) (pi_list (pv 0)) (fun B => ⟨(pg_name (i := 0) (show List.Nodup (["other", "sheet"] : List Str) by decide +kernel) rfl (Or.inl rfl)), (pifs_one (pt_cmpR op_ne (pv 0) (pv 1) (nomark _))), (pv 0)⟩))))
        pss_nil)
      (pss_cons (ps_setComp (i := 3) sc_without.nd rfl rfl (N' := ["part", "sheet", "depth"]) (js := [none, some 1, some 2]) rfl rfl (by decide +kernel) (by decide +kernel) (free_of ["sheet", "depth"] (by decide +kernel) (fm_cons (.inl rfl) (fm_cons (.inl rfl) fm_nil))) (cap_of rfl (fm_cons (fun j e => nomatch e) (fm_cons (fun j e => by cases e; exact ⟨rfl, rfl, .inl rfl⟩) (fm_cons (fun j e => by cases e; exact ⟨rfl, rfl, .inl rfl⟩) fm_nil)))) (pi_list (pv 0)) (fun B => ⟨(pg_name (i := 0) (show List.Nodup (["part", "sheet", "depth"] : List Str) by decide +kernel) rfl (Or.inl rfl)), pifs_nil, (pe_call ih (hr.mono (Nat.le_refl _)) rfl T.without.mgf T.without.kp T.without.bi .nil pass0 (pa_cons (pv 0) (pa_cons (pv 1) (pa_cons (pe_op op_add (pv 2) pe_int) pa_nil))))⟩))
      (pss_one (ps_ret (pe_comp (N' := ["part"]) (js := [none]) rfl rfl (by decide +kernel) (by decide +kernel) (free_nil (by decide +kernel)) (cap_nil rfl rfl) (pi_list (pv 3)) (fun B => ⟨(pg_name (i := 0) (show List.Nodup (["part"] : List Str) by decide +kernel) rfl (Or.inl rfl)), (pifs_one (pt_truth (pv 0) (fun _ => rfl))), (pv 0)⟩)))))), ?_⟩
      obtain ⟨a, vs, rfl, hA, hlen⟩ := hat.lst
      have sz : 1000 < sizeLine := le_ble rfl
      have lz : vs.length ≤ 1000 := by rw [hlen]; exact sm.1
      refine ⟨_, rfl, rfl, _, rfl, ?_⟩
      refine ite2 (fun z => ?_) (fun _ => ?_)
      · exfalso
        have z := V.int.inj (of_decide_eq_true z)
        omega
      refine ⟨_, rfl, a, rfl, ⟨_, SqL.of hA⟩, fun l B hl => ?_⟩
      obtain ⟨us, hus⟩ : ∃ us : List (Tr (n + 1)), us = (ls t).map (wo n s') := ⟨_, rfl⟩
      have lu : us.length = vs.length := by rw [hus, List.length_map, hlen]
      refine loop_lst (xs := vs) (fun i σ acc G => (∃ o, σ = [o, some (.int s'), some (.int (3 - ((n + 1 : Nat) : Int)))]) ∧ Same H G ∧ G l = some (.lst acc) ∧ acc.length = i ∧ NewL H G l (n + 1) acc (us.take i)) (by omega) ?_ ?_ ?_ ?_
      · exact ⟨⟨_, rfl⟩, Same.new hl, upd_same, rfl, NewL.nil⟩
      · rintro i σ acc G hi ⟨_, sG, h1, h2, _⟩
        exact ⟨h1, SqL.of (sG _ _ hA), by omega⟩
      · rintro i x σ acc G hx ⟨⟨o, rfl⟩, sG, h1, h2, h3⟩
        have hi : i < vs.length := (List.getElem?_eq_some_iff.mp hx).1
        obtain ⟨x', t', e1, e2, hk⟩ := hat.kid hA hi
        rw [hx] at e1
        cases e1
        have eu : us[i]? = some (wo n s' t') := by rw [hus, List.getElem?_map, e2]; rfl
        refine ⟨_, rfl, _, rfl, _, rfl, _, _, rfl, rfl, x, s', t', by show [x, V.int s', V.int (3 - ((n + 1 : Nat) : Int) + 1)] = _; rw [show (3 : Int) - ((n + 1 : Nat) : Int) + 1 = 3 - (n : Int) by omega], hk.same sG, sm.2 t' (List.mem_of_getElem? e2), fun w G' sw nw => ?_⟩
        refine ⟨sw _ _ h1, Nx.mk hi ⟨⟨_, rfl⟩, fun b u hb => ?_, upd_same, by rw [List.length_append, h2]; rfl, ?_⟩⟩
        · rw [upd_ne (ne_of_none hb hl)]
          exact sw _ _ (sG _ _ hb)
        · rw [take_one eu]
          have hln : G l ≠ none := by rw [h1]; intro z; cases z
          refine (h3.snoc hln (fun b hb => sG.free hb) (fun b xs _ _ hb => sw b _ hb) (fun b hb => ?_) nw).frame (fun b xs nb _ hb => by rw [upd_ne nb]; exact hb) (fun b hb => ?_)
          · cases q : G b with
            | none => exact absurd q hb
            | some u => rw [sw b u q]; intro z; cases z
          · by_cases q : b = l
            · rw [q, upd_same]; intro z; cases z
            · rw [upd_ne q]; exact hb
      · rintro σ acc G ⟨_, sG, h1, h2, h3⟩
        have et : us.take vs.length = us := List.take_of_length_le (by omega)
        rw [et] at h3
        have hk : ∀ (j : Nat) x u, acc[j]? = some x → us[j]? = some u → ∃ b xs, x = .ref b ∧ G b = some (.lst xs) ∧ xs.length = (ls u).length := fun j x u hx hu => by
          obtain ⟨_, o, ko, _⟩ := h3
          obtain ⟨b, xs, e, h, l, _⟩ := (ko j x u hx hu).r
          exact ⟨b, xs, e, h, l⟩
        refine ⟨_, rfl, l, rfl, ⟨_, SqL.of h1⟩, fun r B2 hr => ?_⟩
        refine loop_lst (xs := acc) (fun i σ bcc G' => (∃ o, σ = [o]) ∧ Same G G' ∧ G' r = some (.lst bcc) ∧ bcc.length ≤ i ∧ ∃ idx, Pk acc us i idx bcc ((us.take i).filter (fun t : Tr (n + 1) => !(ls t).isEmpty))) (by omega) ?_ ?_ ?_ ?_
        · exact ⟨⟨_, rfl⟩, Same.new hr, upd_same, Nat.le_refl _, [], Pk.nil⟩
        · rintro i σ bcc G' hi ⟨_, sG', g1, g2, _⟩
          exact ⟨g1, SqL.of (sG' _ _ h1), g2⟩
        · rintro i x σ bcc G' hx ⟨⟨o, rfl⟩, sG', g1, g2, idx, g3⟩
          have hi : i < acc.length := (List.getElem?_eq_some_iff.mp hx).1
          have hiu : i < us.length := by omega
          have eu : us[i]? = some us[i] := List.getElem?_eq_getElem hiu
          obtain ⟨b, xs, rfl, hb, lb⟩ := hk i x _ hx eu
          refine ⟨_, rfl, _, .inl ⟨_, SqL.of (sG' _ _ hb), rfl⟩, ?_⟩
          have ee : (ls us[i]).isEmpty = xs.isEmpty := by
            rw [Bool.eq_iff_iff, List.isEmpty_iff_length_eq_zero, List.isEmpty_iff_length_eq_zero, lb]
          cases hxs : xs.isEmpty with
          | true =>
            refine iteF (Nx.mk hi ⟨⟨_, rfl⟩, sG', g1, by omega, idx, ?_⟩)
            rw [take_one eu, List.filter_append, List.filter_cons_of_neg (by rw [ee, hxs]; decide), List.filter_nil, List.append_nil]
            exact g3.drop
          | false =>
            refine iteT ⟨_, rfl, g1, Nx.mk hi ⟨⟨_, rfl⟩, fun c u hc => ?_, upd_same, by rw [List.length_append]; show bcc.length + 1 ≤ i + 1; omega, idx ++ [i], ?_⟩⟩
            · rw [upd_ne (ne_of_none hc hr)]
              exact sG' _ _ hc
            · rw [take_one eu, List.filter_append, List.filter_cons_of_pos (by rw [ee, hxs]; rfl), List.filter_nil]
              exact g3.keep hx eu
        · rintro σ bcc G' ⟨_, sG', g1, g2, idx, g3⟩
          rw [show us.take acc.length = us from List.take_of_length_le (by omega)] at g3
          refine k _ G' (sG.trans sG') ?_
          show New H G' (n + 1 + 1) (.ref r) (List.filter (fun t : Tr (n + 1) => !(ls t).isEmpty) ((ls t).map (wo n s')) : List (Tr (n + 1)))
          rw [← hus]
          exact h3.pick g3 hr (sG.free hr) sG' g1

set_option maxHeartbeats 4000000 in
theorem ok_is_path (T : Txt w K mg c) : FnOk P w K mg base CX0 2 c.a_is_path c.d_is_path ["thing"] (spIsPath K) := by
  refine T.is_path.fn.ok sc_is_path (fun vs H Q E h => ?_) (fun cdv A outer s H vs Q E hr h => ?_)
  · obtain ⟨p, op, rfl, _⟩ := h
    rfl
  · obtain ⟨p, op, rfl, ip, k⟩ := h
    refine ⟨_, (pss_cons (ps_if (PW.pt (pw_or (pt_not (pt_val (pe_callB call_isiA rfl T.no_isinstance bt_isinstance (pa_cons (pv 0) (pa_cons (pe_bltn (v := .ty "tuple") rfl T.no_tuple bt_tuple rfl) pa_nil))))) (pw_or1 (pt_not (pt_chain op_le op_le pe_int (pe_callB call_len_seq rfl T.no_len bt_len (pa_cons (pv 0) pa_nil)) (pe_glob rfl T.mg_FORM_DEPTH T.rl_FORM_DEPTH))))))
        (pss_one (ps_ret pe_bl))
        pss_nil)
      (pss_one (ps_ret (pe_callB (call_all rfl) rfl T.no_all bt_all (pa_cons (pe_comp (N' := ["place"]) (js := [none]) rfl rfl (by decide +kernel) (by decide +kernel) (free_nil (by decide +kernel)) (cap_nil rfl rfl) (pi_tup (pv 0)) (fun B => ⟨(pg_name (i := 0) (show List.Nodup (["place"] : List Str) by decide +kernel) rfl (Or.inl rfl)), pifs_nil, (pe_and (pe_call (ok_is_whole T) (hr.mono (by decide)) rfl T.is_whole.mgf T.is_whole.kp T.is_whole.bi .nil pass0 (pa_cons (pv 0) pa_nil)) (pe_one (pe_cmpR op_ge (pv 0) pe_int (nomark _))))⟩)) pa_nil))))), ?_⟩
    rcases ip with ⟨a, xs, rfl, hx, hp, rfl⟩ | ⟨rfl, ip⟩
    · refine ⟨_, rfl, rIsiA.ty (.tup hx) rfl ⟨_, rfl, iteF ?_⟩⟩
      walk_at "rd"
      refine ⟨a, _, rfl, .inr (SqT.of hx), ?_⟩
      walk_at "rd"
      by_cases h1 : 1 ≤ xs.length
      · refine iteT' (decide_eq_true (by omega)) ?_
        walk_at "rd"
        by_cases h2 : xs.length ≤ 3
        · rw [decide_eq_true (show ((xs.length : Int) ≤ 3) by omega)]
          refine iteF ⟨_, rfl, a, rfl, ⟨_, SqT.of hx⟩, fun l B hl => ?_⟩
          have e0 : pathQ xs = nonN xs := if_pos ⟨h1, h2⟩
          refine loop_tup (xs := xs) (fun i σ acc G => (∃ o, σ = [o]) ∧ Same H G ∧ G l = some (.lst acc) ∧ acc = ((xs.take i).map okP).map V.bl) (by have : 3 ≤ sizeLine := le_ble rfl; omega) ?_ ?_ ?_ ?_
          · exact ⟨⟨_, rfl⟩, Same.new hl, upd_same, rfl⟩
          · rintro i σ acc G hi ⟨_, sG, g1, g2⟩
            refine ⟨g1, SqT.of (sG _ _ hx), ?_⟩
            rw [g2, List.length_map, List.length_map, List.length_take]
            omega
          · rintro i x σ acc G hxi ⟨⟨o, rfl⟩, sG, g1, g2⟩
            have hi : i < xs.length := (List.getElem?_eq_some_iff.mp hxi).1
            have hpx := hp x (List.mem_of_getElem? hxi)
            have fin : ∀ b, b = okP x → G l = some (.lst acc) ∧ Nx xs.length i ((∃ o, ([o].set 0 (some x) : St) = [o]) ∧ Same H (upd G l (.lst (acc ++ [V.bl b]))) ∧ upd G l (.lst (acc ++ [V.bl b])) l = some (.lst (acc ++ [V.bl b])) ∧ acc ++ [V.bl b] = ((xs.take (i + 1)).map okP).map V.bl) := by
              intro b eb
              refine ⟨g1, Nx.mk hi ⟨⟨_, rfl⟩, fun b' u hb => ?_, upd_same, ?_⟩⟩
              · rw [upd_ne (ne_of_none hb hl)]
                exact sG _ _ hb
              · rw [take_one hxi, List.map_append, List.map_append, ← g2, eb]
                rfl
            refine ⟨_, rfl, _, rfl, hpx |> plainV.own, _, rfl, ?_⟩
            cases x with
            | int j =>
              refine iteT ⟨_, rfl, _, _, rfl, rfl, ?_⟩
              exact fin _ rfl
            | _ => exact iteF (fin _ rfl)
          · rintro σ acc G ⟨_, sG, g1, g2⟩
            rw [List.take_of_length_le (Nat.le_refl _)] at g2
            subst g2
            refine ⟨l, xs.map okP, rfl, SqL.of g1, ?_⟩
            have q := k G sG
            rw [e0, nonN_some] at q
            rw [List.all_map]
            exact q
        · rw [decide_eq_false (show ¬ ((xs.length : Int) ≤ 3) by omega)]
          refine iteT ?_
          have e0 : pathQ xs = none := if_neg (fun z => h2 z.2)
          have q := k H (Same.refl H)
          rw [e0] at q
          exact q
      · refine iteF' (decide_eq_false (by omega)) ?_
        have e0 : pathQ xs = none := if_neg (fun z => h1 z.1)
        have q := k H (Same.refl H)
        rw [e0] at q
        exact ⟨_, rfl, iteT q⟩
    · have q := k H (Same.refl H)
      rcases ip with rfl | ⟨i, rfl⟩ | ⟨a, xs, rfl, hx⟩
      · exact ⟨_, rfl, rIsiA.ty .non rfl ⟨_, rfl, iteT q⟩⟩
      · exact ⟨_, rfl, rIsiA.ty (.int i) rfl ⟨_, rfl, iteT q⟩⟩
      · exact ⟨_, rfl, rIsiA.ty (.lst hx) rfl ⟨_, rfl, iteT q⟩⟩

set_option maxHeartbeats 4000000 in
theorem ok_new_group (T : Txt w K mg c) : FnOk P w K mg base CX0 1 c.a_new_group c.d_new_group ["sheet", "depth"] (spNewGroup) := by
  refine T.new_group.fn.ok sc_new_group (fun vs H Q E h => ?_) (fun cdv A outer s H vs Q E hr h => ?_)
  · obtain ⟨s', n, rfl, _⟩ := h
    rfl
  · obtain ⟨s', n, rfl, hn, k⟩ := h
    refine ⟨_, (pss_cons (ps_set (i := 2) sc_new_group.nd rfl (Or.inl rfl) (pe_lst (pa_cons (pv 0) pa_nil)))
      (pss_cons (ps_for PassesOwn.never rfl (pi_range2 rfl T.no_range (pa_cons (pv 1) (pa_cons (pe_glob rfl T.mg_FORM_DEPTH T.rl_FORM_DEPTH) pa_nil))) (pg_name (i := 3) sc_new_group.nd rfl (Or.inl rfl))
        (pss_one (ps_set (i := 2) sc_new_group.nd rfl (Or.inl rfl) (pe_lst (pa_cons (pv 2) pa_nil)))))
      (pss_one (ps_ret (pv 2))))), ?_⟩
    refine ⟨_, rfl, le_ble rfl, fun q1 h1 => ?_⟩
    have n1 : New H (upd H q1 (.lst [.int s'])) 1 (.ref q1) (solo 1 s') := newSolo (New.int (i := s')) h1 (Same.refl H)
    have s1 : Same H (upd H q1 (.lst [.int s'])) := Same.new h1
    generalize upd H q1 (.lst [.int s']) = G1 at n1 s1 ⊢
    walk_at "rd"
    refine ⟨⟨by omega, by omega, by omega, by omega⟩, ?_⟩
    refine for_range (lo := 3 - (n : Int)) (fun j σ G => Same H G ∧ ∃ w z, σ = [some (.int s'), some (.int (3 - (n : Int))), some w, z] ∧ New H G (j + 1) w (solo (j + 1) s')) ⟨s1, _, _, rfl, n1⟩ ?_ ?_
    · rintro j σ G hj ⟨sG, w, z, rfl, nw⟩
      exact ⟨_, rfl, le_ble rfl, fun q hq => ⟨sG.trans (Same.new hq), _, _, rfl, newSolo nw hq sG⟩⟩
    · rintro σ G ⟨sG, w, z, rfl, nw⟩
      rw [show ((3 : Int) - (3 - (n : Int))).toNat = n by omega] at nw
      exact ⟨_, rfl, k w G sG nw⟩

set_option maxHeartbeats 4000000 in
theorem ok_put_sheet (T : Txt w K mg c) : FnOk P w K mg base (CXx P w) 2 c.a_put_sheet c.d_put_sheet ["parts", "sheet", "path"] (spPutSheet c.c_NoPath) := by
  refine T.put_sheet.fn.okx sc_put_sheet (fun vs H Q E h => ?_) (fun cdv A outer s H vs Q E hr h => ?_)
  · obtain ⟨v, s', pa, q, U, o, rfl, _⟩ := h
    rfl
  · obtain ⟨v, s', pa, q, U, o, rfl, hat, dm, fu, hz, hP, h0, l1, l3, k1, k2⟩ := h
    refine ⟨_, (pss_cons (ps_set (i := 3) sc_put_sheet.nd rfl (Or.inl rfl) (pv 0))
      (pss_cons (ps_for own_def rfl (pi_tup (pe_slice sl_tup (pv 2) po_none (po_some (pe_un un_neg pe_int)))) (pg_name (i := 4) sc_put_sheet.nd rfl (Or.inl rfl))
        (pss_cons (ps_if (pt_cmpR op_ge (pv 4) (pe_callB call_len_seq rfl T.no_len bt_len (pa_cons (pv 3) pa_nil)) (nomark _))
        (pss_one (ps_raise T.x_NoPath rfl rfl T.mg_NoPath rz_def (pa_cons pe_str pa_nil)))
        pss_nil)
      (pss_one (ps_set (i := 3) sc_put_sheet.nd rfl (Or.inl rfl) (pe_ix ix_list (pv 3) (pv 4) (fun _ _ => rfl))))))
      (pss_cons (ps_set (i := 5) sc_put_sheet.nd rfl (Or.inl rfl) (pe_ix ix_tup (pv 2) (pe_un un_neg pe_int) (fun _ _ => rfl)))
      (pss_one (ps_if (pt_cmpR op_eq (pv 5) (pe_callB call_len_seq rfl T.no_len bt_len (pa_cons (pv 3) pa_nil)) (nomark _))
        (pss_one (ps_expr (pe_bm PySem.F.plainAttrs_list PySem.F.slot_list_append PySem.F.type_list_append (MtM.r mt_append) (pv 3) (pa_cons (pe_call (ok_new_group T) (hr.mono (by decide)) rfl T.new_group.mgf T.new_group.kp T.new_group.bi .nil pass0 (pa_cons (pv 1) (pa_cons (pe_callB call_len_seq rfl T.no_len bt_len (pa_cons (pv 2) pa_nil)) pa_nil))) pa_nil))))
        (pss_one (ps_if (PW.pt (pw_and (pt_cmpR op_lt (pv 5) (pe_callB call_len_seq rfl T.no_len bt_len (pa_cons (pv 3) pa_nil)) (nomark _)) (pw_and1 (pt_cmpR op_eq (pe_callB call_len_seq rfl T.no_len bt_len (pa_cons (pv 2) pa_nil)) (pe_glob rfl T.mg_FORM_DEPTH T.rl_FORM_DEPTH) (nomark _)))))
        (pss_one (ps_asg (pe_callB (call_sorted rfl) rfl T.no_sorted bt_sorted (pa_cons (pe_op op_cat (pe_ix ix_list (pv 3) (pv 5) (fun _ _ => rfl)) (pe_lst (pa_cons (pv 1) pa_nil))) pa_nil)) (pg_sub (pv 3) (pv 5) set_list)))
        (pss_one (ps_raise T.x_NoPath rfl rfl T.mg_NoPath rz_def (pa_cons pe_str pa_nil)))))))))), ?_⟩
    obtain ⟨r, rvs, rfl, _, _, _⟩ := hat.lst
    have sz : 2000 < sizeLine := le_ble rfl
    have hne : q.map V.int ≠ [] := fun z => by
      have := congrArg List.length z
      rw [List.length_map] at this
      have : q.length = 0 := this
      omega
    refine ⟨_, rfl, ?_⟩
    walk_at "rd"
    refine ⟨pa, _, rfl, SqT.of hP, cut_part hne, fun sp hsp => ?_⟩
    rw [cut_last hne]
    have s0 : Same H (upd H sp (.tup (q.map V.int).dropLast)) := Same.new hsp
    have hsp1 := upd_same (H := H) (a := sp) (o := .tup (q.map V.int).dropLast)
    generalize upd H sp (.tup (q.map V.int).dropLast) = G0 at s0 hsp1 ⊢
    have at0 : At o G0 4 [] (.ref r) U := hat.frame fun b q xs hb _ hx => ⟨s0 b _ hx, hb⟩
    have dm0 : Dom o G0 := fun b q hb => by
      cases e : H b with
      | none => exact absurd e (dm b q hb)
      | some u => rw [s0 b u e]; intro z; cases z
    have hP0 := s0 _ _ hP
    refine ⟨sp, rfl, ⟨_, SqT.of hsp1⟩, ?_⟩
    
    refine for_tup (xs := (q.map V.int).dropLast) (fun i σ G => G = G0 ∧ ∃ a z4, σ = [some (.ref r), some (.int s'), some (.ref pa), some (.ref a), z4, none] ∧ ∃ (n : Nat) (p : List Nat) (t : Tr (n + 2)) (C : Tr (n + 2) → Tr 4), i + n = 2 ∧ Hole o G0 (.ref r) (n + 1) p a t C ∧ (∀ x ∈ ls t, full (n + 1) x) ∧ (flat (n + 2) t).length < 63 ∧ lay 2 U s' q = (lay n t s' (q.drop i)).map C) ?_ ?_ ?_ ?_
    · exact ⟨rfl, r, _, rfl, 2, [], U, id, rfl, Hole.top at0, fu, hz, by rw [List.drop_zero, Option.map_id]; rfl⟩
    · rintro i σ G _ ⟨rfl, _⟩
      exact SqT.of hsp1
    · rintro i x σ G hx ⟨rfl, a, z4, rfl, n, p, t, C, hn, ho, ft, hf, el⟩
      have hi := (List.getElem?_eq_some_iff.mp hx).1
      rw [List.length_dropLast, List.length_map] at hi
      have hx : (q.map V.int)[i]? = some x := by
        rw [List.dropLast_eq_take, List.getElem?_take_of_lt (by rw [List.length_map]; exact hi)] at hx
        exact hx
      obtain ⟨j, hj, rfl⟩ := getI hx
      have j0 := h0 j (List.mem_of_getElem? hj)
      have ed : ∃ j' r', q.drop i = j :: j' :: r' ∧ q.drop (i + 1) = j' :: r' := by
        have hi1 : i < q.length := by omega
        have hi2 : i + 1 < q.length := by omega
        have e1 : q.drop i = q[i] :: q.drop (i + 1) := (List.getElem_cons_drop hi1).symm
        have e2 : q.drop (i + 1) = q[i + 1] :: q.drop (i + 1 + 1) := (List.getElem_cons_drop hi2).symm
        have e3 : q[i] = j := (List.getElem?_eq_some_iff.mp hj).2
        exact ⟨q[i + 1], q.drop (i + 1 + 1), by rw [e1, e2, e3], e2⟩
      obtain ⟨j', r', ed, ed'⟩ := ed
      obtain ⟨_, vs, e, oa, hA, la⟩ := ho.at_.lst
      cases e
      refine ⟨_, rfl, _, rfl, a, _, rfl, .inl (SqL.of hA), _, _, rfl, rfl, _, rfl, ?_⟩
      refine ite2 (fun z => ?_) (fun z => ?_)
      · have z := of_decide_eq_true z
        have el0 : lay 2 U s' q = none := by rw [el, ed, lay_no (by omega)]; rfl
        exact ⟨le_ble rfl, k1 el0 _ s0⟩
      · have z : ¬ ((vs.length : Int) ≤ j) := fun y => z (decide_eq_true y)
        obtain ⟨n', rfl⟩ : ∃ n', n = n' + 1 := ⟨n - 1, by omega⟩
        obtain ⟨w, g, ew, eg, kg⟩ := ho.at_.kid hA (j := j.toNat) (by omega)
        obtain ⟨b, _, rfl, _, _, _⟩ := kg.lst
        have fl := flat_len eg
        refine ⟨_, rfl, _, rfl, a, _, _, _, rfl, rfl, SqL.of hA, atI_toNat j0 ew, ?_⟩
        refine ⟨rfl, b, _, rfl, n', j.toNat :: p, g, _, by omega, ho.kid dm0 hA ew eg, fun x hx => (ft g (List.mem_of_getElem? eg)).2 x hx, ?_, ?_⟩
        · have e5 : (flat (n' + 1 + 2) t).length = (flat (n' + 2 + 1) (ls t : List (Tr (n' + 2)))).length := rfl
          omega
        · rw [el, ed, ed', lay_in (by omega) eg]
          cases lay n' g s' (j' :: r') <;> rfl
    rintro σ G ⟨rfl, a, z4, rfl, n, p, t, C, hn, ho, ft, hf, el⟩
    rw [List.length_dropLast, List.length_map] at hn el
    have hq1 : q.length - 1 < q.length := by omega
    obtain ⟨j, ej⟩ : ∃ j, j = q[q.length - 1] := ⟨_, rfl⟩
    have ed : q.drop (q.length - 1) = [j] := by
      rw [← List.getElem_cons_drop hq1, ← ej, List.drop_of_length_le (by omega)]
    have hl : atI (q.map V.int) (-1) = some (V.int j) := by
      have e : q = q.take (q.length - 1) ++ [j] := by rw [← ed, List.take_append_drop]
      rw [e, List.map_append]
      exact atI_last _ _
    have j0 : 0 ≤ j := h0 j (by rw [ej]; exact List.getElem_mem hq1)
    rw [ed] at el
    obtain ⟨_, vs, e, oa, hA, la⟩ := ho.at_.lst
    cases e
    have lv : vs.length < 63 := by
      have h1 := flat_full (fun x hx => ft x hx) (ts := ls t)
      have e5 : (flat (n + 2) t).length = (flat (n + 1 + 1) (ls t : List (Tr (n + 1)))).length := rfl
      omega
    
    refine ⟨_, rfl, _, rfl, pa, _, _, _, rfl, rfl, SqT.of hP0, hl, ?_⟩
    refine ⟨_, rfl, _, rfl, a, _, rfl, .inl (SqL.of hA), rfl, _, rfl, ?_⟩
    refine ite2 (fun z => ?_) (fun z => ?_)
    · have z : j = (vs.length : Int) := V.int.inj (of_decide_eq_true z)
      refine ⟨_, rfl, .inl ⟨rfl, _, SqL.of hA⟩, _, rfl, _, rfl, pa, _, rfl, .inr (SqT.of hP0), s', n, ?_, by omega, fun w G1 s1 n1 => ?_⟩
      · rw [List.length_map, show ((q.length : Nat) : Int) = 3 - (n : Int) by omega]
        rfl
      obtain ⟨o', x, a1⟩ := ho.at_.appN dm0 hA s1 n1
      have a2 := ho.up o' G1 a p _ _ s1 x oa (List.suffix_refl _) a1
      obtain ⟨e1, e2⟩ := putEnd (u := .lst (vs ++ [w])) x s1 oa
      exact ⟨a, _, _, rfl, rfl, s1 _ _ hA, by omega, k2 _ (by rw [el, lay_last (by omega)]; rfl) o' _ ⟨fun b u hb hu => e1 b u hb (s0 b u hu), a2, x.after dm0 s1, fun b q hq hb => s0.free (e2 b q hq hb)⟩⟩
    have z : j ≠ (vs.length : Int) := fun y => z (decide_eq_true (congrArg V.int y))
    refine ⟨_, rfl, _, rfl, a, _, rfl, .inl (SqL.of hA), _, _, rfl, rfl, _, rfl, ?_⟩
    refine ite2 (fun y => ?_) (fun y => ?_)
    · have y := of_decide_eq_true y
      refine ⟨_, rfl, pa, _, rfl, .inr (SqT.of hP0), rfl, _, rfl, ?_⟩
      refine ite2 (fun x => ?_) (fun x => ?_)
      · have x := V.int.inj (of_decide_eq_true x)
        rw [List.length_map] at x
        obtain rfl : n = 0 := by omega
        obtain ⟨w, f, ew, ef, kf⟩ := ho.at_.kid hA (j := j.toNat) (by omega)
        obtain ⟨fl, hfl⟩ : ∃ fl : List Int, fl = f := ⟨f, rfl⟩
        subst hfl
        obtain ⟨fa, _, rfl, _, _, _⟩ := kf.lst
        have hF := AtR.ints (ns := fl) kf.r
        have hfl : fl.length < 63 := by
          have h1 := flat_len ef
          have h2 := congrArg List.length (flat_ints fl)
          have e5 : (flat (0 + 2) t).length = (flat (1 + 1) (ls t : List (Tr 1))).length := rfl
          omega
        refine ⟨_, rfl, _, rfl, a, _, _, _, rfl, rfl, SqL.of hA, atI_toNat j0 ew, _, rfl, le_ble rfl, fun q1 h1 => ?_⟩
        have s1 : Same G (upd G q1 (.lst [.int s'])) := Same.new h1
        have e60 : (List.map V.int fl).length = fl.length := List.length_map ..
        refine ⟨fa, q1, _, _, rfl, rfl, s1 _ _ hF, upd_same, ?_, fun q2 h2 => ?_⟩
        · have : [V.int s'].length = 1 := rfl
          omega
        have s2 : Same (upd G q1 (.lst [.int s'])) (upd (upd G q1 (.lst [.int s'])) q2 (.lst (List.map V.int fl ++ [.int s']))) := Same.new h2
        refine ⟨q2, List.append fl [s'], rfl, SqL.of (by rw [upd_same]; exact congrArg (fun z => some (HO.lst z)) (List.map_append (f := V.int) (l₁ := fl) (l₂ := [s'])).symm), ?_, fun q3 ms h3 pm ps => ?_⟩
        · show (fl ++ [s']).length < 64
          rw [List.length_append]
          have : [s'].length = 1 := rfl
          omega
        have s3 := (s1.trans s2).trans (Same.new (o := HO.lst (ms.map V.int)) h3)
        have n3 : New G (upd (upd (upd G q1 (.lst [.int s'])) q2 (.lst (List.map V.int fl ++ [.int s']))) q3 (.lst (ms.map V.int))) 1 (.ref q3) ms := New.ints ((s1.trans s2).free h3) upd_same
        obtain ⟨o', x, a1⟩ := ho.at_.setN dm0 hA (i := j.toNat) (by omega) s3 n3
        have a2 := ho.up o' _ a p _ _ s3 x oa (List.suffix_refl _) a1
        obtain ⟨e1, e2⟩ := putEnd (u := .lst (vs.set j.toNat (.ref q3))) x s3 oa
        have hix : ixN vs.length j = some j.toNat := by
          unfold ixN
          rw [if_pos j0, if_pos (by omega)]
        refine ⟨_, rfl, _, rfl, a, _, _, j.toNat, rfl, rfl, s3 _ _ hA, hix, ?_⟩
        exact k2 _ (by rw [el, lay_form (by omega) ef, ← srt_is pm ps]; rfl) o' _ ⟨fun b u hb hu => e1 b u hb (s0 b u hu), a2, x.after dm0 s3, fun b q hq hb => s0.free (e2 b q hq hb)⟩
      · have x : ¬ (q.length = 3) := fun y => x (by rw [List.length_map, y]; rfl)
        exact ⟨le_ble rfl, k1 (by rw [el, lay_no0 (by omega) (fun y => x (by omega))]; rfl) _ s0⟩
    · have y : ¬ (j < (vs.length : Int)) := fun x => y (decide_eq_true x)
      exact ⟨le_ble rfl, k1 (by rw [el, lay_no0 (by omega) (fun x => y (by omega))]; rfl) _ s0⟩

set_option maxHeartbeats 4000000 in
theorem ok_laid (T : Txt w K mg c) : FnOk P w K mg base (CXx P w) 8 c.a_laid c.d_laid ["sorting", "sheet", "path"] (spLaid K c.c_NoPath) := by
  refine T.laid.fn.okx sc_laid (fun vs H Q E h => ?_) (fun cdv A outer s H vs Q E hr h => ?_)
  · obtain ⟨v, s', p, op, S, rfl, _⟩ := h
    rfl
  · obtain ⟨v, s', p, op, S, rfl, hat, wf, hz, hin, ip, k1, k2⟩ := h
    refine ⟨_, (pss_cons (ps_set (i := 3) sc_laid.nd rfl (Or.inl rfl) (pe_callS (ok_sorting_list T) (hr.mono (by decide)) rfl T.sorting_list.mgf T.sorting_list.kp T.sorting_list.bi .nil pass_def (pa_cons (pv 0) pa_nil)))
      (pss_cons (ps_expr (pe_callS (ok_refuse_sheet T) (hr.mono (by decide)) rfl T.refuse_sheet.mgf T.refuse_sheet.kp T.refuse_sheet.bi .nil pass_def (pa_cons (pv 1) pa_nil)))
      (pss_cons (ps_set (i := 4) sc_laid.nd rfl (Or.inl rfl) (pe_call (ok_without T 3) (hr.mono (by decide)) rfl T.without.mgf T.without.kp T.without.bi .nil pass0 (pa_cons (pv 3) (pa_cons (pv 1) (pa_cons pe_int pa_nil)))))
      (pss_cons (ps_if (pt_not (pt_val (pe_call (ok_is_path T) (hr.mono (by decide)) rfl T.is_path.mgf T.is_path.kp T.is_path.bi .nil pass0 (pa_cons (pv 2) pa_nil))))
        (pss_one (ps_raise T.x_NoPath rfl rfl T.mg_NoPath rz_def (pa_cons pe_str pa_nil)))
        pss_nil)
      (pss_cons (ps_expr (pe_callS (ok_put_sheet T) (hr.mono (by decide)) rfl T.put_sheet.mgf T.put_sheet.kp T.put_sheet.bi .nil pass_def (pa_cons (pv 4) (pa_cons (pv 1) (pa_cons (pv 2) pa_nil)))))
      (pss_one (ps_ret (pv 4)))))))), ?_⟩
    have ww := wf.wo s'
    have wl := wo_len S s'
    refine ⟨_, rfl, v, S, rfl, hat, wf, by omega, fun w1 G1 s1 n1 => ?_⟩
    refine ⟨_, rfl, _, rfl, Own.int, fun _ => ?_, fun h => absurd (hin.symm.trans h) (by decide)⟩
    refine ⟨_, rfl, _, rfl, w1, s', S, rfl, n1.r, small_S wf.fu (by omega), fun w2 G2 s2 n2 => ?_⟩
    have n2 := n2.older s1
    refine ⟨_, rfl, p, op, rfl, ip.same (s1.trans s2), fun G3 s3 => ⟨_, rfl, ?_⟩⟩
    have s03 := (s1.trans s2).trans s3
    cases op with
    | none => exact iteT ⟨le_ble rfl, k1 rfl G3 s03⟩
    | some q =>
      refine iteF ?_
      rcases ip with ⟨a, xs, rfl, hx, _, e⟩ | ⟨e, _⟩
      · obtain ⟨rfl, h0, l1, l3⟩ := pathQ_is e.symm
        obtain ⟨o, at2, d2⟩ := n2.same s3
        refine ⟨_, rfl, _, rfl, _, rfl, w2, s', a, q, _, o, rfl, at2, fun b r hb => (d2 b r hb).2, ww.fu, by omega, s03 _ _ hx, h0, l1, l3, fun e2 G4 s4 => k1 e2 G4 (s03.trans s4), fun U' e2 o' G4 ch => ?_⟩
        obtain ⟨nw, sm⟩ := ch.new (fun b r hb => (d2 b r hb).1) s03
        exact ⟨_, rfl, k2 U' e2 w2 G4 sm nw⟩
      · cases e

set_option maxHeartbeats 4000000 in
theorem ok_Ldrawn (T : Txt w K mg c) : FnOk P w K mg base CX0 1 c.a_Ldrawn c.d_Ldrawn ["_law_script", "_law_k"] (spDrawn K) := by
  refine T.Ldrawn.fn.ok sc_Ldrawn (fun vs H Q E h => ?_) (fun cdv A outer s H vs Q E hr h => ?_)
  · obtain ⟨a, i, ns, rfl, _⟩ := h
    rfl
  · obtain ⟨a, i, ns, rfl, h0, h1, h2, hS, k⟩ := h
    refine ⟨_, (pss_cut (ps_if (PW.pt (pw_and (pt_cmpR op_eq (pe_op op_mod (pe_ix ix_list (pv 0) pe_int (fun _ _ => rfl)) pe_int) pe_int (nomark _)) (pw_and1 (pt_cmpR op_gt (pe_ix ix_list (pv 0) (pv 1) (fun _ _ => rfl)) (pe_op op_pow pe_int pe_int) (nomark _)))))
        (pss_one (ps_ret (pe_op op_mod (pe_ix ix_list (pv 0) (pv 1) (fun _ _ => rfl)) (pe_op op_pow pe_int pe_int))))
        pss_nil)
      (pss_one (ps_ret (pe_op op_mod (pe_op op_mul (pe_op op_add (pe_ix ix_list (pv 0) (pv 1) (fun _ _ => rfl)) pe_int) (pe_op op_add pe_int (pe_op op_mul (pe_op op_mul pe_int (pv 1)) (pv 1)))) pe_int)))), ?_⟩
    have hm : (ns.map V.int).length = ns.length := List.length_map ..
    obtain ⟨v0, hv0, hm0⟩ := atI_in (xs := ns.map V.int) (i := 0) (by omega) (by omega)
    obtain ⟨z0, _, rfl⟩ := List.mem_map.mp hm0
    obtain ⟨v1, hv1, hm1⟩ := atI_in (xs := ns.map V.int) (i := i) (by omega) (by omega)
    obtain ⟨z1, _, rfl⟩ := List.mem_map.mp hm1
    have sq : i * i ≤ 100 * 100 := Int.mul_le_mul (by omega) (by omega) (by omega) (by omega)
    have sq0 : 0 ≤ i * i := Int.mul_nonneg h0 h0
    have e3 : 7919 * i * i = 7919 * (i * i) := Int.mul_assoc _ _ _
    refine ⟨fun σ G => G = H ∧ σ = [some (.ref a), some (.int i)], ?_, ?_⟩
    · refine ⟨_, rfl, a, _, _, _, rfl, rfl, hS, hv0, ?_⟩
      walk_at "rd"
      refine ite2 (fun _ => ?_) (fun _ => ⟨rfl, rfl⟩)
      refine ⟨_, rfl, _, rfl, a, _, _, _, rfl, rfl, hS, hv1, ?_⟩
      walk_at "rd"
      refine ite2 (fun _ => ?_) (fun _ => ⟨rfl, rfl⟩)
      refine ⟨_, rfl, _, rfl, a, _, _, _, rfl, rfl, hS, hv1, ?_⟩
      walk_at "rd"
      exact k _ (Int.emod_nonneg _ (by decide))
    rintro σ G ⟨rfl, rfl⟩
    refine ⟨_, rfl, _, rfl, a, _, _, _, rfl, rfl, hS, hv1, ?_⟩
    walk_at "rd"
    refine ⟨.inl ⟨by omega, by omega⟩, ?_⟩
    walk_at "rd"
    refine ⟨.inr ⟨by rw [e3]; omega, by rw [e3]; omega⟩, ?_⟩
    walk_at "rd"
    exact k _ (Int.emod_nonneg _ (by decide))

set_option maxHeartbeats 4000000 in
theorem ok_Lsheet (T : Txt w K mg c) : FnOk P w K mg base CX0 1 c.a_Lsheet c.d_Lsheet ["_law_number", "_law_k"] (spSheet) := by
  refine T.Lsheet.fn.ok sc_Lsheet (fun vs H Q E h => ?_) (fun cdv A outer s H vs Q E hr h => ?_)
  · obtain ⟨m, i, rfl, _⟩ := h
    rfl
  · obtain ⟨m, i, rfl, h0, h1, k⟩ := h
    refine ⟨_, (pss_cons (ps_if (pt_cmpR op_eq (pe_op op_mod (pv 0) pe_int) pe_int (nomark _))
        (pss_one (ps_ret (pe_op op_add (pe_op op_add pe_int (pe_op op_mul pe_int (pe_op op_mod (pe_op op_fdiv (pv 0) pe_int) pe_int))) (pv 1))))
        pss_nil)
      (pss_one (ps_ret (pe_op op_add (pe_op op_add pe_int (pe_op op_mul pe_int (pe_op op_mod (pe_op op_fdiv (pv 0) pe_int) pe_int))) (pv 1))))), ?_⟩
    walk_at "rd"
    refine ite2 (fun _ => ?_) (fun _ => ?_)
    · walk_at "rd"
      exact k _ (by omega) (inR_of (by omega) (by omega))
    · walk_at "rd"
      exact k _ (by omega) (inR_of (by omega) (by omega))

set_option maxHeartbeats 4000000 in
theorem ok_Lput (T : Txt w K mg c) : FnOk P w K mg base CX0 1 c.a_Lput c.d_Lput ["_law_sorting_here", "_law_sheet_here", "_law_number"] (spPut) := by
  refine T.Lput.fn.ok sc_Lput (fun vs H Q E h => ?_) (fun cdv A outer s H vs Q E hr h => ?_)
  · obtain ⟨v, s', m, S, o, rfl, _⟩ := h
    rfl
  · obtain ⟨v, s', m, S, o, rfl, hat, dm, wf, hs, hz, k⟩ := h
    refine ⟨_, (pss_cut (ps_if (PW.pt (pw_or (pt_cmpR (op_eqD (hu62 hr)) (pv 0) (pe_lst pa_nil) (nomark _)) (pw_or1 (pt_cmpR op_eq (pe_op op_mod (pv 2) pe_int) pe_int (nomark _)))))
        (pss_cons (ps_expr (pe_bm PySem.F.plainAttrs_list PySem.F.slot_list_append PySem.F.type_list_append (MtM.r mt_append) (pv 0) (pa_cons (pe_lst (pa_cons (pe_lst (pa_cons (pe_lst (pa_cons (pv 1) pa_nil)) pa_nil)) pa_nil)) pa_nil)))
      (pss_one ps_retN))
        pss_nil)
      (pss_cons (ps_set (i := 3) sc_Lput.nd rfl (Or.inl rfl) (pe_ix ix_list (pv 0) (pe_op op_mod (pe_op op_fdiv (pv 2) pe_int) (pe_callB call_len_seq rfl T.no_len bt_len (pa_cons (pv 0) pa_nil))) (fun _ _ => rfl)))
      (pss_cons (ps_if (pt_cmpR op_eq (pe_op op_mod (pv 2) pe_int) pe_int (nomark _))
        (pss_cons (ps_expr (pe_bm PySem.F.plainAttrs_list PySem.F.slot_list_append PySem.F.type_list_append (MtM.r mt_append) (pv 3) (pa_cons (pe_lst (pa_cons (pe_lst (pa_cons (pv 1) pa_nil)) pa_nil)) pa_nil)))
      (pss_one ps_retN))
        pss_nil)
      (pss_cons (ps_set (i := 4) sc_Lput.nd rfl (Or.inl rfl) (pe_ix ix_list (pv 3) (pe_op op_mod (pe_op op_fdiv (pv 2) pe_int) (pe_callB call_len_seq rfl T.no_len bt_len (pa_cons (pv 3) pa_nil))) (fun _ _ => rfl)))
      (pss_cons (ps_if (pt_cmpR op_eq (pe_op op_mod (pv 2) pe_int) pe_int (nomark _))
        (pss_cons (ps_expr (pe_bm PySem.F.plainAttrs_list PySem.F.slot_list_append PySem.F.type_list_append (MtM.r mt_append) (pv 4) (pa_cons (pe_lst (pa_cons (pv 1) pa_nil)) pa_nil)))
      (pss_one ps_retN))
        pss_nil)
      (pss_cons (ps_set (i := 5) sc_Lput.nd rfl (Or.inl rfl) (pe_op op_mod (pe_op op_fdiv (pv 2) pe_int) (pe_callB call_len_seq rfl T.no_len bt_len (pa_cons (pv 4) pa_nil))))
      (pss_one (ps_asg (pe_callB (call_sorted rfl) rfl T.no_sorted bt_sorted (pa_cons (pe_op op_cat (pe_ix ix_list (pv 4) (pv 5) (fun _ _ => rfl)) (pe_lst (pa_cons (pv 1) pa_nil))) pa_nil)) (pg_sub (pv 4) (pv 5) set_list))))))))), ?_⟩
    obtain ⟨r, vs, rfl, or, hr, hlen⟩ := hat.lst
    have h64 : 64 ≤ sizeLine := le_ble rfl
    have lz : vs.length < 60 := by
      have := flat_full (fun g hg' => wf.fu g hg') (ts := ls S)
      have e : (flat 4 S).length = (flat (3 + 1) (ls S : List (Tr 3))).length := rfl
      omega
    have f0 : ∀ G : Hp, Same H G → ∀ H' : Hp, (∀ b u, o b = none → G b = some u → H' b = some u) → ∀ b u, o b = none → H b = some u → H' b = some u := fun G s0 H' f b u hb hu => f b u hb (s0 b u hu)
    have d0 : ∀ G : Hp, Same H G → ∀ o' : Ow, (∀ b r, o' b = some r → o b = none → G b = none) → ∀ b r, o' b = some r → o b = none → H b = none := fun G s0 o' f b q hq hb => s0.free (f b q hq hb)
    have hat0 : ∀ G : Hp, Same H G → At o G 4 [] (.ref r) S := fun G s0 => hat.frame fun b q xs hb _ hx => ⟨s0 b _ hx, hb⟩
    have dm0 : ∀ G : Hp, Same H G → Dom o G := fun G s0 b q hb => by
      cases e : H b with
      | none => exact absurd e (dm b q hb)
      | some u => rw [s0 b u e]; intro z; cases z
    have caseA : ∀ G, Same H G → ∀ q1 q2 q3, G q1 = none → upd G q1 (.lst [.int s']) q2 = none → upd (upd G q1 (.lst [.int s'])) q2 (.lst [.ref q1]) q3 = none →
        upd (upd (upd G q1 (.lst [.int s'])) q2 (.lst [.ref q1])) q3 (.lst [.ref q2]) r = some (.lst vs) ∧ vs.length < sizeLine ∧ Q .non (upd (upd (upd (upd G q1 (.lst [.int s'])) q2 (.lst [.ref q1])) q3 (.lst [.ref q2])) r (.lst (vs ++ [.ref q3]))) := fun G s0 q1 q2 q3 h1 h2 h3 => by
      have n1 : New G (upd G q1 (.lst [.int s'])) 1 (.ref q1) (solo 1 s') := newSolo (New.int (i := s')) h1 (Same.refl G)
      have n2 := newSolo n1 h2 (Same.new h1)
      have n3 := newSolo n2 h3 ((Same.new h1).trans (Same.new h2))
      have sm := ((Same.new (o := HO.lst [.int s']) h1).trans (Same.new (o := HO.lst [.ref q1]) h2)).trans (Same.new (o := HO.lst [.ref q2]) h3)
      obtain ⟨o', x, at'⟩ := (hat0 G s0).appN (dm0 G s0) (s0 r _ hr) sm n3
      obtain ⟨e1, e2⟩ := putEnd (u := .lst (vs ++ [.ref q3])) x sm or
      exact ⟨sm r _ (s0 r _ hr), by omega, k _ _ o' (f0 G s0 _ e1) at' (x.after (dm0 G s0) sm) (d0 G s0 _ e2) (Put.app S s')⟩
    refine ⟨fun σ' G => σ' = [some (.ref r), some (.int s'), some (.int m), none, none, none] ∧ vs ≠ [] ∧ Same H G, ?_, ?_⟩
    · refine ⟨_, rfl, le_ble rfl, fun e0 he0 => ?_⟩
      have s0 : Same H (upd H e0 (.lst [])) := Same.new he0
      have hr0 := s0 r _ hr
      refine ⟨0, _, by decide, seqNil (SqL.of hr0) (SqL.of upd_same), _, rfl, ?_⟩
      have A := caseA _ s0
      generalize upd H e0 (.lst []) = G at s0 hr0 A
      refine iteB (fun _ => ?_) (fun he => ?_)
      · refine iteT ⟨_, rfl, .inl ⟨rfl, _, SqL.of hr0⟩, _, rfl, le_ble rfl, fun q1 h1 => ⟨le_ble rfl, fun q2 h2 => ⟨le_ble rfl, fun q3 h3 => ?_⟩⟩⟩
        obtain ⟨a1, a2, a3⟩ := A q1 q2 q3 h1 h2 h3
        exact ⟨r, _, _, rfl, rfl, a1, a2, a3⟩
      · walk_at "rd"
        refine ite2 (fun _ => ?_) (fun _ => ?_)
        · refine ⟨_, rfl, .inl ⟨rfl, _, SqL.of hr0⟩, _, rfl, le_ble rfl, fun q1 h1 => ⟨le_ble rfl, fun q2 h2 => ⟨le_ble rfl, fun q3 h3 => ?_⟩⟩⟩
          obtain ⟨a1, a2, a3⟩ := A q1 q2 q3 h1 h2 h3
          exact ⟨r, _, _, rfl, rfl, a1, a2, a3⟩
        · exact ⟨rfl, fun z => (by rw [z] at he; cases he), s0⟩
    rintro σ' G ⟨rfl, hne, s0⟩
    have hr0 := s0 r _ hr
    have at0 := hat0 G s0
    have dmG := dm0 G s0
    have lp : 0 < vs.length := List.length_pos_iff.mpr hne
    walk_at "rd"
    refine ⟨r, _, rfl, .inl (SqL.of hr0), _, _, rfl, rfl, by omega, ?_⟩
    obtain ⟨i, x, hi, hx, ha, _⟩ := atI_ix (xs := vs) (i := m / 5 % (vs.length : Int)) (Int.emod_nonneg _ (by omega)) (Int.emod_lt_of_pos _ (by omega))
    refine ⟨r, _, _, x, rfl, rfl, SqL.of hr0, ha, ?_⟩
    obtain ⟨x', g, e1, eg, kg⟩ := at0.kid hr0 hi
    rw [hx] at e1
    cases e1
    obtain ⟨ga, gs, rfl, og, hg0, glen⟩ := kg.lst
    have gm := List.mem_of_getElem? eg
    have fg := wf.grp eg
    have gz : gs.length < 60 := by
      have h1 := flat_full (fun c hc => fg.fu.2 c hc) (ts := ls g)
      have h2 := flat_len eg
      have e : (flat 4 S).length = (flat (3 + 1) (ls S : List (Tr 3))).length := rfl
      have e' : (flat 3 g).length = (flat (2 + 1) (ls g : List (Tr 2))).length := rfl
      omega
    have gp : 0 < gs.length := by
      rw [glen]
      exact List.length_pos_iff.mpr fg.fu.1
    walk_at "rd"
    refine ite2 (fun _ => ?_) (fun _ => ?_)
    · refine ⟨_, rfl, .inl ⟨rfl, _, SqL.of hg0⟩, _, rfl, le_ble rfl, fun q1 h1 => ⟨le_ble rfl, fun q2 h2 => ?_⟩⟩
      have n1 : New G (upd G q1 (.lst [.int s'])) 1 (.ref q1) (solo 1 s') := newSolo (New.int (i := s')) h1 (Same.refl G)
      have n2 := newSolo n1 h2 (Same.new h1)
      have sm := (Same.new (o := HO.lst [.int s']) h1).trans (Same.new (o := HO.lst [.ref q1]) h2)
      obtain ⟨o', x, a1⟩ := kg.appN dmG hg0 sm n2
      have a2 := at0.up dmG hr0 hx sm x og (List.suffix_refl _) a1
      obtain ⟨e1, e2⟩ := putEnd (u := .lst (gs ++ [.ref q2])) x sm og
      exact ⟨ga, _, _, rfl, rfl, sm _ _ hg0, by omega, k _ _ o' (f0 G s0 _ e1) a2 (x.after dmG sm) (d0 G s0 _ e2) ((PutG.app g s').top eg)⟩
    walk_at "rd"
    refine ⟨ga, _, rfl, .inl (SqL.of hg0), _, _, rfl, rfl, by omega, ?_⟩
    obtain ⟨j, y, hj, hy, hb, _⟩ := atI_ix (xs := gs) (i := m / 500 % (gs.length : Int)) (Int.emod_nonneg _ (by omega)) (Int.emod_lt_of_pos _ (by omega))
    refine ⟨ga, _, _, y, rfl, rfl, SqL.of hg0, hb, ?_⟩
    obtain ⟨y', c', e1, ec, kc⟩ := kg.kid hg0 hj
    rw [hy] at e1
    cases e1
    obtain ⟨ca, cs, rfl, oc, hc0, clen⟩ := kc.lst
    have fc := fg.kid ec
    have cz : cs.length < 60 := by
      have h1 := flat_full (fun c hc => fc.fu.2 c hc) (ts := ls c')
      have h2 := flat_len eg
      have h3 := flat_len ec
      have e : (flat 4 S).length = (flat (3 + 1) (ls S : List (Tr 3))).length := rfl
      have e' : (flat 3 g).length = (flat (2 + 1) (ls g : List (Tr 2))).length := rfl
      have e'' : (flat 2 c').length = (flat (1 + 1) (ls c' : List (Tr 1))).length := rfl
      omega
    have cp : 0 < cs.length := by
      rw [clen]
      exact List.length_pos_iff.mpr fc.fu.1
    walk_at "rd"
    refine ite2 (fun _ => ?_) (fun _ => ?_)
    · refine ⟨_, rfl, .inl ⟨rfl, _, SqL.of hc0⟩, _, rfl, le_ble rfl, fun q1 h1 => ?_⟩
      have n1 : New G (upd G q1 (.lst [.int s'])) 1 (.ref q1) (solo 1 s') := newSolo (New.int (i := s')) h1 (Same.refl G)
      have sm := Same.new (o := HO.lst [.int s']) h1
      obtain ⟨o', x, a1⟩ := kc.appN dmG hc0 sm n1
      have a2 := kg.up dmG hg0 hy sm x oc (List.suffix_refl _) a1
      have a3 := at0.up dmG hr0 hx sm x oc (List.suffix_cons _ _) a2
      obtain ⟨e1, e2⟩ := putEnd (u := .lst (cs ++ [.ref q1])) x sm oc
      exact ⟨ca, _, _, rfl, rfl, sm _ _ hc0, by omega, k _ _ o' (f0 G s0 _ e1) a3 (x.after dmG sm) (d0 G s0 _ e2) (((PutG.app c' s').up ec).top eg)⟩
    walk_at "rd"
    refine ⟨ca, _, rfl, .inl (SqL.of hc0), _, _, rfl, rfl, by omega, ?_⟩
    obtain ⟨l, z, hl, hz', hd, hn⟩ := atI_ix (xs := cs) (i := m / 50000 % (cs.length : Int)) (Int.emod_nonneg _ (by omega)) (Int.emod_lt_of_pos _ (by omega))
    obtain ⟨z', f, e1, ef, kf⟩ := kc.kid hc0 hl
    rw [hz'] at e1
    cases e1
    obtain ⟨fl, hfl⟩ : ∃ fl : List Int, fl = f := ⟨f, rfl⟩
    subst hfl
    obtain ⟨fa, fs, rfl, of, hf0, flen⟩ := kf.lst
    have hfi := AtR.ints (ns := fl) kf.r
    refine ⟨_, rfl, _, rfl, ca, _, _, _, rfl, rfl, SqL.of hc0, hd, _, rfl, le_ble rfl, fun q1 h1 => ?_⟩
    have fz : fl.length < 60 := by
      have h2 := flat_len eg
      have h3 := flat_len ec
      have h4 := flat_len ef
      have e : (flat 4 S).length = (flat (3 + 1) (ls S : List (Tr 3))).length := rfl
      have e' : (flat 3 g).length = (flat (2 + 1) (ls g : List (Tr 2))).length := rfl
      have e'' : (flat 2 c').length = (flat (1 + 1) (ls c' : List (Tr 1))).length := rfl
      have e3 := congrArg List.length (flat_ints fl)
      omega
    have s1 : Same G (upd G q1 (.lst [.int s'])) := Same.new h1
    have e60 : (List.map V.int fl).length = fl.length := List.length_map ..
    refine ⟨fa, q1, _, _, rfl, rfl, s1 _ _ hfi, upd_same, ?_, fun q2 h2 => ?_⟩
    · have : [V.int s'].length = 1 := rfl
      omega
    have s2 : Same (upd G q1 (.lst [.int s'])) (upd (upd G q1 (.lst [.int s'])) q2 (.lst (List.map V.int fl ++ [.int s']))) := Same.new h2
    refine ⟨q2, fl ++ [s'], rfl, SqL.of (by rw [upd_same, List.map_append]; rfl), ?_, fun q3 ms h3 pm ps => ?_⟩
    · rw [List.length_append]
      have : [s'].length = 1 := rfl
      omega
    have s3 := (s1.trans s2).trans (Same.new (o := HO.lst (ms.map V.int)) h3)
    have n3 : New G (upd (upd (upd G q1 (.lst [.int s'])) q2 (.lst (List.map V.int fl ++ [.int s']))) q3 (.lst (ms.map V.int))) 1 (.ref q3) ms := New.ints ((s1.trans s2).free h3) upd_same
    obtain ⟨o', x, a1⟩ := kc.setN dmG hc0 hl s3 n3
    have a2 := kg.up dmG hg0 hy s3 x oc (List.suffix_refl _) a1
    have a3 := at0.up dmG hr0 hx s3 x oc (List.suffix_cons _ _) a2
    obtain ⟨e1, e2⟩ := putEnd (u := .lst (cs.set l (.ref q3))) x s3 oc
    have nf : s' ∉ fl := fun z => hs (flat_mem (List.mem_of_getElem? eg) (flat_mem (List.mem_of_getElem? ec) (flat_mem (List.mem_of_getElem? ef) ((List.Perm.of_eq (flat_ints fl)).mem_iff.mpr z))))
    refine ⟨_, rfl, _, rfl, ca, _, _, l, rfl, rfl, s3 _ _ hc0, hn, ?_⟩
    exact k _ _ o' (f0 G s0 _ e1) a3 (x.after dmG s3) (d0 G s0 _ e2) (((PutG.form pm ps nf).up ef |>.up ec).top eg)

set_option maxHeartbeats 4000000 in
theorem ok_Lsorting (T : Txt w K mg c) : FnOk P w K mg base CX0 2 c.a_Lsorting c.d_Lsorting ["_law_script", "_law_start", "_law_most"] (spLSort K) := by
  refine T.Lsorting.fn.ok sc_Lsorting (fun vs H Q E h => ?_) (fun cdv A outer s H vs Q E hr h => ?_)
  · obtain ⟨a, ns, mx, rfl, _⟩ := h
    rfl
  · obtain ⟨a, ns, mx, rfl, m0, m1, hS, hn, k⟩ := h
    refine ⟨_, (pss_cons (ps_set (i := 3) sc_Lsorting.nd rfl (Or.inl rfl) (pe_lst pa_nil))
      (pss_cons (ps_for PassesOwn.never rfl (pi_range2 rfl T.no_range (pa_cons (pv 1) (pa_cons (pe_callB (call_min2 rfl) rfl T.no_min bt_min (pa_cons (pe_callB call_len_seq rfl T.no_len bt_len (pa_cons (pv 0) pa_nil)) (pa_cons (pv 2) pa_nil))) pa_nil))) (pg_name (i := 4) sc_Lsorting.nd rfl (Or.inl rfl))
        (pss_cons (ps_set (i := 5) sc_Lsorting.nd rfl (Or.inl rfl) (pe_call (ok_Ldrawn T) (hr.mono (by decide)) rfl T.Ldrawn.mgf T.Ldrawn.kp T.Ldrawn.bi .nil pass0 (pa_cons (pv 0) (pa_cons (pv 4) pa_nil))))
      (pss_one (ps_expr (pe_call (ok_Lput T) (hr.mono (by decide)) rfl T.Lput.mgf T.Lput.kp T.Lput.bi .nil pass0 (pa_cons (pv 3) (pa_cons (pe_call (ok_Lsheet T) (hr.mono (by decide)) rfl T.Lsheet.mgf T.Lsheet.kp T.Lsheet.bi .nil pass0 (pa_cons (pe_op op_fdiv (pv 5) pe_int) (pa_cons (pv 4) pa_nil))) (pa_cons (pe_op op_add (pe_op op_fdiv (pv 5) pe_int) (pe_op op_fdivB (pv 5) (pe_op op_pow pe_int pe_int))) pa_nil))))))))
      (pss_one (ps_ret (pv 3))))), ?_⟩
    have h64 : 64 ≤ sizeLine := le_ble rfl
    refine ⟨le_ble rfl, fun r hr => ?_⟩
    have lm : (ns.map V.int).length = ns.length := List.length_map ..
    have s0 : Same H (upd H r (.lst [])) := Same.new hr
    walk_at "rd"
    refine ⟨a, _, rfl, .inl (s0.seq hS), ?_⟩
    walk_at "rd"
    have hm2 : (if mx < ((ns.map V.int).length : Int) then mx else ((ns.map V.int).length : Int)) ≤ ns.length ∧ (if mx < ((ns.map V.int).length : Int) then mx else ((ns.map V.int).length : Int)) ≤ mx ∧ 0 ≤ (if mx < ((ns.map V.int).length : Int) then mx else ((ns.map V.int).length : Int)) := by
      split <;> omega
    generalize (if mx < ((ns.map V.int).length : Int) then mx else ((ns.map V.int).length : Int)) = hi at hm2
    refine ⟨⟨by decide, by decide, by omega, by omega⟩, ?_⟩
    refine for_range (lo := 1) (fun i σ G => Same H G ∧ ∃ z4 z5, σ = [some (.ref a), some (.int 1), some (.int mx), some (.ref r), z4, z5] ∧ ∃ (S : Tr 4) (o : Ow), At o G 4 [] (.ref r) S ∧ Dom o G ∧ (∀ b q, o b = some q → H b = none) ∧ WF S ∧ (∀ x ∈ flat 4 S, (x - 1) % 64 < 1 + (i : Int)) ∧ (flat 4 S).length = i) ?_ ?_ ?_
    · refine ⟨s0, _, _, rfl, ([] : List (Tr 3)), fun b => if b = r then some [] else none, ⟨r, [], rfl, if_pos rfl, upd_same, rfl, fun j w t hw => ?_⟩, fun b q hb => ?_, fun b q hb => ?_, WF.nil, fun x hx => absurd (show x ∈ ([] : List Int) from hx) List.not_mem_nil, rfl⟩
      · rw [List.getElem?_nil] at hw; cases hw
      · have hb : (if b = r then some [] else none) = some q := hb
        by_cases e : b = r
        · rw [e, upd_same]; intro z; cases z
        · rw [if_neg e] at hb; cases hb
      · have hb : (if b = r then some [] else none) = some q := hb
        by_cases e : b = r
        · rw [e]; exact hr
        · rw [if_neg e] at hb; cases hb
    · rintro i σ G hi' ⟨sG, z4, z5, rfl, S, o, at0, dm, fr, wf, hx, hl⟩
      refine ⟨_, rfl, _, rfl, a, 1 + (i : Int), ns, rfl, by omega, by omega, hn, sG.seq hS, fun d d0 => ?_⟩
      walk_at "rd"
      refine ⟨by omega, by omega, fun x x1 x2 => ?_⟩
      walk_at "rd"
      have nx : x ∉ flat 4 S := fun z => by have := hx x z; omega
      refine ⟨_, _, _, S, o, rfl, at0, dm, wf, nx, by omega, fun G' S' o' f at' dm' dn pt => ?_⟩
      have sG' : Same H G' := fun b u hb => f b u (by
        cases e : o b with
        | none => rfl
        | some q => rw [fr b q e] at hb; cases hb) (sG b u hb)
      refine ⟨sG', _, _, rfl, S', o', at', dm', fun b q hq => ?_, pt.wf wf nx x2, fun y hy => ?_, ?_⟩
      · cases e : o b with
        | none => exact sG.free (dn b q hq e)
        | some q' => exact fr b q' e
      · rcases List.mem_append.mp (pt.p.mem_iff.mp hy) with z | z
        · have := hx y z; omega
        · rw [List.mem_singleton.mp z, x1]; omega
      · have := pt.p.length_eq
        rw [List.length_append] at this
        have e1 : [x].length = 1 := rfl
        omega
    · rintro σ G ⟨sG, z4, z5, rfl, S, o, at0, dm, fr, wf, hx, hl⟩
      exact ⟨_, rfl, k _ G S sG ⟨o, at0, fun b q hq => ⟨fr b q hq, dm b q hq⟩⟩ wf (by omega)⟩

set_option maxHeartbeats 4000000 in
theorem ok_Lsame (T : Txt w K mg c) : ∀ n : Nat, FnOk P w K mg base CX0 (1 + n) c.a_Lsame c.d_Lsame ["_law_found", "_law_due_here"] (spSame n)
  | 0 => by
    refine T.Lsame.fn.ok sc_Lsame (fun vs H Q E h => ?_) (fun cdv A outer s H vs Q E hr h => ?_)
    · obtain ⟨v, w, t, rfl, _⟩ := h
      rfl
    · obtain ⟨v, w, t, rfl, hv, hw, sm, k⟩ := h
      refine ⟨_, (pss_cons (ps_if (pt_val (pe_callB call_isiA rfl T.no_isinstance bt_isinstance (pa_cons (pv 1) (pa_cons (pe_bltn (v := .ty "list") rfl T.no_list bt_list rfl) pa_nil))))
        (pss_cons (ps_if (PW.pt (pw_or (pt_not (pt_val (pe_callB call_isiA rfl T.no_isinstance bt_isinstance (pa_cons (pv 0) (pa_cons (pe_bltn (v := .ty "list") rfl T.no_list bt_list rfl) pa_nil))))) (pw_or1 (pt_cmpR op_ne (pe_callB call_len_seq rfl T.no_len bt_len (pa_cons (pv 0) pa_nil)) (pe_callB call_len_seq rfl T.no_len bt_len (pa_cons (pv 1) pa_nil)) (nomark _)))))
        (pss_one (ps_ret pe_bl))
        pss_nil)
      (pss_cons ps_never
      (pss_one (ps_ret pe_bl))))
        pss_nil)
      (pss_one (ps_ret (pe_and (pe_callB call_isiA rfl T.no_isinstance bt_isinstance (pa_cons (pv 0) (pa_cons (pe_bltn (v := .ty "int") rfl T.no_int bt_int rfl) pa_nil))) (pe_and (pe_not (pe_callB call_isiA rfl T.no_isinstance bt_isinstance (pa_cons (pv 0) (pa_cons (pe_bltn (v := .ty "bool") rfl T.no_bool bt_bool rfl) pa_nil)))) (pe_one (pe_cmpR op_eq (pv 0) (pv 1) (nomark _)))))))), ?_⟩
      obtain rfl : v = .int t := hv
      obtain rfl : w = .int t := hw
      refine ⟨_, rfl, rIsiA.ty (.int t) rfl ⟨_, rfl, iteF ?_⟩⟩
      refine ⟨_, rfl, rIsiA.ty (.int t) rfl ⟨_, rfl, iteT ⟨_, rfl, rIsiA.ty (.int t) rfl ⟨_, rfl, _, rfl, iteT ?_⟩⟩⟩⟩
      refine ⟨_, rfl, _, rfl, rfl, ?_⟩
      show Q (V.bl (decide (V.int t = V.int t))) H
      rw [decide_eq_true rfl]
      exact k
  | n + 1 => by
    have ih := ok_Lsame T n
    refine T.Lsame.fn.ok sc_Lsame (fun vs H Q E h => ?_) (fun cdv A outer s H vs Q E hr h => ?_)
    · obtain ⟨v, w, t, rfl, _⟩ := h
      rfl
    · obtain ⟨v, w, t, rfl, hv, hw, sm, k⟩ := h
      refine ⟨_, (pss_cons (ps_if (pt_val (pe_callB call_isiA rfl T.no_isinstance bt_isinstance (pa_cons (pv 1) (pa_cons (pe_bltn (v := .ty "list") rfl T.no_list bt_list rfl) pa_nil))))
        (pss_cons (ps_if (PW.pt (pw_or (pt_not (pt_val (pe_callB call_isiA rfl T.no_isinstance bt_isinstance (pa_cons (pv 0) (pa_cons (pe_bltn (v := .ty "list") rfl T.no_list bt_list rfl) pa_nil))))) (pw_or1 (pt_cmpR op_ne (pe_callB call_len_seq rfl T.no_len bt_len (pa_cons (pv 0) pa_nil)) (pe_callB call_len_seq rfl T.no_len bt_len (pa_cons (pv 1) pa_nil)) (nomark _)))))
        (pss_one (ps_ret pe_bl))
        pss_nil)
      (pss_cons (ps_for PassesOwn.never rfl (pi_range1 rfl T.no_range (pa_cons (pe_callB call_len_seq rfl T.no_len bt_len (pa_cons (pv 1) pa_nil)) pa_nil)) (pg_name (i := 2) sc_Lsame.nd rfl (Or.inl rfl))
        (pss_one (ps_if (pt_not (pt_val (pe_call ih (hr.mono (Nat.le_refl _)) rfl T.Lsame.mgf T.Lsame.kp T.Lsame.bi .nil pass0 (pa_cons (pe_ix ix_list (pv 0) (pv 2) (fun _ _ => rfl)) (pa_cons (pe_ix ix_list (pv 1) (pv 2) (fun _ _ => rfl)) pa_nil)))))
        (pss_one (ps_ret pe_bl))
        pss_nil)))
      (pss_one (ps_ret pe_bl))))
        pss_nil)
      (pss_one (ps_ret (pe_and (pe_callB call_isiA rfl T.no_isinstance bt_isinstance (pa_cons (pv 0) (pa_cons (pe_bltn (v := .ty "int") rfl T.no_int bt_int rfl) pa_nil))) (pe_and (pe_not (pe_callB call_isiA rfl T.no_isinstance bt_isinstance (pa_cons (pv 0) (pa_cons (pe_bltn (v := .ty "bool") rfl T.no_bool bt_bool rfl) pa_nil)))) (pe_one (pe_cmpR op_eq (pv 0) (pv 1) (nomark _)))))))), ?_⟩
      obtain ⟨a, vs, rfl, hA, la⟩ := hv.lst
      obtain ⟨b, ws, rfl, hB, lb⟩ := hw.lst
      refine ⟨_, rfl, rIsiA.ty (.lst hB) rfl ⟨_, rfl, iteT ?_⟩⟩
      refine ⟨_, rfl, rIsiA.ty (.lst hA) rfl ⟨_, rfl, iteF ?_⟩⟩
      refine ⟨_, rfl, a, _, rfl, .inl (SqL.of hA), _, rfl, b, _, rfl, .inl (SqL.of hB), rfl, _, rfl, ?_⟩
      have sz : ws.length ≤ 1000 := by rw [lb]; exact sm.1
      refine ite2 (fun z => ?_) (fun _ => ?_)
      · exfalso
        rw [la, lb, decide_eq_true rfl] at z
        exact absurd z (by decide)
      refine ⟨_, rfl, b, _, rfl, .inl (SqL.of hB), _, rfl, by omega, by omega, ?_⟩
      refine for_range (lo := 0) (fun i σ G => G = H ∧ ∃ z, σ = [some (.ref a), some (.ref b), z]) ⟨rfl, _, rfl⟩ ?_ ?_
      · rintro i σ G hi ⟨rfl, z, rfl⟩
        have hi' : i < ws.length := by omega
        obtain ⟨x, t1, e1, e2, k1⟩ := hv.kid hA (j := i) (by omega)
        obtain ⟨y, t2, e3, e4, k2⟩ := hw.kid hB (j := i) (by omega)
        rw [e2] at e4
        cases e4
        have i1 : atI vs (0 + (i : Int)) = some x := by rw [Int.zero_add]; exact atI_nat e1
        have i2 : atI ws (0 + (i : Int)) = some y := by rw [Int.zero_add]; exact atI_nat e3
        refine ⟨_, rfl, _, rfl, a, _, _, _, rfl, rfl, SqL.of hA, i1, _, rfl, _, rfl, b, _, _, _, rfl, rfl, SqL.of hB, i2, x, y, t1, rfl, k1, k2, sm.2 t1 (List.mem_of_getElem? e2), ?_⟩
        exact ⟨_, rfl, iteF ⟨rfl, _, rfl⟩⟩
      · rintro σ G ⟨rfl, z, rfl⟩
        exact k

set_option maxHeartbeats 4000000 in
theorem ok_Lcopy (T : Txt w K mg c) : FnOk P w K mg base CX0 1 c.a_Lcopy c.d_Lcopy ["_law_sorting_here"] (spCopy) := by
  refine T.Lcopy.fn.ok sc_Lcopy (fun vs H Q E h => ?_) (fun cdv A outer s H vs Q E hr h => ?_)
  · obtain ⟨v, S, rfl, _⟩ := h
    rfl
  · obtain ⟨v, S, rfl, hat, hz, fu, k⟩ := h
    refine ⟨_, (pss_cons (ps_set (i := 1) sc_Lcopy.nd rfl (Or.inl rfl) (pe_lst pa_nil))
      (pss_cons (ps_for PassesOwn.never rfl (pi_list (pv 0)) (pg_name (i := 2) sc_Lcopy.nd rfl (Or.inl rfl))
        (pss_cons (ps_expr (pe_bm PySem.F.plainAttrs_list PySem.F.slot_list_append PySem.F.type_list_append (MtM.r mt_append) (pv 1) (pa_cons (pe_lst pa_nil) pa_nil)))
      (pss_one (ps_for PassesOwn.never rfl (pi_list (pv 2)) (pg_name (i := 3) sc_Lcopy.nd rfl (Or.inl rfl))
        (pss_one (ps_expr (pe_bm PySem.F.plainAttrs_list PySem.F.slot_list_append PySem.F.type_list_append (MtM.r mt_append) (pe_ix ix_list (pv 1) (pe_un un_neg pe_int) (fun _ _ => rfl)) (pa_cons (pe_comp (N' := ["_law_form"]) (js := [none]) rfl rfl (by decide +kernel) (by decide +kernel) (free_nil (by decide +kernel)) (cap_nil rfl rfl) (pi_list (pv 3)) (fun B => ⟨(pg_name (i := 0) (show List.Nodup (["_law_form"] : List Str) by decide +kernel) rfl (Or.inl rfl)), pifs_nil, (pe_callTy call_list_of rfl T.no_list bt_list (pa_cons (pv 0) pa_nil))⟩)) pa_nil))))))))
      (pss_one (ps_ret (pv 1))))), ?_⟩
    obtain ⟨a, vs, rfl, hA, hlen⟩ := hat.lst
    have sz : 1000 < sizeLine := le_ble rfl
    have sm := small_S fu hz
    have lz : vs.length ≤ 1000 := by rw [hlen]; exact sm.1
    refine ⟨le_ble rfl, fun l hl => ?_⟩
    have s0 : Same H (upd H l (.lst [])) := Same.new hl
    refine ⟨_, rfl, a, rfl, ⟨_, SqL.of (s0 _ _ hA)⟩, ?_⟩
    refine for_list (xs := vs) (fun i σ G => Same H G ∧ (∃ z2 z3, σ = [some (.ref a), some (.ref l), z2, z3]) ∧ ∃ ws, G l = some (.lst ws) ∧ ws.length = i ∧ NewL H G l 3 ws ((ls S).take i)) ?_ ?_ ?_ ?_
    · exact ⟨s0, ⟨_, _, rfl⟩, [], upd_same, rfl, NewL.nil⟩
    · rintro i σ G _ ⟨sG, _⟩
      exact SqL.of (sG _ _ hA)
    · rintro i x σ G hx ⟨sG, ⟨z2, z3, rfl⟩, ws, h1, h2, h3⟩
      have hi : i < vs.length := (List.getElem?_eq_some_iff.mp hx).1
      obtain ⟨x', t', e1, e2, hk⟩ := hat.kid hA hi
      rw [hx] at e1
      cases e1
      obtain ⟨ga, gs, rfl, hG, glen⟩ := hk.lst
      have sm1 := sm.2 t' (List.mem_of_getElem? e2)
      have gz : gs.length ≤ 1000 := by rw [glen]; exact sm1.1
      refine ⟨_, rfl, .inl ⟨rfl, _, SqL.of h1⟩, le_ble rfl, fun g hg => ?_⟩
      have ngl : l ≠ g := ne_of_none h1 hg
      refine ⟨l, _, _, rfl, rfl, by rw [upd_ne ngl]; exact h1, by omega, ?_⟩
      have hgl : l ≠ ga := fun z => by rw [← z, hl] at hG; cases hG
      have hgg : ga ≠ g := ne_of_none (sG _ _ hG) hg
      refine ⟨_, rfl, ga, rfl, ⟨_, SqL.of (by rw [upd_ne hgl.symm, upd_ne hgg]; exact sG _ _ hG)⟩, ?_⟩
      refine for_list (xs := gs) (fun j σ G3 => Same H G3 ∧ (∃ z3, σ = [some (.ref a), some (.ref l), some (.ref ga), z3]) ∧ G3 l = some (.lst (ws ++ [.ref g])) ∧ (∀ b u, b ≠ l → G b = some u → G3 b = some u) ∧ ∃ us, G3 g = some (.lst us) ∧ us.length = j ∧ NewL G G3 g 2 us ((ls t').take j)) ?_ ?_ ?_ ?_
      · refine ⟨fun b u hb => ?_, ⟨_, rfl⟩, upd_same, fun b u nb hb => ?_, [], by rw [upd_ne ngl.symm, upd_same], rfl, NewL.nil⟩
        · rw [upd_ne (ne_of_none hb hl), upd_ne (ne_of_none (sG b u hb) hg)]
          exact sG b u hb
        · rw [upd_ne nb, upd_ne (ne_of_none hb hg)]
          exact hb
      · rintro j σ G3 _ ⟨sG3, _⟩
        exact SqL.of (sG3 _ _ hG)
      · rintro j y σ G3 hy ⟨sG3, ⟨z3, rfl⟩, i1, i2, us, i3, i4, i5⟩
        have hj : j < gs.length := (List.getElem?_eq_some_iff.mp hy).1
        obtain ⟨y', c', e3, e4, hk2⟩ := hk.kid hG hj
        rw [hy] at e3
        cases e3
        obtain ⟨ca, cs, rfl, hC, clen⟩ := hk2.lst
        have sm2 := sm1.2 c' (List.mem_of_getElem? e4)
        have cz : cs.length ≤ 1000 := by rw [clen]; exact sm2.1
        refine ⟨_, rfl, _, rfl, l, _, _, _, rfl, rfl, SqL.of i1, atI_last _ _, .inl ⟨rfl, _, SqL.of i3⟩, ?_⟩
        refine ⟨_, rfl, ca, rfl, ⟨_, SqL.of (sG3 _ _ hC)⟩, fun m B hm => ?_⟩
        refine loop_lst (xs := cs) (fun q σ acc G4 => Same G3 G4 ∧ (∃ o, σ = [o]) ∧ G4 m = some (.lst acc) ∧ acc.length = q ∧ NewL G3 G4 m 1 acc ((ls c').take q)) (by omega) ?_ ?_ ?_ ?_
        · exact ⟨Same.new hm, ⟨_, rfl⟩, upd_same, rfl, NewL.nil⟩
        · rintro q σ acc G4 _ ⟨s4, _, j1, j2, _⟩
          exact ⟨j1, SqL.of (s4 _ _ (sG3 _ _ hC)), by omega⟩
        · rintro q z σ acc G4 hz' ⟨s4, ⟨o, rfl⟩, j1, j2, j3⟩
          have hq : q < cs.length := (List.getElem?_eq_some_iff.mp hz').1
          obtain ⟨z', f, e5, e6, hk3⟩ := hk2.kid hC hq
          rw [hz'] at e5
          cases e5
          obtain ⟨fa, fs, rfl, _, _⟩ := hk3.lst
          obtain ⟨fl, hfl⟩ : ∃ fl : List Int, fl = f := ⟨f, rfl⟩
          subst hfl
          have hF := AtR.ints (ns := fl) hk3
          refine ⟨_, rfl, fa, _, rfl, .inl (SqL.of (s4 _ _ (sG3 _ _ hF))), fun p hp => ?_⟩
          have npm : m ≠ p := ne_of_none j1 hp
          have s5 : Same G4 (upd G4 p (.lst (fl.map V.int))) := Same.new hp
          refine ⟨by rw [upd_ne npm]; exact j1, Nx.mk hq ⟨fun b u hb => ?_, ⟨_, rfl⟩, upd_same, by rw [List.length_append, j2]; rfl, ?_⟩⟩
          · rw [upd_ne (ne_of_none hb hm)]
            exact s5 _ _ (s4 _ _ hb)
          · rw [take_one e6]
            refine (j3.snoc (some_ne j1) (fun b hb => s4.free hb) (fun b xs _ _ hb => s5 b _ hb) (fun b hb => ?_) (New.ints hp upd_same)).frame (fun b xs nb _ hb => by rw [upd_ne nb]; exact hb) (fun b hb => ?_)
            · by_cases e : b = p
              · rw [e, upd_same]; intro z; cases z
              · rw [upd_ne e]; exact hb
            · by_cases e : b = m
              · rw [e, upd_same]; intro z; cases z
              · rw [upd_ne e]; exact hb
        · rintro σ acc G4 ⟨s4, _, j1, j2, j3⟩
          have et : (ls c').take cs.length = ls c' := List.take_of_length_le (by omega)
          rw [et] at j3
          refine ⟨g, _, _, rfl, rfl, s4 _ _ i3, by omega, ?_⟩
          refine ⟨fun b u hb => ?_, ⟨_, rfl⟩, ?_, fun b u nb hb => ?_, _, upd_same, by rw [List.length_append, i4]; rfl, ?_⟩
          · rw [upd_ne (fun z => by rw [z, sG.free hg] at hb; cases hb)]
            exact s4 _ _ (sG3 _ _ hb)
          · rw [upd_ne ngl]
            exact s4 _ _ i1
          · rw [upd_ne (ne_of_none hb hg)]
            exact s4 _ _ (i2 b u nb hb)
          · rw [take_one e4]
            have fr : ∀ b, G3 b = none → G b = none := fun b hb => by
              cases q : G b with
              | none => rfl
              | some u =>
                by_cases e : b = l
                · rw [e, i1] at hb; cases hb
                · rw [i2 b u e q] at hb; cases hb
            refine (i5.snoc (some_ne i3) fr (fun b xs _ _ hb => s4 b _ hb) (fun b hb => ?_) (j3.done hm j1)).frame (fun b xs nb _ hb => by rw [upd_ne nb]; exact hb) (fun b hb => ?_)
            · cases q : G3 b with
              | none => exact absurd q hb
              | some u => rw [s4 b u q]; intro z; cases z
            · by_cases e : b = g
              · rw [e, upd_same]; intro z; cases z
              · rw [upd_ne e]; exact hb
      · rintro σ G3 ⟨sG3, ⟨z3, rfl⟩, i1, i2, us, i3, i4, i5⟩
        have et : (ls t').take gs.length = ls t' := List.take_of_length_le (by omega)
        rw [et] at i5
        refine ⟨sG3, ⟨_, _, rfl⟩, _, i1, by rw [List.length_append, h2]; rfl, ?_⟩
        rw [take_one e2]
        refine h3.snoc (some_ne h1) (fun b hb => sG.free hb) (fun b xs nb _ hb => i2 b _ nb hb) (fun b hb => ?_) (i5.done hg i3)
        by_cases e : b = l
        · rw [e, i1]; intro z; cases z
        · cases q : G b with
          | none => exact absurd q hb
          | some u => rw [i2 b u e q]; intro z; cases z
    · rintro σ G ⟨sG, ⟨z2, z3, rfl⟩, ws, h1, h2, h3⟩
      have et : (ls S).take vs.length = ls S := List.take_of_length_le (by omega)
      rw [et] at h3
      exact ⟨_, rfl, k _ G sG (h3.done hl h1)⟩

set_option maxHeartbeats 4000000 in
theorem ok_Lleft (T : Txt w K mg c) : FnOk P w K mg base CX0 1 c.a_Lleft c.d_Lleft ["_law_sorting_here", "_law_sheet_here"] (spLeft) := by
  refine T.Lleft.fn.ok sc_Lleft (fun vs H Q E h => ?_) (fun cdv A outer s H vs Q E hr h => ?_)
  · obtain ⟨v, s', S, rfl, _⟩ := h
    rfl
  · obtain ⟨v, s', S, rfl, hat, sm, k⟩ := h
    refine ⟨_, (pss_cons (ps_set (i := 2) sc_Lleft.nd rfl (Or.inl rfl) (pe_lst pa_nil))
      (pss_cons (ps_for PassesOwn.never rfl (pi_list (pv 0)) (pg_name (i := 3) sc_Lleft.nd rfl (Or.inl rfl))
        (pss_cons (ps_set (i := 4) sc_Lleft.nd rfl (Or.inl rfl) (pe_lst pa_nil))
      (pss_cons (ps_for PassesOwn.never rfl (pi_list (pv 3)) (pg_name (i := 5) sc_Lleft.nd rfl (Or.inl rfl))
        (pss_cons (ps_set (i := 6) sc_Lleft.nd rfl (Or.inl rfl) (pe_lst pa_nil))
      (pss_cons (ps_for PassesOwn.never rfl (pi_list (pv 5)) (pg_name (i := 7) sc_Lleft.nd rfl (Or.inl rfl))
        (pss_cons (ps_setComp (i := 8) sc_Lleft.nd rfl rfl (N' := ["_law_one", "_law_sheet_here"]) (js := [none, some 1]) rfl rfl (by decide +kernel) (by decide +kernel) (free_of ["_law_sheet_here"] (by decide +kernel) (fm_cons (.inl rfl) fm_nil)) (cap_of rfl (fm_cons (fun j e => nomatch e) (fm_cons (fun j e => by cases e; exact ⟨rfl, rfl, .inl rfl⟩) fm_nil))) (pi_list (pv 7)) (fun B => ⟨(pg_name (i := 0) (show List.Nodup (["_law_one", "_law_sheet_here"] : List Str) by decide +kernel) rfl (Or.inl rfl)), (pifs_one (pt_cmpR op_ne (pv 0) (pv 1) (nomark _))), (pv 0)⟩))
      (pss_one (ps_if (pt_cmpR (op_neD (hu62 hr)) (pv 8) (pe_lst pa_nil) (nomark _))
        (pss_one (ps_expr (pe_bm PySem.F.plainAttrs_list PySem.F.slot_list_append PySem.F.type_list_append (MtM.r mt_append) (pv 6) (pa_cons (pv 8) pa_nil))))
        pss_nil))))
      (pss_one (ps_if (pt_cmpR (op_neD (hu62 hr)) (pv 6) (pe_lst pa_nil) (nomark _))
        (pss_one (ps_expr (pe_bm PySem.F.plainAttrs_list PySem.F.slot_list_append PySem.F.type_list_append (MtM.r mt_append) (pv 4) (pa_cons (pv 6) pa_nil))))
        pss_nil)))))
      (pss_one (ps_if (pt_cmpR (op_neD (hu62 hr)) (pv 4) (pe_lst pa_nil) (nomark _))
        (pss_one (ps_expr (pe_bm PySem.F.plainAttrs_list PySem.F.slot_list_append PySem.F.type_list_append (MtM.r mt_append) (pv 2) (pa_cons (pv 4) pa_nil))))
        pss_nil)))))
      (pss_one (ps_ret (pv 2))))), ?_⟩
    obtain ⟨a, vs, rfl, hA, hlen⟩ := hat.lst
    have sz : 2000 < sizeLine := le_ble rfl
    have lz : vs.length ≤ 1000 := by rw [hlen]; exact sm.1
    refine ⟨le_ble rfl, fun l hl => ?_⟩
    have s0 : Same H (upd H l (.lst [])) := Same.new hl
    refine ⟨_, rfl, a, rfl, ⟨_, SqL.of (s0 _ _ hA)⟩, ?_⟩
    refine for_list (xs := vs) (fun i σ G => Same H G ∧ (∃ z3 z4 z5 z6 z7 z8, σ = [some (.ref a), some (.int s'), some (.ref l), z3, z4, z5, z6, z7, z8]) ∧ ∃ ws, G l = some (.lst ws) ∧ NewL H G l 3 ws (ne (((ls S).map (wo 2 s')).take i))) ?_ ?_ ?_ ?_
    · exact ⟨s0, ⟨_, _, _, _, _, _, rfl⟩, [], upd_same, NewL.nil⟩
    · rintro i σ G _ ⟨sG, _⟩
      exact SqL.of (sG _ _ hA)
    · rintro i x σ G hx ⟨sG, ⟨z3, z4, z5, z6, z7, z8, rfl⟩, ws, h1, h2⟩
      have hi : i < vs.length := (List.getElem?_eq_some_iff.mp hx).1
      obtain ⟨x', g, e1, eg, kg⟩ := hat.kid hA hi
      rw [hx] at e1
      cases e1
      obtain ⟨ga, gs, rfl, hG, glen⟩ := kg.lst
      have smg := sm.2 g (List.mem_of_getElem? eg)
      have gz : gs.length ≤ 1000 := by rw [glen]; exact smg.1
      have eug : ((ls S).map (wo 2 s'))[i]? = some (wo 2 s' g) := by rw [List.getElem?_map, eg]; rfl
      refine ⟨le_ble rfl, fun kl hkl => ?_⟩
      have t0 : Same G (upd G kl (.lst [])) := Same.new hkl
      refine ⟨_, rfl, ga, rfl, ⟨_, SqL.of (t0 _ _ (sG _ _ hG))⟩, ?_⟩
      refine for_list (xs := gs) (fun j σ G' => Same G G' ∧ (∃ z5 z6 z7 z8, σ = [some (.ref a), some (.int s'), some (.ref l), some (.ref ga), some (.ref kl), z5, z6, z7, z8]) ∧ ∃ us, G' kl = some (.lst us) ∧ NewL G G' kl 2 us (ne (((ls g).map (wo 1 s')).take j))) ?_ ?_ ?_ ?_
      · exact ⟨t0, ⟨_, _, _, _, rfl⟩, [], upd_same, NewL.nil⟩
      · rintro j σ G' _ ⟨sG', _⟩
        exact SqL.of (sG' _ _ (sG _ _ hG))
      · rintro j y σ G1 hy ⟨sG1, ⟨z5, z6, z7, z8, rfl⟩, us, i1, i2⟩
        have hj : j < gs.length := (List.getElem?_eq_some_iff.mp hy).1
        obtain ⟨y', c', e2, ec, kc⟩ := kg.kid hG hj
        rw [hy] at e2
        cases e2
        obtain ⟨ca, cs, rfl, hC, clen⟩ := kc.lst
        have smc := smg.2 c' (List.mem_of_getElem? ec)
        have cz : cs.length ≤ 1000 := by rw [clen]; exact smc.1
        have hC1 := sG1 _ _ (sG _ _ hC)
        have euc : ((ls g).map (wo 1 s'))[j]? = some (wo 1 s' c') := by rw [List.getElem?_map, ec]; rfl
        refine ⟨le_ble rfl, fun sl hsl => ?_⟩
        have u0 : Same G1 (upd G1 sl (.lst [])) := Same.new hsl
        refine ⟨_, rfl, ca, rfl, ⟨_, SqL.of (u0 _ _ hC1)⟩, ?_⟩
        refine for_list (xs := cs) (fun m σ G' => Same G1 G' ∧ (∃ z7 z8, σ = [some (.ref a), some (.int s'), some (.ref l), some (.ref ga), some (.ref kl), some (.ref ca), some (.ref sl), z7, z8]) ∧ ∃ zs, G' sl = some (.lst zs) ∧ NewL G1 G' sl 1 zs (ne (((ls c').map (wo 0 s')).take m))) ?_ ?_ ?_ ?_
        · exact ⟨u0, ⟨_, _, rfl⟩, [], upd_same, NewL.nil⟩
        · rintro m σ G' _ ⟨sG', _⟩
          exact SqL.of (sG' _ _ hC1)
        · rintro m z σ G2 hz ⟨sG2, ⟨z7, z8, rfl⟩, zs, j1, j2⟩
          have hm : m < cs.length := (List.getElem?_eq_some_iff.mp hz).1
          obtain ⟨z', f, e3, ef, kf⟩ := kc.kid hC hm
          rw [hz] at e3
          cases e3
          obtain ⟨fl, hfl⟩ : ∃ fl : List Int, fl = f := ⟨f, rfl⟩
          subst hfl
          obtain ⟨fa, _, rfl, _, _⟩ := kf.lst
          have hF := sG2 _ _ (sG1 _ _ (sG _ _ (AtR.ints (ns := fl) kf)))
          have fz : fl.length ≤ 1000 := (smc.2 fl (List.mem_of_getElem? ef)).1
          have euf : ((ls c').map (wo 0 s'))[m]? = some (wo 0 s' fl) := by rw [List.getElem?_map, ef]; rfl
          refine ⟨_, rfl, fa, rfl, ⟨_, SqL.of hF⟩, fun cl B hcl => ?_⟩
          refine loop_lst (xs := fl.map V.int) (fun i σ acc G => (∃ o, σ = [o, some (.int s')]) ∧ Same G2 G ∧ G cl = some (.lst acc) ∧ acc = ((fl.take i).filter (fun x => !decide (x = s'))).map V.int) (by rw [List.length_map]; omega) ?_ ?_ ?_ ?_
          · exact ⟨⟨_, rfl⟩, Same.new hcl, upd_same, rfl⟩
          · rintro i σ acc G hi ⟨_, sG, h1, h2⟩
            refine ⟨h1, SqL.of (sG _ _ hF), ?_⟩
            rw [h2, List.length_map]
            exact Nat.le_trans (List.length_filter_le _ _) (by rw [List.length_take]; omega)
          · rintro i x σ acc G hx ⟨⟨o, rfl⟩, sG, h1, h2⟩
            obtain ⟨y, hy, rfl⟩ := getI hx
            have hi : i < (fl.map V.int).length := (List.getElem?_eq_some_iff.mp hx).1
            refine ⟨_, rfl, _, rfl, rfl, _, rfl, ?_⟩
            refine ite2 (fun z => ?_) (fun z => ?_)
            · have z : y ≠ s' := fun q => by rw [q, decide_eq_true rfl] at z; exact absurd z (by decide)
              refine ⟨_, rfl, h1, Nx.mk hi ⟨⟨_, rfl⟩, fun b u hb => ?_, upd_same, ?_⟩⟩
              · rw [upd_ne (ne_of_none hb hcl)]
                exact sG _ _ hb
              · rw [take_one hy, List.filter_append, List.map_append, ← h2]
                simp [z]
            · have z : y = s' := V.int.inj (Decidable.of_not_not (p := V.int y = V.int s') (fun q => z (by rw [decide_eq_false q]; rfl)))
              refine Nx.mk hi ⟨⟨_, rfl⟩, sG, h1, ?_⟩
              rw [take_one hy, List.filter_append, List.map_append, ← h2]
              simp [z]
          · rintro σ acc G3 ⟨_, sG3, g1, g2⟩
            rw [List.length_map, List.take_of_length_le (Nat.le_refl _)] at g2
            subst g2
            have nw : New G2 G3 1 (.ref cl) (wo 0 s' fl) := New.ints (ns := fl.filter (fun x => !decide (x = s'))) hcl g1
            have lx : ((fl.filter (fun x => !decide (x = s'))).map V.int).length = (ls (wo 0 s' fl)).length := List.length_map ..
            refine ⟨_, rfl, le_ble rfl, fun e0 he0 => ?_⟩
            have t9 : Same G3 (upd G3 e0 (.lst [])) := Same.new he0
            have k9 := upd_same (H := G3) (a := e0) (o := .lst [])
            refine ⟨0, _, by decide, seqNil (SqL.of (t9 _ _ g1)) (SqL.of k9), _, rfl, ?_⟩
            have s9 := sG3.trans t9
            have n9 := nw.same t9
            have c9 := t9 _ _ g1
            have m9 := s9 _ _ j1
            generalize upd G3 e0 (.lst []) = G9 at t9 k9 s9 n9 c9 m9 ⊢
            have lw9 : zs.length ≤ 1000 := by
              rw [j2.1]
              exact Nat.le_trans (ne_le _ _) (by rw [List.length_map]; omega)
            cases e9 : ((fl.filter (fun x => !decide (x = s'))).map V.int).isEmpty with
            | true =>
              have p9 := j2.ne0 s9 euf ((empty_len lx).trans e9)
              exact iteF ⟨sG2.trans s9, ⟨_, _, rfl⟩, zs, m9, p9⟩
            | false =>
              obtain ⟨q9, p9⟩ := j2.ne1 hsl j1 sG2 s9 n9 euf ((empty_len lx).trans e9)
              exact iteT ⟨_, rfl, .inl ⟨rfl, _, SqL.of m9⟩, _, rfl, sl, _, _, rfl, rfl, m9, by omega, ⟨q9, ⟨_, _, rfl⟩, _, upd_same, p9⟩⟩
        · rintro σ G2 ⟨sG2, ⟨z7, z8, rfl⟩, zs, j1, j2⟩
          have et : ((ls c').map (wo 0 s')).take cs.length = (ls c').map (wo 0 s') := List.take_of_length_le (by rw [List.length_map]; omega)
          rw [et] at j2
          have lx : zs.length = (ls (wo 1 s' c')).length := j2.1
          have nw : New G1 G2 2 (.ref sl) (wo 1 s' c') := j2.done hsl j1
          refine ⟨_, rfl, le_ble rfl, fun e0 he0 => ?_⟩
          have t9 : Same G2 (upd G2 e0 (.lst [])) := Same.new he0
          have k9 := upd_same (H := G2) (a := e0) (o := .lst [])
          refine ⟨0, _, by decide, seqNil (SqL.of (t9 _ _ j1)) (SqL.of k9), _, rfl, ?_⟩
          have s9 := sG2.trans t9
          have n9 := nw.same t9
          have c9 := t9 _ _ j1
          have m9 := s9 _ _ i1
          generalize upd G2 e0 (.lst []) = G9 at t9 k9 s9 n9 c9 m9 ⊢
          have lw9 : us.length ≤ 1000 := by
            rw [i2.1]
            exact Nat.le_trans (ne_le _ _) (by rw [List.length_map]; omega)
          cases e9 : zs.isEmpty with
          | true =>
            have p9 := i2.ne0 s9 euc ((empty_len lx).trans e9)
            exact iteF ⟨sG1.trans s9, ⟨_, _, _, _, rfl⟩, us, m9, p9⟩
          | false =>
            obtain ⟨q9, p9⟩ := i2.ne1 hkl i1 sG1 s9 n9 euc ((empty_len lx).trans e9)
            exact iteT ⟨_, rfl, .inl ⟨rfl, _, SqL.of m9⟩, _, rfl, kl, _, _, rfl, rfl, m9, by omega, ⟨q9, ⟨_, _, _, _, rfl⟩, _, upd_same, p9⟩⟩
      · rintro σ G1 ⟨sG1, ⟨z5, z6, z7, z8, rfl⟩, us, i1, i2⟩
        have et : ((ls g).map (wo 1 s')).take gs.length = (ls g).map (wo 1 s') := List.take_of_length_le (by rw [List.length_map]; omega)
        rw [et] at i2
        have lx : us.length = (ls (wo 2 s' g)).length := i2.1
        have nw : New G G1 3 (.ref kl) (wo 2 s' g) := i2.done hkl i1
        refine ⟨_, rfl, le_ble rfl, fun e0 he0 => ?_⟩
        have t9 : Same G1 (upd G1 e0 (.lst [])) := Same.new he0
        have k9 := upd_same (H := G1) (a := e0) (o := .lst [])
        refine ⟨0, _, by decide, seqNil (SqL.of (t9 _ _ i1)) (SqL.of k9), _, rfl, ?_⟩
        have s9 := sG1.trans t9
        have n9 := nw.same t9
        have c9 := t9 _ _ i1
        have m9 := s9 _ _ h1
        generalize upd G1 e0 (.lst []) = G9 at t9 k9 s9 n9 c9 m9 ⊢
        have lw9 : ws.length ≤ 1000 := by
          rw [h2.1]
          exact Nat.le_trans (ne_le _ _) (by rw [List.length_map]; omega)
        cases e9 : us.isEmpty with
        | true =>
          have p9 := h2.ne0 s9 eug ((empty_len lx).trans e9)
          exact iteF ⟨sG.trans s9, ⟨_, _, _, _, _, _, rfl⟩, ws, m9, p9⟩
        | false =>
          obtain ⟨q9, p9⟩ := h2.ne1 hl h1 sG s9 n9 eug ((empty_len lx).trans e9)
          exact iteT ⟨_, rfl, .inl ⟨rfl, _, SqL.of m9⟩, _, rfl, l, _, _, rfl, rfl, m9, by omega, ⟨q9, ⟨_, _, _, _, _, _, rfl⟩, _, upd_same, p9⟩⟩
    · rintro σ G ⟨sG, ⟨z3, z4, z5, z6, z7, z8, rfl⟩, ws, h1, h2⟩
      have et : ((ls S).map (wo 2 s')).take vs.length = (ls S).map (wo 2 s') := List.take_of_length_le (by rw [List.length_map]; omega)
      rw [et] at h2
      exact ⟨_, rfl, k _ G sG (h2.done hl h1)⟩

set_option maxHeartbeats 4000000 in
theorem ok_Lpath (T : Txt w K mg c) : FnOk P w K mg base CX0 1 c.a_Lpath c.d_Lpath ["_law_left_here", "_law_number"] (spPathL K) := by
  refine T.Lpath.fn.ok sc_Lpath (fun vs H Q E h => ?_) (fun cdv A outer s H vs Q E hr h => ?_)
  · obtain ⟨v, m, U, rfl, _⟩ := h
    rfl
  · obtain ⟨v, m, U, rfl, hat, fu, k⟩ := h
    refine ⟨_, (pss_cut (ps_if (PW.pt (pw_or (pt_cmpR (op_eqD (hu62 hr)) (pv 0) (pe_lst pa_nil) (nomark _)) (pw_or1 (pt_cmpR op_eq (pe_op op_mod (pv 1) pe_int) pe_int (nomark _)))))
        (pss_one (ps_ret (pe_tup (pa_cons (pe_callB call_len_seq rfl T.no_len bt_len (pa_cons (pv 0) pa_nil)) pa_nil))))
        pss_nil)
      (pss_cut (ps_set (i := 2) sc_Lpath.nd rfl (Or.inl rfl) (pe_op op_mod (pe_op op_fdiv (pv 1) pe_int) (pe_callB call_len_seq rfl T.no_len bt_len (pa_cons (pv 0) pa_nil))))
      (pss_cons (ps_if (pt_cmpR op_eq (pe_op op_mod (pv 1) pe_int) pe_int (nomark _))
        (pss_one (ps_ret (pe_tup (pa_cons (pv 2) (pa_cons (pe_callB call_len_seq rfl T.no_len bt_len (pa_cons (pe_ix ix_list (pv 0) (pv 2) (fun _ _ => rfl)) pa_nil)) pa_nil)))))
        pss_nil)
      (pss_cut (ps_set (i := 3) sc_Lpath.nd rfl (Or.inl rfl) (pe_op op_mod (pe_op op_fdiv (pv 1) pe_int) (pe_callB call_len_seq rfl T.no_len bt_len (pa_cons (pe_ix ix_list (pv 0) (pv 2) (fun _ _ => rfl)) pa_nil))))
      (pss_cons (ps_if (pt_cmpR op_eq (pe_op op_mod (pv 1) pe_int) pe_int (nomark _))
        (pss_one (ps_ret (pe_tup (pa_cons (pv 2) (pa_cons (pv 3) (pa_cons (pe_callB call_len_seq rfl T.no_len bt_len (pa_cons (pe_ix ix_list (pe_ix ix_list (pv 0) (pv 2) (fun _ _ => rfl)) (pv 3) (fun _ _ => rfl)) pa_nil)) pa_nil))))))
        pss_nil)
      (pss_cut (ps_set (i := 4) sc_Lpath.nd rfl (Or.inl rfl) (pe_op op_fdiv (pv 1) pe_int))
      (pss_cut (ps_if (pt_cmpR op_eq (pe_op op_mod (pv 1) pe_int) pe_int (nomark _))
        (pss_cons (ps_set (i := 5) sc_Lpath.nd rfl (Or.inl rfl) (pe_lst (pa_cons pe_non (pa_cons pe_int (pa_cons (pe_tup pa_nil) (pa_cons (pe_tup (pa_cons (pv 2) (pa_cons (pv 3) (pa_cons pe_int (pa_cons pe_int pa_nil))))) (pa_cons (pe_lst (pa_cons (pv 2) (pa_cons (pv 3) (pa_cons pe_int pa_nil)))) (pa_cons (pe_tup (pa_cons (pv 2) (pa_cons (pv 3) (pa_cons (pe_un un_neg pe_int) pa_nil)))) (pa_cons (pe_tup (pa_cons (pv 2) (pa_cons (pv 3) (pa_cons pe_bl pa_nil)))) (pa_cons (pe_tup (pa_cons pe_str pa_nil)) (pa_cons (pe_tup (pa_cons (pe_un un_neg pe_int) pa_nil)) pa_nil)))))))))))
      (pss_one (ps_ret (pe_ix ix_list (pv 5) (pe_op op_mod (pv 4) pe_int) (fun _ _ => rfl)))))
        pss_nil)
      (pss_cut (ps_if (PW.pt (pw_and (pt_cmpR op_eq (pe_op op_mod (pv 1) pe_int) pe_int (nomark _)) (pw_and1 (pt_cmpR op_eq (pe_op op_mod (pv 4) pe_int) pe_int (nomark _)))))
        (pss_one (ps_ret (pe_ix ix_list (pe_lst (pa_cons (pe_tup (pa_cons (pe_op op_add (pe_callB call_len_seq rfl T.no_len bt_len (pa_cons (pv 0) pa_nil)) pe_int) pa_nil)) (pa_cons (pe_tup (pa_cons (pv 2) pa_nil)) (pa_cons (pe_tup (pa_cons (pv 2) (pa_cons (pe_op op_add (pe_callB call_len_seq rfl T.no_len bt_len (pa_cons (pe_ix ix_list (pv 0) (pv 2) (fun _ _ => rfl)) pa_nil)) pe_int) pa_nil))) (pa_cons (pe_tup (pa_cons (pv 2) (pa_cons (pv 3) pa_nil))) (pa_cons (pe_tup (pa_cons (pe_callB call_len_seq rfl T.no_len bt_len (pa_cons (pv 0) pa_nil)) (pa_cons pe_int (pa_cons pe_int pa_nil)))) (pa_cons (pe_tup (pa_cons (pv 2) (pa_cons (pe_callB call_len_seq rfl T.no_len bt_len (pa_cons (pe_ix ix_list (pv 0) (pv 2) (fun _ _ => rfl)) pa_nil)) (pa_cons pe_int pa_nil)))) (pa_cons (pe_tup (pa_cons (pv 2) (pa_cons (pv 3) (pa_cons (pe_op op_add (pe_callB call_len_seq rfl T.no_len bt_len (pa_cons (pe_ix ix_list (pe_ix ix_list (pv 0) (pv 2) (fun _ _ => rfl)) (pv 3) (fun _ _ => rfl)) pa_nil)) pe_int) pa_nil)))) (pa_cons (pe_tup (pa_cons (pe_op op_pow pe_int pe_int) pa_nil)) (pa_cons (pe_tup (pa_cons (pv 2) (pa_cons (pe_op op_pow pe_int pe_int) (pa_cons pe_int pa_nil)))) pa_nil)))))))))) (pe_op op_mod (pe_op op_fdiv (pv 4) pe_int) pe_int) (fun _ _ => rfl))))
        pss_nil)
      (pss_one (ps_ret (pe_tup (pa_cons (pv 2) (pa_cons (pv 3) (pa_cons (pe_op op_mod (pv 4) (pe_callB call_len_seq rfl T.no_len bt_len (pa_cons (pe_ix ix_list (pe_ix ix_list (pv 0) (pv 2) (fun _ _ => rfl)) (pv 3) (fun _ _ => rfl)) pa_nil))) pa_nil)))))))))))))), ?_⟩
    obtain ⟨r, vs, rfl, hA, hlen⟩ := hat.lst
    have sz : 2000 < sizeLine := le_ble rfl
    have tupP : ∀ (G G' : Hp) (t : Addr) (xs : List V), Same (upd G t (.tup xs)) G' → xs.all plainV = true → ∃ op, IsP K G' (.ref t) op := fun G G' t xs s hp => by
      obtain ⟨op, h⟩ := IsP.tup (K := K) (H := upd G t (.tup xs)) upd_same hp
      exact ⟨op, h.same s⟩
    have ktup : ∀ (G : Hp) (xs : List V), Same H G → xs.all plainV = true → ∀ t, G t = none → Q (.ref t) (upd G t (.tup xs)) := fun G xs sG hp t ht => by
      obtain ⟨op, h⟩ := tupP G _ t xs (Same.refl _) hp
      exact k _ _ op (sG.trans (Same.new ht)) h
    refine ⟨fun σ G => σ = [some (.ref r), some (.int m), none, none, none, none] ∧ Same H G ∧ vs ≠ [], ?_, ?_⟩
    · refine ⟨_, rfl, le_ble rfl, fun e0 he0 => ?_⟩
      have s0 : Same H (upd H e0 (.lst [])) := Same.new he0
      have hr0 := s0 r _ hA
      refine ⟨0, _, by decide, seqNil (SqL.of hr0) (SqL.of upd_same), _, rfl, ?_⟩
      generalize upd H e0 (.lst []) = G at s0 hr0
      refine iteB (fun _ => ?_) (fun he => ?_)
      · exact iteT ⟨_, rfl, r, _, rfl, .inl (SqL.of hr0), le_ble rfl, ktup G _ s0 rfl⟩
      · walk_at "rd"
        refine ite2 (fun _ => ?_) (fun _ => ?_)
        · exact ⟨_, rfl, r, _, rfl, .inl (SqL.of hr0), le_ble rfl, ktup G _ s0 rfl⟩
        · exact ⟨rfl, s0, fun z => (by rw [z] at he; cases he)⟩
    rintro σ G ⟨rfl, s0, hne⟩
    have hr0 := s0 r _ hA
    have lp : 0 < vs.length := List.length_pos_iff.mpr hne
    refine ⟨fun σ' G' => G' = G ∧ ∃ (ii : Int) (i : Nat) (ga : Addr) (g : Tr 3), σ' = [some (.ref r), some (.int m), some (.int ii), none, none, none] ∧ atI vs ii = some (.ref ga) ∧ (ls U)[i]? = some g ∧ AtR H 3 (.ref ga) g, ?_, ?_⟩
    · walk_at "rd"
      refine ⟨r, _, rfl, .inl (SqL.of hr0), _, _, rfl, rfl, by omega, ?_⟩
      obtain ⟨i, x, hi, hx, ha, _⟩ := atI_ix (xs := vs) (i := m / 6 % (vs.length : Int)) (Int.emod_nonneg _ (by omega)) (Int.emod_lt_of_pos _ (by omega))
      obtain ⟨x', g, e1, eg, kg⟩ := hat.kid hA hi
      rw [hx] at e1
      cases e1
      obtain ⟨ga, gs, rfl, _, _⟩ := kg.lst
      exact ⟨rfl, _, i, ga, g, rfl, ha, eg, kg⟩
    rintro σ' G' ⟨rfl, ii, i, ga, g, rfl, ha, eg, kg⟩
    obtain ⟨_, gs, eq, hG, glen⟩ := kg.lst
    cases eq
    have fg := fu g (List.mem_of_getElem? eg)
    have hG0 := s0 _ _ hG
    have gp : 0 < gs.length := by
      rw [glen]
      exact List.length_pos_iff.mpr fg.1
    walk_at "rd"
    refine ite2 (fun _ => ?_) (fun _ => ?_)
    · exact ⟨_, rfl, _, rfl, _, rfl, r, _, _, _, rfl, rfl, SqL.of hr0, ha, ga, _, rfl, .inl (SqL.of hG0), le_ble rfl, ktup _ _ s0 rfl⟩
    refine ⟨fun σ' G'' => G'' = G' ∧ ∃ (jj : Int) (j : Nat) (ca : Addr) (c' : Tr 2), σ' = [some (.ref r), some (.int m), some (.int ii), some (.int jj), none, none] ∧ atI gs jj = some (.ref ca) ∧ (ls g)[j]? = some c' ∧ AtR H 2 (.ref ca) c', ?_, ?_⟩
    · walk_at "rd"
      refine ⟨r, _, _, _, rfl, rfl, SqL.of hr0, ha, ga, _, rfl, .inl (SqL.of hG0), _, _, rfl, rfl, by omega, ?_⟩
      obtain ⟨j, y, hj, hy, hb, _⟩ := atI_ix (xs := gs) (i := m / 600 % (gs.length : Int)) (Int.emod_nonneg _ (by omega)) (Int.emod_lt_of_pos _ (by omega))
      obtain ⟨y', c', e2, ec, kc⟩ := kg.kid hG hj
      rw [hy] at e2
      cases e2
      obtain ⟨ca, cs, rfl, _, _⟩ := kc.lst
      exact ⟨rfl, _, j, ca, c', rfl, hb, ec, kc⟩
    rintro σ' G'' ⟨rfl, jj, j, ca, c', rfl, hb, ec, kc⟩
    obtain ⟨_, cs, eq, hC, clen⟩ := kc.lst
    cases eq
    have fc := fg.2 c' (List.mem_of_getElem? ec)
    have hC0 := s0 _ _ hC
    have cp : 0 < cs.length := by
      rw [clen]
      exact List.length_pos_iff.mpr fc.1
    walk_at "rd"
    refine ite2 (fun _ => ?_) (fun _ => ?_)
    · exact ⟨_, rfl, _, rfl, _, rfl, _, rfl, r, _, _, _, rfl, rfl, SqL.of hr0, ha, _, rfl, ga, _, _, _, rfl, rfl, SqL.of hG0, hb, ca, _, rfl, .inl (SqL.of hC0), le_ble rfl, ktup _ _ s0 rfl⟩
    refine ⟨fun σ' G => G = G'' ∧ ∃ mo : Int, σ' = [some (.ref r), some (.int m), some (.int ii), some (.int jj), some (.int mo), none], ?_, ?_⟩
    · walk_at "rd"
      first | exact ⟨rfl, _, rfl⟩ | exact ⟨_, rfl⟩
    rintro σ' G ⟨rfl, mo, rfl⟩
    refine ⟨fun σ' G' => σ' = [some (.ref r), some (.int m), some (.int ii), some (.int jj), some (.int mo), none] ∧ G' = G, ?_, ?_⟩
    · walk_at "rd"
      refine ite2 (fun _ => ?_) (fun _ => ⟨rfl, rfl⟩)
      refine ⟨le_ble rfl, fun t1 h1 => ?_⟩
      have r1 := Same.new (o := HO.tup []) h1
      have p1 := tupP G _ t1 [] (Same.refl _) rfl
      generalize upd G t1 (.tup []) = G1 at r1 p1 ⊢
      refine ⟨_, rfl, _, rfl, le_ble rfl, fun t2 h2 => ?_⟩
      have r2 := Same.new (o := HO.tup [.int ii, .int jj, .int 0, .int 0]) h2
      have p2 := tupP G1 _ t2 [.int ii, .int jj, .int 0, .int 0] (Same.refl _) rfl
      generalize upd G1 t2 (.tup [.int ii, .int jj, .int 0, .int 0]) = G2 at r2 p2 ⊢
      refine ⟨_, rfl, _, rfl, le_ble rfl, fun t3 h3 => ?_⟩
      have r3 := Same.new (o := HO.lst [.int ii, .int jj, .int 0]) h3
      have p3 : ∃ op, IsP K (upd G2 t3 (.lst [.int ii, .int jj, .int 0])) (.ref t3) op := ⟨none, .inr ⟨rfl, .inr (.inr ⟨t3, _, rfl, upd_same⟩)⟩⟩
      generalize upd G2 t3 (.lst [.int ii, .int jj, .int 0]) = G3 at r3 p3 ⊢
      refine ⟨_, rfl, _, rfl, _, rfl, le_ble rfl, fun t4 h4 => ?_⟩
      have r4 := Same.new (o := HO.tup [.int ii, .int jj, .int (-1)]) h4
      have p4 := tupP G3 _ t4 [.int ii, .int jj, .int (-1)] (Same.refl _) rfl
      generalize upd G3 t4 (.tup [.int ii, .int jj, .int (-1)]) = G4 at r4 p4 ⊢
      refine ⟨_, rfl, _, rfl, le_ble rfl, fun t5 h5 => ?_⟩
      have r5 := Same.new (o := HO.tup [.int ii, .int jj, .bl true]) h5
      have p5 := tupP G4 _ t5 [.int ii, .int jj, .bl true] (Same.refl _) rfl
      generalize upd G4 t5 (.tup [.int ii, .int jj, .bl true]) = G5 at r5 p5 ⊢
      refine ⟨le_ble rfl, fun t6 h6 => ?_⟩
      have r6 := Same.new (o := HO.tup [.str "0"]) h6
      have p6 := tupP G5 _ t6 [.str "0"] (Same.refl _) rfl
      generalize upd G5 t6 (.tup [.str "0"]) = G6 at r6 p6 ⊢
      refine ⟨_, rfl, le_ble rfl, fun t7 h7 => ?_⟩
      have r7 := Same.new (o := HO.tup [.int (-1)]) h7
      have p7 := tupP G6 _ t7 [.int (-1)] (Same.refl _) rfl
      generalize upd G6 t7 (.tup [.int (-1)]) = G7 at r7 p7 ⊢
      refine ⟨le_ble rfl, fun lo hlo => ?_⟩
      walk_at "rd"
      have m0 := Int.emod_nonneg mo (b := 9) (by decide)
      have m1 := Int.emod_lt_of_pos mo (b := 9) (by decide)
      obtain ⟨pv, hpv, hm⟩ := atI_in (xs := [V.non, V.int 5, V.ref t1, V.ref t2, V.ref t3, V.ref t4, V.ref t5, V.ref t6, V.ref t7]) (i := mo % 9) m0 (by show _ < (9 : Int); omega)
      refine ⟨lo, _, _, pv, rfl, rfl, SqL.of upd_same, hpv, ?_⟩
      have r8 := Same.new (o := HO.lst [V.non, V.int 5, V.ref t1, V.ref t2, V.ref t3, V.ref t4, V.ref t5, V.ref t6, V.ref t7]) hlo
      have sE := s0.trans (r1.trans (r2.trans (r3.trans (r4.trans (r5.trans (r6.trans (r7.trans r8)))))))
      have fin : ∀ (x : V) (G' : Hp), Same G' (upd G7 lo (.lst [V.non, V.int 5, V.ref t1, V.ref t2, V.ref t3, V.ref t4, V.ref t5, V.ref t6, V.ref t7])) → (∃ op, IsP K G' x op) → Q x (upd G7 lo (.lst [V.non, V.int 5, V.ref t1, V.ref t2, V.ref t3, V.ref t4, V.ref t5, V.ref t6, V.ref t7])) := fun x G' s ⟨op, h⟩ => k _ _ op sE (h.same s)
      generalize upd G7 lo (.lst [V.non, V.int 5, V.ref t1, V.ref t2, V.ref t3, V.ref t4, V.ref t5, V.ref t6, V.ref t7]) = G8 at r8 fin ⊢
      simp only [List.mem_cons, List.not_mem_nil, or_false] at hm
      rcases hm with rfl | rfl | rfl | rfl | rfl | rfl | rfl | rfl | rfl
      · exact fin _ G8 (Same.refl _) ⟨none, .inr ⟨rfl, .inl rfl⟩⟩
      · exact fin _ G8 (Same.refl _) ⟨none, .inr ⟨rfl, .inr (.inl ⟨5, rfl⟩)⟩⟩
      · exact fin _ G1 (r2.trans (r3.trans (r4.trans (r5.trans (r6.trans (r7.trans r8)))))) p1
      · exact fin _ G2 (r3.trans (r4.trans (r5.trans (r6.trans (r7.trans r8))))) p2
      · exact fin _ G3 (r4.trans (r5.trans (r6.trans (r7.trans r8)))) p3
      · exact fin _ G4 (r5.trans (r6.trans (r7.trans r8))) p4
      · exact fin _ G5 (r6.trans (r7.trans r8)) p5
      · exact fin _ G6 (r7.trans r8) p6
      · exact fin _ G7 r8 p7
    rintro σ' G' ⟨rfl, rfl⟩
    refine ⟨fun σ' G'' => σ' = [some (.ref r), some (.int m), some (.int ii), some (.int jj), some (.int mo), none] ∧ G'' = G', ?_, ?_⟩
    · walk_at "rd"
      refine ite2 (fun _ => ?_) (fun _ => ⟨rfl, rfl⟩)
      walk_at "rd"
      refine ite2 (fun _ => ?_) (fun _ => ⟨rfl, rfl⟩)
      refine ⟨_, rfl, r, _, rfl, .inl (SqL.of ((Same.refl G') _ _ hr0)), _, _, rfl, rfl, le_ble rfl, fun t1 h1 => ?_⟩
      have r1 := Same.new (o := HO.tup [.int ((vs.length : Int) + 1)]) h1
      have p1 := tupP G' _ t1 [.int ((vs.length : Int) + 1)] (Same.refl _) rfl
      have a1 := (Same.refl G').trans r1
      generalize upd G' t1 (.tup [.int ((vs.length : Int) + 1)]) = G1 at r1 p1 a1 ⊢
      refine ⟨_, rfl, le_ble rfl, fun t2 h2 => ?_⟩
      have r2 := Same.new (o := HO.tup [.int ii]) h2
      have p2 := tupP G1 _ t2 [.int ii] (Same.refl _) rfl
      have a2 := a1.trans r2
      generalize upd G1 t2 (.tup [.int ii]) = G2 at r2 p2 a2 ⊢
      refine ⟨_, rfl, _, rfl, _, rfl, r, _, _, _, rfl, rfl, SqL.of (a2 _ _ hr0), ha, ga, _, rfl, .inl (SqL.of (a2 _ _ hG0)), _, _, rfl, rfl, le_ble rfl, fun t3 h3 => ?_⟩
      have r3 := Same.new (o := HO.tup [.int ii, .int ((gs.length : Int) + 1)]) h3
      have p3 := tupP G2 _ t3 [.int ii, .int ((gs.length : Int) + 1)] (Same.refl _) rfl
      have a3 := a2.trans r3
      generalize upd G2 t3 (.tup [.int ii, .int ((gs.length : Int) + 1)]) = G3 at r3 p3 a3 ⊢
      refine ⟨_, rfl, _, rfl, le_ble rfl, fun t4 h4 => ?_⟩
      have r4 := Same.new (o := HO.tup [.int ii, .int jj]) h4
      have p4 := tupP G3 _ t4 [.int ii, .int jj] (Same.refl _) rfl
      have a4 := a3.trans r4
      generalize upd G3 t4 (.tup [.int ii, .int jj]) = G4 at r4 p4 a4 ⊢
      refine ⟨_, rfl, r, _, rfl, .inl (SqL.of (a4 _ _ hr0)), le_ble rfl, fun t5 h5 => ?_⟩
      have r5 := Same.new (o := HO.tup [.int (vs.length : Int), .int 0, .int 0]) h5
      have p5 := tupP G4 _ t5 [.int (vs.length : Int), .int 0, .int 0] (Same.refl _) rfl
      have a5 := a4.trans r5
      generalize upd G4 t5 (.tup [.int (vs.length : Int), .int 0, .int 0]) = G5 at r5 p5 a5 ⊢
      refine ⟨_, rfl, _, rfl, _, rfl, r, _, _, _, rfl, rfl, SqL.of (a5 _ _ hr0), ha, ga, _, rfl, .inl (SqL.of (a5 _ _ hG0)), le_ble rfl, fun t6 h6 => ?_⟩
      have r6 := Same.new (o := HO.tup [.int ii, .int (gs.length : Int), .int 0]) h6
      have p6 := tupP G5 _ t6 [.int ii, .int (gs.length : Int), .int 0] (Same.refl _) rfl
      have a6 := a5.trans r6
      generalize upd G5 t6 (.tup [.int ii, .int (gs.length : Int), .int 0]) = G6 at r6 p6 a6 ⊢
      refine ⟨_, rfl, _, rfl, _, rfl, _, rfl, r, _, _, _, rfl, rfl, SqL.of (a6 _ _ hr0), ha, _, rfl, ga, _, _, _, rfl, rfl, SqL.of (a6 _ _ hG0), hb, ca, _, rfl, .inl (SqL.of (a6 _ _ hC0)), _, _, rfl, rfl, le_ble rfl, fun t7 h7 => ?_⟩
      have r7 := Same.new (o := HO.tup [.int ii, .int jj, .int ((cs.length : Int) + 1)]) h7
      have p7 := tupP G6 _ t7 [.int ii, .int jj, .int ((cs.length : Int) + 1)] (Same.refl _) rfl
      have a7 := a6.trans r7
      generalize upd G6 t7 (.tup [.int ii, .int jj, .int ((cs.length : Int) + 1)]) = G7 at r7 p7 a7 ⊢
      refine ⟨_, _, rfl, rfl, (⟨by decide, by decide, by decide⟩ : CPow _ _), le_ble rfl, fun t8 h8 => ?_⟩
      have r8 := Same.new (o := HO.tup [.int ((10 : Int) ^ Int.toNat 20)]) h8
      have p8 := tupP G7 _ t8 [.int ((10 : Int) ^ Int.toNat 20)] (Same.refl _) rfl
      have a8 := a7.trans r8
      generalize upd G7 t8 (.tup [.int ((10 : Int) ^ Int.toNat 20)]) = G8 at r8 p8 a8 ⊢
      refine ⟨_, rfl, _, _, rfl, rfl, (⟨by decide, by decide, by decide⟩ : CPow _ _), le_ble rfl, fun t9 h9 => ?_⟩
      have r9 := Same.new (o := HO.tup [.int ii, .int ((10 : Int) ^ Int.toNat 20), .int 0]) h9
      have p9 := tupP G8 _ t9 [.int ii, .int ((10 : Int) ^ Int.toNat 20), .int 0] (Same.refl _) rfl
      have a9 := a8.trans r9
      generalize upd G8 t9 (.tup [.int ii, .int ((10 : Int) ^ Int.toNat 20), .int 0]) = G9 at r9 p9 a9 ⊢
      refine ⟨le_ble rfl, fun lo hlo => ?_⟩
      walk_at "rd"
      have m0 := Int.emod_nonneg (mo / 4) (b := 9) (by decide)
      have m1 := Int.emod_lt_of_pos (mo / 4) (b := 9) (by decide)
      obtain ⟨pv, hpv, hm⟩ := atI_in (xs := [V.ref t1, V.ref t2, V.ref t3, V.ref t4, V.ref t5, V.ref t6, V.ref t7, V.ref t8, V.ref t9]) (i := mo / 4 % 9) m0 (by show _ < (9 : Int); omega)
      refine ⟨lo, _, _, pv, rfl, rfl, SqL.of upd_same, hpv, ?_⟩
      have rE := Same.new (o := HO.lst [V.ref t1, V.ref t2, V.ref t3, V.ref t4, V.ref t5, V.ref t6, V.ref t7, V.ref t8, V.ref t9]) hlo
      have sE := s0.trans (a9.trans rE)
      have fin : ∀ (x : V) (G' : Hp), Same G' (upd G9 lo (.lst [V.ref t1, V.ref t2, V.ref t3, V.ref t4, V.ref t5, V.ref t6, V.ref t7, V.ref t8, V.ref t9])) → (∃ op, IsP K G' x op) → Q x (upd G9 lo (.lst [V.ref t1, V.ref t2, V.ref t3, V.ref t4, V.ref t5, V.ref t6, V.ref t7, V.ref t8, V.ref t9])) := fun x G' s ⟨op, h⟩ => k _ _ op sE (h.same s)
      generalize upd G9 lo (.lst [V.ref t1, V.ref t2, V.ref t3, V.ref t4, V.ref t5, V.ref t6, V.ref t7, V.ref t8, V.ref t9]) = G10 at rE fin ⊢
      simp only [List.mem_cons, List.not_mem_nil, or_false] at hm
      rcases hm with rfl | rfl | rfl | rfl | rfl | rfl | rfl | rfl | rfl
      · exact fin _ G1 (r2.trans (r3.trans (r4.trans (r5.trans (r6.trans (r7.trans (r8.trans (r9.trans rE)))))))) p1
      · exact fin _ G2 (r3.trans (r4.trans (r5.trans (r6.trans (r7.trans (r8.trans (r9.trans rE))))))) p2
      · exact fin _ G3 (r4.trans (r5.trans (r6.trans (r7.trans (r8.trans (r9.trans rE)))))) p3
      · exact fin _ G4 (r5.trans (r6.trans (r7.trans (r8.trans (r9.trans rE))))) p4
      · exact fin _ G5 (r6.trans (r7.trans (r8.trans (r9.trans rE)))) p5
      · exact fin _ G6 (r7.trans (r8.trans (r9.trans rE))) p6
      · exact fin _ G7 (r8.trans (r9.trans rE)) p7
      · exact fin _ G8 (r9.trans rE) p8
      · exact fin _ G9 rE p9
    rintro σ' G' ⟨rfl, rfl⟩
    walk_at "rd"
    refine ⟨r, _, _, _, rfl, rfl, SqL.of hr0, ha, _, rfl, ga, _, _, _, rfl, rfl, SqL.of hG0, hb, ca, _, rfl, .inl (SqL.of hC0), _, _, rfl, rfl, by omega, le_ble rfl, ktup _ _ s0 rfl⟩

set_option maxHeartbeats 4000000 in
theorem ok_Ldue (T : Txt w K mg c) : FnOk P w K mg base CX0 1 c.a_Ldue c.d_Ldue ["_law_left_here", "_law_sheet_here", "_law_path_here"] (spDueL K) := by
  refine T.Ldue.fn.ok sc_Ldue (fun vs H Q E h => ?_) (fun cdv A outer s H vs Q E hr h => ?_)
  · obtain ⟨v, s', p, op, U, o, rfl, _⟩ := h
    rfl
  · obtain ⟨v, s', p, op, U, o, rfl, hat, dm, fu, hz, ip, k1, k2⟩ := h
    refine ⟨_, (pss_cons (ps_if (PW.pt (pw_or (pt_not (pt_val (pe_callB call_isiA rfl T.no_isinstance bt_isinstance (pa_cons (pv 2) (pa_cons (pe_bltn (v := .ty "tuple") rfl T.no_tuple bt_tuple rfl) pa_nil))))) (pw_or (pt_cmpR op_lt (pe_callB call_len_seq rfl T.no_len bt_len (pa_cons (pv 2) pa_nil)) pe_int (nomark _)) (pw_or1 (pt_cmpR op_gt (pe_callB call_len_seq rfl T.no_len bt_len (pa_cons (pv 2) pa_nil)) pe_int (nomark _))))))
        (pss_one (ps_ret pe_non))
        pss_nil)
      (pss_cons (ps_for PassesOwn.never rfl (pi_tup (pv 2)) (pg_name (i := 3) sc_Ldue.nd rfl (Or.inl rfl))
        (pss_one (ps_if (PW.pt (pw_or (pt_not (pt_val (pe_callB call_isiA rfl T.no_isinstance bt_isinstance (pa_cons (pv 3) (pa_cons (pe_bltn (v := .ty "int") rfl T.no_int bt_int rfl) pa_nil))))) (pw_or (pt_val (pe_callB call_isiA rfl T.no_isinstance bt_isinstance (pa_cons (pv 3) (pa_cons (pe_bltn (v := .ty "bool") rfl T.no_bool bt_bool rfl) pa_nil)))) (pw_or1 (pt_cmpR op_lt (pv 3) pe_int (nomark _))))))
        (pss_one (ps_ret pe_non))
        pss_nil)))
      (pss_cons (ps_set (i := 4) sc_Ldue.nd rfl (Or.inl rfl) (pv 0))
      (pss_cons (ps_for PassesOwn.never rfl (pi_tup (pe_slice sl_tup (pv 2) po_none (po_some (pe_un un_neg pe_int)))) (pg_name (i := 3) sc_Ldue.nd rfl (Or.inl rfl))
        (pss_cons (ps_if (pt_cmpR op_ge (pv 3) (pe_callB call_len_seq rfl T.no_len bt_len (pa_cons (pv 4) pa_nil)) (nomark _))
        (pss_one (ps_ret pe_non))
        pss_nil)
      (pss_one (ps_set (i := 4) sc_Ldue.nd rfl (Or.inl rfl) (pe_ix ix_list (pv 4) (pv 3) (fun _ _ => rfl))))))
      (pss_cut (ps_if (PW.pt (pw_and (pt_cmpR op_lt (pe_ix ix_tup (pv 2) (pe_un un_neg pe_int) (fun _ _ => rfl)) (pe_callB call_len_seq rfl T.no_len bt_len (pa_cons (pv 4) pa_nil)) (nomark _)) (pw_and1 (pt_cmpR op_eq (pe_callB call_len_seq rfl T.no_len bt_len (pa_cons (pv 2) pa_nil)) pe_int (nomark _)))))
        (pss_cons (ps_asg (pe_callB (call_sorted rfl) rfl T.no_sorted bt_sorted (pa_cons (pe_op op_cat (pe_ix ix_list (pv 4) (pe_ix ix_tup (pv 2) (pe_un un_neg pe_int) (fun _ _ => rfl)) (fun _ _ => rfl)) (pe_lst (pa_cons (pv 1) pa_nil))) pa_nil)) (pg_sub (pv 4) (pe_ix ix_tup (pv 2) (pe_un un_neg pe_int) (fun _ _ => rfl)) set_list))
      (pss_one (ps_ret (pv 0))))
        pss_nil)
      (pss_cons (ps_if (pt_cmpR op_ne (pe_ix ix_tup (pv 2) (pe_un un_neg pe_int) (fun _ _ => rfl)) (pe_callB call_len_seq rfl T.no_len bt_len (pa_cons (pv 4) pa_nil)) (nomark _))
        (pss_one (ps_ret pe_non))
        pss_nil)
      (pss_cons (ps_expr (pe_bm PySem.F.plainAttrs_list PySem.F.slot_list_append PySem.F.type_list_append (MtM.r mt_append) (pv 4) (pa_cons (pe_ix ix_list (pe_lst (pa_cons (pe_lst (pa_cons (pe_lst (pa_cons (pe_lst (pa_cons (pv 1) pa_nil)) pa_nil)) pa_nil)) (pa_cons (pe_lst (pa_cons (pe_lst (pa_cons (pv 1) pa_nil)) pa_nil)) (pa_cons (pe_lst (pa_cons (pv 1) pa_nil)) pa_nil)))) (pe_op op_sub (pe_callB call_len_seq rfl T.no_len bt_len (pa_cons (pv 2) pa_nil)) pe_int) (fun _ _ => rfl)) pa_nil)))
      (pss_one (ps_ret (pv 0)))))))))), ?_⟩
    obtain ⟨r, rvs, rfl, _, _, _⟩ := hat.lst
    have sz : 2000 < sizeLine := le_ble rfl
    rcases ip with ⟨pa, xs, rfl, hx, hp, rfl⟩ | ⟨rfl, ip⟩
    rotate_left
    · have q := k1 rfl H (Same.refl H)
      rcases ip with rfl | ⟨i, rfl⟩ | ⟨a, xs, rfl, hx⟩
      · exact ⟨_, rfl, rIsiA.ty .non rfl ⟨_, rfl, iteT q⟩⟩
      · exact ⟨_, rfl, rIsiA.ty (.int i) rfl ⟨_, rfl, iteT q⟩⟩
      · exact ⟨_, rfl, rIsiA.ty (.lst hx) rfl ⟨_, rfl, iteT q⟩⟩
    refine ⟨_, rfl, rIsiA.ty (.tup hx) rfl ⟨_, rfl, iteF ?_⟩⟩
    refine ⟨_, rfl, pa, _, rfl, .inr (SqT.of hx), _, _, rfl, rfl, _, rfl, ?_⟩
    refine ite2 (fun z => ?_) (fun z => ?_)
    · have z := of_decide_eq_true z
      have e0 : pathQ xs = none := if_neg (fun y => by omega)
      exact k1 (by rw [e0]; rfl) H (Same.refl H)
    have z1 : ¬ ((xs.length : Int) < 1) := fun y => z (decide_eq_true y)
    refine ⟨_, rfl, pa, _, rfl, .inr (SqT.of hx), _, _, rfl, rfl, _, rfl, ?_⟩
    refine ite2 (fun z => ?_) (fun z => ?_)
    · have z := of_decide_eq_true z
      have e0 : pathQ xs = none := if_neg (fun y => by omega)
      exact k1 (by rw [e0]; rfl) H (Same.refl H)
    have z2 : ¬ ((3 : Int) < (xs.length : Int)) := fun y => z (decide_eq_true y)
    have e0 : pathQ xs = nonN xs := if_pos ⟨by omega, by omega⟩
    have bad : ∀ (i : Nat) (x : V), xs[i]? = some x → okP x = false → Q .non H := fun i x hxi ho => k1 (by
      have e1 : nonN xs = none := by
        have := nonN_some xs
        have e2 : xs.all okP = false := by
          rw [Bool.eq_false_iff]
          intro h
          have := List.all_eq_true.mp h x (List.mem_of_getElem? hxi)
          rw [ho] at this
          cases this
        rw [e2] at this
        cases e3 : nonN xs with
        | none => rfl
        | some q => rw [e3] at this; cases this
      rw [e0, e1]
      rfl) H (Same.refl H)
    refine ⟨_, rfl, pa, rfl, ⟨_, SqT.of hx⟩, ?_⟩
    refine for_tup (xs := xs) (fun i σ G => G = H ∧ (∃ z3, σ = [some (.ref r), some (.int s'), some (.ref pa), z3, none]) ∧ (xs.take i).all okP = true) ?_ ?_ ?_ ?_
    · exact ⟨rfl, ⟨_, rfl⟩, rfl⟩
    · rintro i σ G _ ⟨rfl, _⟩
      exact SqT.of hx
    · rintro i x σ G hxi ⟨rfl, ⟨z3, rfl⟩, ho⟩
      have hpx := hp x (List.mem_of_getElem? hxi)
      have bx := bad i x hxi
      have hs : ∀ b, b = okP x → (xs.take (i + 1)).all okP = b := fun b e => by
        rw [take_one hxi, List.all_append, ho, e, Bool.true_and]
        show (okP x && true) = okP x
        rw [Bool.and_true]
      cases x with
      | int j =>
        refine ⟨_, rfl, rIsiA.ty (.int j) rfl ⟨_, rfl, iteF ⟨_, rfl, rIsiA.ty (.int j) rfl ⟨_, rfl, iteF ⟨_, rfl, _, _, rfl, rfl, _, rfl, ?_⟩⟩⟩⟩⟩
        refine ite2 (fun z => ?_) (fun z => ?_)
        · have z := of_decide_eq_true z
          exact bx (decide_eq_false (by omega))
        · have z : ¬ (j < 0) := fun y => z (decide_eq_true y)
          exact ⟨rfl, ⟨_, rfl⟩, hs true (decide_eq_true (show 0 ≤ j by omega)).symm⟩
      | bl b => exact ⟨_, rfl, rIsiA.ty (.bl b) rfl ⟨_, rfl, iteF ⟨_, rfl, rIsiA.ty (.bl b) rfl ⟨_, rfl, iteT (bx rfl)⟩⟩⟩⟩
      | str z => exact ⟨_, rfl, rIsiA.ty (.str z) rfl ⟨_, rfl, iteT (bx rfl)⟩⟩
      | _ => exact absurd (show false = true from hpx) Bool.false_ne_true
    rintro σ G ⟨rfl, ⟨z3, rfl⟩, ho⟩
    rw [List.take_of_length_le (Nat.le_refl _)] at ho
    obtain ⟨q, hq⟩ := Option.isSome_iff_exists.mp ((nonN_some xs).trans ho)
    rw [e0, hq] at k1 k2
    have k1 : lay 2 U s' q = none → ∀ H', Same G H' → Q .non H' := k1
    have k2 : ∀ U', lay 2 U s' q = some U' → ∀ o' H', Chg o G o' H' (.ref r) U' → Q (.ref r) H' := k2
    obtain ⟨rfl, h0⟩ := nonN_is hq
    rw [List.length_map] at z1 z2
    have hne : q.map V.int ≠ [] := fun z => by
      have := congrArg List.length z
      rw [List.length_map] at this
      have : q.length = 0 := this
      omega
    refine ⟨_, rfl, ?_⟩
    walk_at "rd"
    refine ⟨pa, _, rfl, SqT.of hx, cut_part hne, fun sp hsp => ?_⟩
    rw [cut_last hne]
    have s0 : Same G (upd G sp (.tup (q.map V.int).dropLast)) := Same.new hsp
    have hsp1 := upd_same (H := G) (a := sp) (o := .tup (q.map V.int).dropLast)
    generalize upd G sp (.tup (q.map V.int).dropLast) = G0 at s0 hsp1 ⊢
    have at0 : At o G0 4 [] (.ref r) U := hat.frame fun b q xs hb _ hx => ⟨s0 b _ hx, hb⟩
    have dm0 : Dom o G0 := fun b q hb => by
      cases e : G b with
      | none => exact absurd e (dm b q hb)
      | some u => rw [s0 b u e]; intro z; cases z
    have hP0 := s0 _ _ hx
    refine ⟨sp, rfl, ⟨_, SqT.of hsp1⟩, ?_⟩
    
    refine for_tup (xs := (q.map V.int).dropLast) (fun i σ G => G = G0 ∧ ∃ a z4, σ = [some (.ref r), some (.int s'), some (.ref pa), z4, some (.ref a)] ∧ ∃ (n : Nat) (p : List Nat) (t : Tr (n + 2)) (C : Tr (n + 2) → Tr 4), i + n = 2 ∧ Hole o G0 (.ref r) (n + 1) p a t C ∧ (∀ x ∈ ls t, full (n + 1) x) ∧ (flat (n + 2) t).length < 63 ∧ lay 2 U s' q = (lay n t s' (q.drop i)).map C) ?_ ?_ ?_ ?_
    · exact ⟨rfl, r, _, rfl, 2, [], U, id, rfl, Hole.top at0, fu, hz, by rw [List.drop_zero, Option.map_id]; rfl⟩
    · rintro i σ G _ ⟨rfl, _⟩
      exact SqT.of hsp1
    · rintro i x σ G hx ⟨rfl, a, z4, rfl, n, p, t, C, hn, ho, ft, hf, el⟩
      have hi := (List.getElem?_eq_some_iff.mp hx).1
      rw [List.length_dropLast, List.length_map] at hi
      have hx : (q.map V.int)[i]? = some x := by
        rw [List.dropLast_eq_take, List.getElem?_take_of_lt (by rw [List.length_map]; exact hi)] at hx
        exact hx
      obtain ⟨j, hj, rfl⟩ := getI hx
      have j0 := h0 j (List.mem_of_getElem? hj)
      have ed : ∃ j' r', q.drop i = j :: j' :: r' ∧ q.drop (i + 1) = j' :: r' := by
        have hi1 : i < q.length := by omega
        have hi2 : i + 1 < q.length := by omega
        have e1 : q.drop i = q[i] :: q.drop (i + 1) := (List.getElem_cons_drop hi1).symm
        have e2 : q.drop (i + 1) = q[i + 1] :: q.drop (i + 1 + 1) := (List.getElem_cons_drop hi2).symm
        have e3 : q[i] = j := (List.getElem?_eq_some_iff.mp hj).2
        exact ⟨q[i + 1], q.drop (i + 1 + 1), by rw [e1, e2, e3], e2⟩
      obtain ⟨j', r', ed, ed'⟩ := ed
      obtain ⟨_, vs, e, oa, hA, la⟩ := ho.at_.lst
      cases e
      refine ⟨_, rfl, _, rfl, a, _, rfl, .inl (SqL.of hA), _, _, rfl, rfl, _, rfl, ?_⟩
      refine ite2 (fun z => ?_) (fun z => ?_)
      · have z := of_decide_eq_true z
        have el0 : lay 2 U s' q = none := by rw [el, ed, lay_no (by omega)]; rfl
        exact k1 el0 _ s0
      · have z : ¬ ((vs.length : Int) ≤ j) := fun y => z (decide_eq_true y)
        obtain ⟨n', rfl⟩ : ∃ n', n = n' + 1 := ⟨n - 1, by omega⟩
        obtain ⟨w, g, ew, eg, kg⟩ := ho.at_.kid hA (j := j.toNat) (by omega)
        obtain ⟨b, _, rfl, _, _, _⟩ := kg.lst
        have fl := flat_len eg
        refine ⟨_, rfl, _, rfl, a, _, _, _, rfl, rfl, SqL.of hA, atI_toNat j0 ew, ?_⟩
        refine ⟨rfl, b, _, rfl, n', j.toNat :: p, g, _, by omega, ho.kid dm0 hA ew eg, fun x hx => (ft g (List.mem_of_getElem? eg)).2 x hx, ?_, ?_⟩
        · have e5 : (flat (n' + 1 + 2) t).length = (flat (n' + 2 + 1) (ls t : List (Tr (n' + 2)))).length := rfl
          omega
        · rw [el, ed, ed', lay_in (by omega) eg]
          cases lay n' g s' (j' :: r') <;> rfl
    rintro σ G ⟨rfl, a, z4, rfl, n, p, t, C, hn, ho, ft, hf, el⟩
    rw [List.length_dropLast, List.length_map] at hn el
    have hq1 : q.length - 1 < q.length := by omega
    obtain ⟨j, ej⟩ : ∃ j, j = q[q.length - 1] := ⟨_, rfl⟩
    have ed : q.drop (q.length - 1) = [j] := by
      rw [← List.getElem_cons_drop hq1, ← ej, List.drop_of_length_le (by omega)]
    have hl : atI (q.map V.int) (-1) = some (V.int j) := by
      have e : q = q.take (q.length - 1) ++ [j] := by rw [← ed, List.take_append_drop]
      rw [e, List.map_append]
      exact atI_last _ _
    have j0 : 0 ≤ j := h0 j (by rw [ej]; exact List.getElem_mem hq1)
    rw [ed] at el
    obtain ⟨_, vs, e, oa, hA, la⟩ := ho.at_.lst
    cases e
    have lv : vs.length < 63 := by
      have h1 := flat_full (fun x hx => ft x hx) (ts := ls t)
      have e5 : (flat (n + 2) t).length = (flat (n + 1 + 1) (ls t : List (Tr (n + 1)))).length := rfl
      omega
    
    refine ⟨fun σ' G' => σ' = [some (.ref r), some (.int s'), some (.ref pa), z4, some (.ref a)] ∧ G' = G ∧ ¬ (j < (vs.length : Int) ∧ q.length = 3), ?_, ?_⟩
    · refine ⟨_, rfl, _, rfl, pa, _, _, _, rfl, rfl, SqT.of hP0, hl, _, rfl, a, _, rfl, .inl (SqL.of hA), _, _, rfl, rfl, _, rfl, ?_⟩
      refine ite2 (fun y => ?_) (fun y => ⟨rfl, rfl, fun z => y (decide_eq_true z.1)⟩)
      have y := of_decide_eq_true y
      refine ⟨_, rfl, pa, _, rfl, .inr (SqT.of hP0), rfl, _, rfl, ?_⟩
      refine ite2 (fun x => ?_) (fun x => ⟨rfl, rfl, fun z => x (by rw [List.length_map, z.2]; rfl)⟩)
      have x := V.int.inj (of_decide_eq_true x)
      rw [List.length_map] at x
      obtain rfl : n = 0 := by omega
      obtain ⟨w, f, ew, ef, kf⟩ := ho.at_.kid hA (j := j.toNat) (by omega)
      obtain ⟨fl, hfl⟩ : ∃ fl : List Int, fl = f := ⟨f, rfl⟩
      subst hfl
      obtain ⟨fa, _, rfl, _, _, _⟩ := kf.lst
      have hF := AtR.ints (ns := fl) kf.r
      have hfl : fl.length < 63 := by
        have h1 := flat_len ef
        have h2 := congrArg List.length (flat_ints fl)
        have e5 : (flat (0 + 2) t).length = (flat (1 + 1) (ls t : List (Tr 1))).length := rfl
        omega
      refine ⟨_, rfl, _, rfl, _, rfl, pa, _, _, _, rfl, rfl, SqT.of hP0, hl, a, _, _, _, rfl, rfl, SqL.of hA, atI_toNat j0 ew, _, rfl, le_ble rfl, fun q1 h1 => ?_⟩
      have s1 : Same G (upd G q1 (.lst [.int s'])) := Same.new h1
      have e60 : (List.map V.int fl).length = fl.length := List.length_map ..
      refine ⟨fa, q1, _, _, rfl, rfl, s1 _ _ hF, upd_same, ?_, fun q2 h2 => ?_⟩
      · have : [V.int s'].length = 1 := rfl
        omega
      have s2 : Same (upd G q1 (.lst [.int s'])) (upd (upd G q1 (.lst [.int s'])) q2 (.lst (List.map V.int fl ++ [.int s']))) := Same.new h2
      refine ⟨q2, List.append fl [s'], rfl, SqL.of (by rw [upd_same]; exact congrArg (fun z => some (HO.lst z)) (List.map_append (f := V.int) (l₁ := fl) (l₂ := [s'])).symm), ?_, fun q3 ms h3 pm ps => ?_⟩
      · show (fl ++ [s']).length < 64
        rw [List.length_append]
        have : [s'].length = 1 := rfl
        omega
      have s3 := (s1.trans s2).trans (Same.new (o := HO.lst (ms.map V.int)) h3)
      have n3 : New G (upd (upd (upd G q1 (.lst [.int s'])) q2 (.lst (List.map V.int fl ++ [.int s']))) q3 (.lst (ms.map V.int))) 1 (.ref q3) ms := New.ints ((s1.trans s2).free h3) upd_same
      obtain ⟨o', x, a1⟩ := ho.at_.setN dm0 hA (i := j.toNat) (by omega) s3 n3
      have a2 := ho.up o' _ a p _ _ s3 x oa (List.suffix_refl _) a1
      obtain ⟨e1, e2⟩ := putEnd (u := .lst (vs.set j.toNat (.ref q3))) x s3 oa
      have hix : ixN vs.length j = some j.toNat := by
        unfold ixN
        rw [if_pos j0, if_pos (by omega)]
      refine ⟨_, rfl, _, rfl, _, rfl, pa, _, _, _, rfl, rfl, SqT.of (s3 _ _ hP0), hl, a, _, _, j.toNat, rfl, rfl, s3 _ _ hA, hix, ?_⟩
      exact ⟨_, rfl, k2 _ (by rw [el, lay_form (by omega) ef, ← srt_is pm ps]; rfl) o' _ ⟨fun b u hb hu => e1 b u hb (s0 b u hu), a2, x.after dm0 s3, fun b q hq hb => s0.free (e2 b q hq hb)⟩⟩
    rintro σ' G' ⟨rfl, rfl, hno⟩
    refine ⟨_, rfl, _, rfl, pa, _, _, _, rfl, rfl, SqT.of hP0, hl, _, rfl, a, _, rfl, .inl (SqL.of hA), rfl, _, rfl, ?_⟩
    refine ite2 (fun z => ?_) (fun z => ?_)
    · have z : j ≠ (vs.length : Int) := fun y => by rw [y, decide_eq_true rfl] at z; exact absurd z (by decide)
      exact k1 (by rw [el, lay_no0 (by omega) (fun y => hno ⟨by omega, by omega⟩)]; rfl) _ s0
    have z : j = (vs.length : Int) := V.int.inj (Decidable.of_not_not (p := V.int j = V.int (vs.length : Int)) (fun y => z (by rw [decide_eq_false y]; rfl)))
    refine ⟨_, rfl, .inl ⟨rfl, _, SqL.of hA⟩, _, rfl, le_ble rfl, fun q1 h1 => ⟨le_ble rfl, fun q2 h2 => ⟨le_ble rfl, fun q3 h3 => ?_⟩⟩⟩
    have a1 : New G' (upd G' q1 (.lst [.int s'])) 1 (.ref q1) (solo 1 s') := newSolo (New.int (i := s')) h1 (Same.refl G')
    have a2 := newSolo a1 h2 (Same.new h1)
    have N3 := newSolo a2 h3 ((Same.new h1).trans (Same.new h2))
    have sA := ((Same.new (o := HO.lst [.int s']) h1).trans (Same.new (o := HO.lst [.ref q1]) h2)).trans (Same.new (o := HO.lst [.ref q2]) h3)
    generalize upd (upd (upd G' q1 (.lst [.int s'])) q2 (.lst [.ref q1])) q3 (.lst [.ref q2]) = GA at N3 sA ⊢
    refine ⟨_, rfl, le_ble rfl, fun q4 h4 => ⟨le_ble rfl, fun q5 h5 => ?_⟩⟩
    have b1 : New GA (upd GA q4 (.lst [.int s'])) 1 (.ref q4) (solo 1 s') := newSolo (New.int (i := s')) h4 (Same.refl GA)
    have N2 := (newSolo b1 h5 (Same.new h4)).older sA
    have sB := (Same.new (o := HO.lst [.int s']) h4).trans (Same.new (o := HO.lst [.ref q4]) h5)
    generalize upd (upd GA q4 (.lst [.int s'])) q5 (.lst [.ref q4]) = GB at N2 sB ⊢
    refine ⟨_, rfl, le_ble rfl, fun q6 h6 => ?_⟩
    have N1 : New G' (upd GB q6 (.lst [.int s'])) 1 (.ref q6) (solo 1 s') := (newSolo (New.int (i := s')) h6 (Same.refl GB)).older (sA.trans sB)
    have sC := Same.new (o := HO.lst [.int s']) h6
    generalize upd GB q6 (.lst [.int s']) = GC at N1 sC ⊢
    refine ⟨le_ble rfl, fun q7 h7 => ?_⟩
    have sD := Same.new (o := HO.lst [.ref q3, .ref q5, .ref q6]) h7
    have hL := upd_same (H := GC) (a := q7) (o := .lst [.ref q3, .ref q5, .ref q6])
    have N3 := N3.same (sB.trans (sC.trans sD))
    have N2 := N2.same (sC.trans sD)
    have N1 := N1.same sD
    have s1 := sA.trans (sB.trans (sC.trans sD))
    generalize upd GC q7 (.lst [.ref q3, .ref q5, .ref q6]) = G1 at sD hL N3 N2 N1 s1 ⊢
    obtain ⟨w, hw, n1⟩ : ∃ w, atI [V.ref q3, V.ref q5, V.ref q6] (((q.map V.int).length : Int) - 1) = some w ∧ New G' G1 (n + 1) w (solo (n + 1) s') := by
      rw [List.length_map]
      match n, hn with
      | 0, hn => exact ⟨_, by rw [show ((q.length : Nat) : Int) - 1 = ((2 : Nat) : Int) by omega]; exact atI_nat (j := 2) rfl, N1⟩
      | 1, hn => exact ⟨_, by rw [show ((q.length : Nat) : Int) - 1 = ((1 : Nat) : Int) by omega]; exact atI_nat (j := 1) rfl, N2⟩
      | 2, hn => exact ⟨_, by rw [show ((q.length : Nat) : Int) - 1 = ((0 : Nat) : Int) by omega]; exact atI_nat (j := 0) rfl, N3⟩
      | m + 3, hn => omega
    refine ⟨_, rfl, pa, _, rfl, .inr (SqT.of (s1 _ _ hP0)), _, _, rfl, rfl, q7, _, _, w, rfl, rfl, SqL.of hL, hw, ?_⟩
    obtain ⟨o', x, a1⟩ := ho.at_.appN dm0 hA s1 n1
    have a2 := ho.up o' G1 a p _ _ s1 x oa (List.suffix_refl _) a1
    obtain ⟨e1, e2⟩ := putEnd (u := .lst (vs ++ [w])) x s1 oa
    exact ⟨a, _, _, rfl, rfl, s1 _ _ hA, by omega, _, rfl, k2 _ (by rw [el, lay_last (by omega)]; rfl) o' _ ⟨fun b u hb hu => e1 b u hb (s0 b u hu), a2, x.after dm0 s1, fun b q hq hb => s0.free (e2 b q hq hb)⟩⟩

set_option maxHeartbeats 4000000 in
theorem ok_Lrefused (T : Txt w K mg c) : FnOk P w K mg base CX0 9 c.a_Lrefused c.d_Lrefused ["_law_sorting_here", "_law_sheet_here", "_law_path_here"] (spRefP K) := by
  refine T.Lrefused.fn.ok sc_Lrefused (fun vs H Q E h => ?_) (fun cdv A outer s H vs Q E hr h => ?_)
  · obtain ⟨v, s', p, op, S, rfl, _⟩ := h
    rfl
  · obtain ⟨v, s', p, op, S, rfl, hat, wf, hz, hin, ip, hno, k⟩ := h
    refine ⟨_, (pss_cons (ps_set (i := 3) sc_Lrefused.nd rfl (Or.inl rfl) pe_non)
      (pss_cut (ps_try rfl rfl rfl sc_Lrefused.nd (i := 4) rfl rfl rfl T.mg_RightError (fun Ez pins W hp =>
        (pss_one (ps_expr (pe_callS (ok_laid T) (hr.mono (by decide)) rfl T.laid.mgf T.laid.kp T.laid.bi .nil hp (pa_cons (pv 0) (pa_cons (pv 1) (pa_cons (pv 2) pa_nil)))))))
        (fun e => (pss_one (ps_set (i := 3) sc_Lrefused.nd rfl (Or.inl rfl) (pv 4)))))
      (pss_cons (ps_if (PW.pt (pw_or (pt_not (pt_val (pe_callB call_isiA rfl T.no_isinstance bt_isinstance (pa_cons (pv 3) (pa_cons (pe_glob (v := .ref c.c_NoPath) rfl T.mg_NoPath rfl) pa_nil))))) (pw_or1 (pt_not (pt_val (pe_callB call_isiA rfl T.no_isinstance bt_isinstance (pa_cons (pv 3) (pa_cons (pe_bltn (v := .ty "ValueError") rfl T.no_ValueError bt_ValueError rfl) pa_nil))))))))
        (pss_one (ps_ret pe_bl))
        pss_nil)
      (pss_one (ps_ret (pe_and (pe_not (pe_callB call_isiA rfl T.no_isinstance bt_isinstance (pa_cons (pv 3) (pa_cons (pe_glob (v := .ref c.c_NoSorting) rfl T.mg_NoSorting rfl) pa_nil)))) (pe_one (pe_not (pe_callB call_isiA rfl T.no_isinstance bt_isinstance (pa_cons (pv 3) (pa_cons (pe_glob (v := .ref c.c_NoSheet) rfl T.mg_NoSheet rfl) pa_nil))))))))))), ?_⟩
    refine ⟨fun σ G => ∃ e, σ = [some v, some (.int s'), some p, some (.ref e), none] ∧ Same H G ∧ G e = some (exO (.ref c.c_NoPath) none e), ?_, ?_⟩
    · refine ⟨fun σ1 C dd H1 => σ1 = [some v, some (.int s'), some p, some .non, none] ∧ C = .ref c.c_NoPath ∧ dd = none ∧ Same H H1, fun pins W => ?_, ?_⟩
      · exact ⟨_, rfl, _, rfl, _, rfl, v, s', p, op, S, rfl, hat, wf, hz, hin, ip, fun _ G sG => ⟨rfl, rfl, rfl, sG⟩, fun U' e => absurd (hno.symm.trans e) (by intro z; cases z)⟩
      · rintro σ1 C dd H1 ⟨rfl, rfl, rfl, sH⟩
        exact ⟨T.e_NoPath_RightError, fun e he => ⟨_, rfl, e, rfl, sH.trans (Same.new he), upd_same⟩⟩
    rintro σ G ⟨e, rfl, sG, he⟩
    refine ⟨_, rfl, rIsiA.exc he T.q_NoPath T.i_NoPath_NoPath ⟨_, rfl, iteF ?_⟩⟩
    refine ⟨_, rfl, rIsiA.excT he T.q_NoPath T.i_NoPath_ValueError ⟨_, rfl, iteF ?_⟩⟩
    refine ⟨_, rfl, rIsiA.exc he T.q_NoPath T.i_NoPath_NoSorting ⟨_, rfl, _, rfl, iteT ?_⟩⟩
    exact ⟨_, rfl, rIsiA.exc he T.q_NoPath T.i_NoPath_NoSheet ⟨_, rfl, k G sG⟩⟩

set_option maxHeartbeats 4000000 in
theorem ok_Lright (T : Txt w K mg c) : FnOk P w K mg base CX0 10 c.a_Lright c.d_Lright ["_law_sorting_here", "_law_sheet_here", "_law_path_here"] (spRightL K) := by
  refine T.Lright.fn.ok sc_Lright (fun vs H Q E h => ?_) (fun cdv A outer s H vs Q E hr h => ?_)
  · obtain ⟨v, s', p, op, S, rfl, _⟩ := h
    rfl
  · obtain ⟨v, s', p, op, S, rfl, hat, wf, hz, hin, ip, k⟩ := h
    refine ⟨_, (pss_cons (ps_set (i := 3) sc_Lright.nd rfl (Or.inl rfl) (pe_call (ok_Lcopy T) (hr.mono (by decide)) rfl T.Lcopy.mgf T.Lcopy.kp T.Lcopy.bi .nil pass0 (pa_cons (pv 0) pa_nil)))
      (pss_cons (ps_set (i := 4) sc_Lright.nd rfl (Or.inl rfl) (pe_call (ok_Ldue T) (hr.mono (by decide)) rfl T.Ldue.mgf T.Ldue.kp T.Ldue.bi .nil pass0 (pa_cons (pe_call (ok_Lleft T) (hr.mono (by decide)) rfl T.Lleft.mgf T.Lleft.kp T.Lleft.bi .nil pass0 (pa_cons (pv 0) (pa_cons (pv 1) pa_nil))) (pa_cons (pv 1) (pa_cons (pv 2) pa_nil)))))
      (pss_cons (ps_if (pt_cmp (pc_isN (pv 4)))
        (pss_one (ps_ret (pe_and (pe_call (ok_Lrefused T) (hr.mono (by decide)) rfl T.Lrefused.mgf T.Lrefused.kp T.Lrefused.bi .nil pass0 (pa_cons (pv 3) (pa_cons (pv 1) (pa_cons (pv 2) pa_nil)))) (pe_one (pe_call (ok_Lsame T 4) (hr.mono (by decide)) rfl T.Lsame.mgf T.Lsame.kp T.Lsame.bi .nil pass0 (pa_cons (pv 3) (pa_cons (pv 0) pa_nil)))))))
        pss_nil)
      (pss_cons (ps_set (i := 5) sc_Lright.nd rfl (Or.inl rfl) (pe_callS (ok_laid T) (hr.mono (by decide)) rfl T.laid.mgf T.laid.kp T.laid.bi .nil passE0 (pa_cons (pv 3) (pa_cons (pv 1) (pa_cons (pv 2) pa_nil)))))
      (pss_cut (ps_if (PW.pt (pw_or (pt_not (pt_val (pe_call (ok_Lsame T 4) (hr.mono (by decide)) rfl T.Lsame.mgf T.Lsame.kp T.Lsame.bi .nil pass0 (pa_cons (pv 5) (pa_cons (pv 4) pa_nil))))) (pw_or1 (pt_not (pt_val (pe_call (ok_Lsame T 4) (hr.mono (by decide)) rfl T.Lsame.mgf T.Lsame.kp T.Lsame.bi .nil pass0 (pa_cons (pv 3) (pa_cons (pv 0) pa_nil))))))))
        (pss_one (ps_ret pe_bl))
        pss_nil)
      (pss_cons (ps_expr (pe_bm PySem.F.plainAttrs_list PySem.F.slot_list_append PySem.F.type_list_append (MtM.r mt_append) (pv 3) (pa_cons (pe_lst (pa_cons (pe_lst (pa_cons (pe_lst (pa_cons pe_int pa_nil)) pa_nil)) pa_nil)) pa_nil)))
      (pss_cons (ps_for PassesOwn.never rfl (pi_list (pv 3)) (pg_name (i := 6) sc_Lright.nd rfl (Or.inl rfl))
        (pss_one (ps_for PassesOwn.never rfl (pi_list (pv 6)) (pg_name (i := 7) sc_Lright.nd rfl (Or.inl rfl))
        (pss_one (ps_for PassesOwn.never rfl (pi_list (pv 7)) (pg_name (i := 8) sc_Lright.nd rfl (Or.inl rfl))
        (pss_one (ps_expr (pe_bm PySem.F.plainAttrs_list PySem.F.slot_list_append PySem.F.type_list_append (MtM.r mt_append) (pv 8) (pa_cons pe_int pa_nil)))))))))
      (pss_one (ps_ret (pe_call (ok_Lsame T 4) (hr.mono (by decide)) rfl T.Lsame.mgf T.Lsame.kp T.Lsame.bi .nil pass0 (pa_cons (pv 5) (pa_cons (pv 4) pa_nil)))))))))))), ?_⟩
    have sz : 2000 < sizeLine := le_ble rfl
    have smS := small_S wf.fu (by omega : (flat 4 S).length ≤ 1000)
    have ww := wf.wo s'
    have wl := wo_len S s'
    refine ⟨_, rfl, v, S, rfl, hat, by omega, wf.fu, fun h G1 s1 n1 => ?_⟩
    refine ⟨_, rfl, _, rfl, v, s', S, rfl, hat.same s1, smS, fun lf G2 s2 n2 => ?_⟩
    obtain ⟨o2, at2, d2⟩ := n2
    refine ⟨_, rfl, _, rfl, lf, s', p, op, _, o2, rfl, at2, fun b r hb => (d2 b r hb).2, ww.fu, by omega, ip.same (s1.trans s2), fun e0 G3 s3 => ?_, fun U' e0 o3 G3 ch => ?_⟩
    · have s13 := s2.trans s3
      refine ⟨_, rfl, _, rfl, iteT ?_⟩
      refine ⟨_, rfl, _, rfl, _, rfl, h, s', p, op, S, rfl, n1.r.same s13, wf, hz, hin, ip.same (s1.trans s13), e0, fun G4 s4 => ?_⟩
      have s14 := s13.trans s4
      exact ⟨_, rfl, iteT ⟨_, rfl, _, rfl, h, v, S, rfl, n1.r.same s14, hat.same (s1.trans s14), smS, k G4 (s1.trans s14)⟩⟩
    obtain ⟨n3, s13⟩ := ch.new (fun b r hb => (d2 b r hb).1) s2
    obtain ⟨la, lvs, rfl, hLa, _⟩ := n3.r.lst
    obtain ⟨wU, lU⟩ := lay_wf ip wf hin e0
    have smU := small_S wU.fu (by omega : (flat 4 U').length ≤ 1000)
    refine ⟨_, rfl, _, rfl, iteF ?_⟩
    refine ⟨_, rfl, _, rfl, _, rfl, h, s', p, op, S, rfl, n1.r.same s13, wf, hz, hin, ip.same (s1.trans s13), fun e1 => absurd (e1.symm.trans e0) (by intro z; cases z), fun U2 e1 f G4 s4 n4 => ?_⟩
    rw [e0] at e1
    cases e1
    have s14 := s13.trans s4
    have n3 := n3.same s4
    have n4 := n4.older s13
    refine ⟨fun σ G => σ = [some v, some (.int s'), some p, some h, some (.ref la), some f, none, none, none] ∧ G = G4, ?_, ?_⟩
    · refine ⟨_, rfl, _, rfl, f, .ref la, U', rfl, n4.r, n3.r, smU, ⟨_, rfl, iteF ?_⟩⟩
      exact ⟨_, rfl, _, rfl, h, v, S, rfl, n1.r.same s14, hat.same (s1.trans s14), smS, ⟨_, rfl, iteF ⟨rfl, rfl⟩⟩⟩
    rintro σ G ⟨rfl, rfl⟩
    clear ch at2 d2 hLa
    obtain ⟨o, at1, dm⟩ := n1
    have at4 : At o G 4 [] h S := at1.frame fun a r xs ho _ hx => ⟨s14 _ _ hx, ho⟩
    have dm4 : Dom o G := fun b r hb => by
      have := (dm b r hb).2
      cases e : G1 b with
      | none => exact absurd e this
      | some u => rw [s14 b u e]; intro z; cases z
    obtain ⟨ha, vs, rfl, oh, hA, hlen⟩ := at4.lst
    have lz : vs.length ≤ 1000 := by rw [hlen]; exact smS.1
    refine ⟨_, rfl, .inl ⟨rfl, _, SqL.of hA⟩, le_ble rfl, fun q1 h1 => ⟨le_ble rfl, fun q2 h2 => ⟨le_ble rfl, fun q3 h3 => ?_⟩⟩⟩
    have m1 : New G (upd G q1 (.lst [.int 1])) 1 (.ref q1) (solo 1 1) := newSolo (New.int (i := 1)) h1 (Same.refl G)
    have m2 := newSolo m1 h2 (Same.new h1)
    have m3 := newSolo m2 h3 ((Same.new h1).trans (Same.new h2))
    have s5 := ((Same.new (o := HO.lst [.int 1]) h1).trans (Same.new (o := HO.lst [.ref q1]) h2)).trans (Same.new (o := HO.lst [.ref q2]) h3)
    obtain ⟨o5, x5, a5⟩ := at4.appN dm4 hA s5 m3
    refine ⟨ha, _, _, rfl, rfl, s5 _ _ hA, by omega, ?_⟩
    have keep5 : ∀ b u, b ≠ ha → G b = some u → upd (upd (upd (upd G q1 (.lst [.int 1])) q2 (.lst [.ref q1])) q3 (.lst [.ref q2])) ha (.lst (vs ++ [.ref q3])) b = some u := fun b u nb hb => by
      rw [upd_ne nb]
      exact s5 _ _ hb
    have hA5 := upd_same (H := upd (upd (upd G q1 (.lst [.int 1])) q2 (.lst [.ref q1])) q3 (.lst [.ref q2])) (a := ha) (o := .lst (vs ++ [.ref q3]))
    have oh5 := x5.dom dm4 _ _ oh
    clear m1 m2 m3
    generalize upd (upd (upd (upd G q1 (.lst [.int 1])) q2 (.lst [.ref q1])) q3 (.lst [.ref q2])) ha (.lst (vs ++ [.ref q3])) = G5 at a5 keep5 hA5 ⊢
    have sm5 : ∀ (i : Nat) (g : Tr 3), (ls (ls S ++ [solo 3 1] : List (Tr 3)))[i]? = some g → small 3 g := fun i g e => small_kid smS e
    have j0 : Jv o5 G5 0 0 0 G5 := ⟨fun b u _ h => h, fun b p u _ _ h => h⟩
    refine ⟨_, rfl, ha, rfl, ⟨_, SqL.of hA5⟩, ?_⟩
    refine for_list (xs := vs ++ [.ref q3]) (fun i σ G' => Jv o5 G5 i 0 0 G' ∧ ∃ z6 z7 z8, σ = [some v, some (.int s'), some p, some (.ref ha), some (.ref la), some f, z6, z7, z8]) ⟨j0, _, _, _, rfl⟩ ?_ ?_ ?_
    · rintro i σ G' _ ⟨jv, _⟩
      exact SqL.of (jv.own ha [] _ oh5 (fun z => z) hA5)
    · rintro i x σ G' hx ⟨jv, z6, z7, z8, rfl⟩
      have hi : i < (vs ++ [V.ref q3]).length := (List.getElem?_eq_some_iff.mp hx).1
      obtain ⟨x', g, e1, eg, kg⟩ := a5.kid hA5 hi
      rw [hx] at e1
      cases e1
      obtain ⟨ga, gs, rfl, og, hG, glen⟩ := kg.lst
      refine ⟨_, rfl, ga, rfl, ⟨_, SqL.of (jv.own ga [i] _ og (fun z => z) hG)⟩, ?_⟩
      refine for_list (xs := gs) (fun j σ G' => Jv o5 G5 i j 0 G' ∧ ∃ z7 z8, σ = [some v, some (.int s'), some p, some (.ref ha), some (.ref la), some f, some (.ref ga), z7, z8]) ⟨jv, _, _, rfl⟩ ?_ ?_ ?_
      · rintro j σ G' _ ⟨jv, _⟩
        exact SqL.of (jv.own ga [i] _ og (fun z => z) hG)
      · rintro j y σ G' hy ⟨jv, z7, z8, rfl⟩
        have hj : j < gs.length := (List.getElem?_eq_some_iff.mp hy).1
        obtain ⟨y', c', e2, ec, kc⟩ := kg.kid hG hj
        rw [hy] at e2
        cases e2
        obtain ⟨ca, cs, rfl, oc, hC, clen⟩ := kc.lst
        refine ⟨_, rfl, ca, rfl, ⟨_, SqL.of (jv.own ca [j, i] _ oc (fun z => z) hC)⟩, ?_⟩
        refine for_list (xs := cs) (fun m σ G' => Jv o5 G5 i j m G' ∧ ∃ z8, σ = [some v, some (.int s'), some p, some (.ref ha), some (.ref la), some f, some (.ref ga), some (.ref ca), z8]) ⟨jv, _, rfl⟩ ?_ ?_ ?_
        · rintro m σ G' _ ⟨jv, _⟩
          exact SqL.of (jv.own ca [j, i] _ oc (fun z => z) hC)
        · rintro m z σ G' hz' ⟨jv, z8, rfl⟩
          have hm : m < cs.length := (List.getElem?_eq_some_iff.mp hz').1
          obtain ⟨z', f', e3, ef, kf⟩ := kc.kid hC hm
          rw [hz'] at e3
          cases e3
          obtain ⟨fa, fs, rfl, of, hF, flen⟩ := kf.lst
          have fz : fs.length ≤ 1000 := by rw [flen]; exact (((sm5 i g eg).2 c' (List.mem_of_getElem? ec)).2 f' (List.mem_of_getElem? ef)).1
          have hF' := jv.own fa [m, j, i] _ of (by rw [vis3]; omega) hF
          exact ⟨_, rfl, .inl ⟨rfl, _, SqL.of hF'⟩, fa, _, _, rfl, rfl, hF', by omega, jv.step of, _, rfl⟩
        · rintro σ G' ⟨jv, z8, rfl⟩
          exact ⟨jv.mono fun c b a => by rw [vis3, vis3]; omega, _, _, rfl⟩
      · rintro σ G' ⟨jv, z7, z8, rfl⟩
        exact ⟨jv.mono fun c b a => by rw [vis3, vis3]; omega, _, _, _, rfl⟩
    rintro σ G8 ⟨jv, z6, z7, z8, rfl⟩
    have out : ∀ b u, o b = none → G b = some u → G8 b = some u := fun b u ob hb => by
      have nb : b ≠ ha := fun z => by rw [z, oh] at ob; cases ob
      have o5b : o5 b = none := by rw [x5.old b (some_ne hb)]; exact ob
      exact jv.out b u o5b (keep5 b u nb hb)
    have keep : ∀ b xs, G1 b = none → G b = some (.lst xs) → G8 b = some (.lst xs) := fun b xs hb hx => out b _ (by
      cases e : o b with
      | none => rfl
      | some r => exact absurd hb (dm b r e).2) hx
    have rF : AtR G8 4 f U' := by
      obtain ⟨oF, kF, dF⟩ := n4
      exact At.r (kF.frame (o' := oF) fun b r xs ho _ hx => ⟨keep b xs (dF b r ho).1 hx, ho⟩)
    have rD : AtR G8 4 (.ref la) U' := by
      obtain ⟨oF, kF, dF⟩ := n3
      exact At.r (kF.frame (o' := oF) fun b r xs ho _ hx => ⟨keep b xs (dF b r ho).1 hx, ho⟩)
    refine ⟨_, rfl, _, rfl, f, .ref la, _, rfl, rF, rD, smU, k _ fun b u hb => ?_⟩
    refine out b u ?_ (s14 _ _ (s1 _ _ hb))
    cases e : o b with
    | none => rfl
    | some r => rw [(dm b r e).1] at hb; cases hb

set_option maxHeartbeats 4000000 in
theorem ok_law (T : Txt w K mg c) : FnOk P w K mg base CX0 11 c.a_law c.d_law ["_law_script"] (spLaw K) := by
  refine T.law.fn.ok sc_law (fun vs H Q E h => ?_) (fun cdv A outer s H vs Q E hr h => ?_)
  · obtain ⟨a, ns, rfl, _⟩ := h
    rfl
  · obtain ⟨a, ns, rfl, hS, hn, k⟩ := h
    refine ⟨_, (pss_cons (ps_set (i := 1) sc_law.nd rfl (Or.inl rfl) (pe_call (ok_Lsorting T) (hr.mono (by decide)) rfl T.Lsorting.mgf T.Lsorting.kp T.Lsorting.bi .nil pass0 (pa_cons (pv 0) (pa_cons pe_int (pa_cons pe_int pa_nil)))))
      (pss_cons (ps_set (i := 2) sc_law.nd rfl (Or.inl rfl) (pe_lst pa_nil))
      (pss_cut (ps_for PassesOwn.never rfl (pi_list (pv 1)) (pg_name (i := 3) sc_law.nd rfl (Or.inl rfl))
        (pss_one (ps_for PassesOwn.never rfl (pi_list (pv 3)) (pg_name (i := 4) sc_law.nd rfl (Or.inl rfl))
        (pss_one (ps_for PassesOwn.never rfl (pi_list (pv 4)) (pg_name (i := 5) sc_law.nd rfl (Or.inl rfl))
        (pss_one (ps_set (i := 2) sc_law.nd rfl (Or.inl rfl) (pe_op op_cat (pv 2) (pv 5)))))))))
      (pss_cons (ps_for PassesOwn.never rfl (pi_range1 rfl T.no_range (pa_cons (pe_callB (call_min2 rfl) rfl T.no_min bt_min (pa_cons (pe_callB call_len_seq rfl T.no_len bt_len (pa_cons (pv 0) pa_nil)) (pa_cons pe_int pa_nil))) pa_nil)) (pg_name (i := 6) sc_law.nd rfl (Or.inl rfl))
        (pss_cons (ps_set (i := 7) sc_law.nd rfl (Or.inl rfl) (pe_op op_mod (pe_op op_mul (pe_call (ok_Ldrawn T) (hr.mono (by decide)) rfl T.Ldrawn.mgf T.Ldrawn.kp T.Ldrawn.bi .nil pass0 (pa_cons (pv 0) (pa_cons (pv 6) pa_nil))) pe_int) pe_int))
      (pss_cut (ps_if (PW.pt (pw_and (pt_cmpR op_eq (pe_op op_mod (pe_ix ix_list (pv 0) pe_int (fun _ _ => rfl)) pe_int) pe_int (nomark _)) (pw_and1 (pt_cmpR op_gt (pe_ix ix_list (pv 0) (pv 6) (fun _ _ => rfl)) (pe_op op_pow pe_int pe_int) (nomark _)))))
        (pss_one (ps_set (i := 7) sc_law.nd rfl (Or.inl rfl) (pe_op op_mod (pe_op op_fdivB (pe_ix ix_list (pv 0) (pv 6) (fun _ _ => rfl)) (pe_op op_pow pe_int pe_int)) (pe_op op_pow pe_int pe_int))))
        pss_nil)
      (pss_cons (ps_set (i := 8) sc_law.nd rfl (Or.inl rfl) (pe_call (ok_Lsheet T) (hr.mono (by decide)) rfl T.Lsheet.mgf T.Lsheet.kp T.Lsheet.bi .nil pass0 (pa_cons (pe_op op_add (pe_op op_fdiv (pv 7) pe_int) (pe_op op_fdivB (pv 7) (pe_op op_pow pe_int pe_int))) (pa_cons pe_int pa_nil))))
      (pss_cut (ps_if (PW.pt (pw_and (pt_cmpR op_gt (pe_op op_mod (pv 7) pe_int) pe_int (nomark _)) (pw_and1 (pt_cmpR (op_neD (hu62 hr)) (pv 2) (pe_lst pa_nil) (nomark _)))))
        (pss_one (ps_set (i := 8) sc_law.nd rfl (Or.inl rfl) (pe_ix ix_list (pv 2) (pe_op op_mod (pe_op op_fdiv (pv 7) pe_int) (pe_callB call_len_seq rfl T.no_len bt_len (pa_cons (pv 2) pa_nil))) (fun _ _ => rfl))))
        pss_nil)
      (pss_cons (ps_set (i := 9) sc_law.nd rfl (Or.inl rfl) (pe_call (ok_Lpath T) (hr.mono (by decide)) rfl T.Lpath.mgf T.Lpath.kp T.Lpath.bi .nil pass0 (pa_cons (pe_call (ok_Lleft T) (hr.mono (by decide)) rfl T.Lleft.mgf T.Lleft.kp T.Lleft.bi .nil pass0 (pa_cons (pv 1) (pa_cons (pv 8) pa_nil))) (pa_cons (pe_op op_fdiv (pv 7) pe_int) pa_nil))))
      (pss_one (ps_if (pt_not (pt_val (pe_call (ok_Lright T) (hr.mono (by decide)) rfl T.Lright.mgf T.Lright.kp T.Lright.bi .nil pass0 (pa_cons (pv 1) (pa_cons (pv 8) (pa_cons (pv 9) pa_nil))))))
        (pss_one (ps_ret pe_bl))
        pss_nil))))))))
      (pss_one (ps_ret (pe_call (ok_Lright T) (hr.mono (by decide)) rfl T.Lright.mgf T.Lright.kp T.Lright.bi .nil pass0 (pa_cons (pv 1) (pa_cons (pe_op op_pow pe_int pe_int) (pa_cons (pe_tup (pa_cons (pe_callB call_len_seq rfl T.no_len bt_len (pa_cons (pv 1) pa_nil)) pa_nil)) pa_nil)))))))))), ?_⟩
    have sz : 2000 < sizeLine := le_ble rfl
    refine ⟨_, rfl, a, ns, 40, rfl, by decide, by decide, hS, hn, fun v G0 S s0 n0 wf hl => ?_⟩
    have hat := n0.r
    have hz : (flat 4 S).length < 63 := by omega
    have smS := small_S wf.fu (by omega : (flat 4 S).length ≤ 1000)
    obtain ⟨sa, svs, rfl, hA, slen⟩ := hat.lst
    have sl : svs.length ≤ 1000 := by rw [slen]; exact smS.1
    refine ⟨le_ble rfl, fun sh hsh => ?_⟩
    have s1 := Same.new (o := HO.lst []) hsh
    have k1 := upd_same (H := G0) (a := sh) (o := .lst [])
    generalize upd G0 sh (.lst []) = G1 at s1 k1 ⊢
    have add : ∀ (G : Hp) (q f : Addr) (ms fl : List Int), Same G0 G → G q = some (.lst (ms.map V.int)) → G f = some (.lst (fl.map V.int)) → ∀ p, G p = none → Same G0 (upd G p (.lst (ms.map V.int ++ fl.map V.int))) ∧ upd G p (.lst (ms.map V.int ++ fl.map V.int)) p = some (.lst ((ms ++ fl).map V.int)) := fun G q f ms fl sG _ _ p hp => ⟨sG.trans (Same.new hp), by rw [upd_same, List.map_append]⟩
    refine ⟨fun σ G => Same G0 G ∧ ∃ sh z3 z4 z5, σ = [some (.ref a), some (.ref sa), some (.ref sh), z3, z4, z5, none, none, none, none] ∧ G sh = some (.lst ((flat 4 S).map V.int)), ?_, ?_⟩
    · refine ⟨_, rfl, sa, rfl, ⟨_, SqL.of (s1 _ _ hA)⟩, ?_⟩
      refine for_list (xs := svs) (fun i σ G => Same G0 G ∧ ∃ sh z3 z4 z5, σ = [some (.ref a), some (.ref sa), some (.ref sh), z3, z4, z5, none, none, none, none] ∧ G sh = some (.lst ((flat 4 ((ls S).take i : List (Tr 3))).map V.int))) ⟨s1, sh, _, _, _, rfl, k1⟩ ?_ ?_ ?_
      · rintro i σ G _ ⟨sG, _⟩
        exact SqL.of (sG _ _ hA)
      · rintro i x σ G hx ⟨sG, sh, z3, z4, z5, rfl, h1⟩
        have hi : i < svs.length := (List.getElem?_eq_some_iff.mp hx).1
        obtain ⟨x', g, e1, eg, kg⟩ := hat.kid hA hi
        rw [hx] at e1
        cases e1
        obtain ⟨ga, gs, rfl, hG, glen⟩ := kg.lst
        refine ⟨_, rfl, ga, rfl, ⟨_, SqL.of (sG _ _ hG)⟩, ?_⟩
        refine for_list (xs := gs) (fun j σ G => Same G0 G ∧ ∃ sh z4 z5, σ = [some (.ref a), some (.ref sa), some (.ref sh), some (.ref ga), z4, z5, none, none, none, none] ∧ G sh = some (.lst ((flat 4 ((ls S).take i : List (Tr 3)) ++ flat 3 ((ls g).take j : List (Tr 2))).map V.int))) ⟨sG, sh, _, _, rfl, by show _ = some (HO.lst ((_ ++ []).map V.int)); rw [List.append_nil]; exact h1⟩ ?_ ?_ ?_
        · rintro j σ G _ ⟨sG, _⟩
          exact SqL.of (sG _ _ hG)
        · rintro j y σ G hy ⟨sG, sh, z4, z5, rfl, h1⟩
          have hj : j < gs.length := (List.getElem?_eq_some_iff.mp hy).1
          obtain ⟨y', c', e2, ec, kc⟩ := kg.kid hG hj
          rw [hy] at e2
          cases e2
          obtain ⟨ca, cs, rfl, hC, clen⟩ := kc.lst
          refine ⟨_, rfl, ca, rfl, ⟨_, SqL.of (sG _ _ hC)⟩, ?_⟩
          refine for_list (xs := cs) (fun m σ G => Same G0 G ∧ ∃ sh z5, σ = [some (.ref a), some (.ref sa), some (.ref sh), some (.ref ga), some (.ref ca), z5, none, none, none, none] ∧ G sh = some (.lst ((flat 4 ((ls S).take i : List (Tr 3)) ++ flat 3 ((ls g).take j : List (Tr 2)) ++ flat 2 ((ls c').take m : List (Tr 1))).map V.int))) ⟨sG, sh, _, rfl, by show _ = some (HO.lst ((_ ++ []).map V.int)); rw [List.append_nil]; exact h1⟩ ?_ ?_ ?_
          · rintro m σ G _ ⟨sG, _⟩
            exact SqL.of (sG _ _ hC)
          · rintro m z σ G hz' ⟨sG, sh, z5, rfl, h1⟩
            have hm : m < cs.length := (List.getElem?_eq_some_iff.mp hz').1
            obtain ⟨z', f, e3, ef, kf⟩ := kc.kid hC hm
            rw [hz'] at e3
            cases e3
            obtain ⟨fl, hfl⟩ : ∃ fl : List Int, fl = f := ⟨f, rfl⟩
            subst hfl
            obtain ⟨fa, _, rfl, _, _⟩ := kf.lst
            have hF := sG _ _ (AtR.ints (ns := fl) kf)
            have n1 := flat_len eg
            have n2 := flat_len ec
            have n3 := flat_len ef
            have n4 := congrArg List.length (flat_ints fl)
            have e1 : (flat 4 S).length = (flat (3 + 1) (ls S : List (Tr 3))).length := rfl
            have e2 : (flat 4 ((ls S).take i : List (Tr 3))).length = (flat (3 + 1) ((ls S).take i : List (Tr 3))).length := rfl
            have e3 : (flat 3 g).length = (flat (2 + 1) (ls g : List (Tr 2))).length := rfl
            have e4 : (flat 3 ((ls g).take j : List (Tr 2))).length = (flat (2 + 1) ((ls g).take j : List (Tr 2))).length := rfl
            have e5 : (flat 2 c').length = (flat (1 + 1) (ls c' : List (Tr 1))).length := rfl
            have e6 : (flat 2 ((ls c').take m : List (Tr 1))).length = (flat (1 + 1) ((ls c').take m : List (Tr 1))).length := rfl
            refine ⟨_, rfl, _, rfl, sh, fa, _, _, rfl, rfl, h1, hF, ?_, fun p hp => ?_⟩
            · rw [List.length_map, List.length_map, List.length_append, List.length_append]
              omega
            obtain ⟨a1, a2⟩ := add G sh fa _ fl sG h1 hF p hp
            refine ⟨a1, p, _, rfl, ?_⟩
            rw [a2, flat_take ef, flat_ints fl, List.append_assoc (_ ++ _)]
          · rintro σ G ⟨sG, sh, z5, rfl, h1⟩
            have et : (ls c').take cs.length = ls c' := List.take_of_length_le (by omega)
            rw [et] at h1
            refine ⟨sG, sh, _, _, rfl, ?_⟩
            rw [flat_take ec, ← List.append_assoc]
            exact h1
        · rintro σ G ⟨sG, sh, z4, z5, rfl, h1⟩
          have et : (ls g).take gs.length = ls g := List.take_of_length_le (by omega)
          rw [et] at h1
          refine ⟨sG, sh, _, _, _, rfl, ?_⟩
          rw [flat_take eg]
          exact h1
      · rintro σ G ⟨sG, sh, z3, z4, z5, rfl, h1⟩
        have et : (ls S).take svs.length = ls S := List.take_of_length_le (by omega)
        rw [et] at h1
        exact ⟨sG, sh, _, _, _, rfl, h1⟩
    rintro σ G2 ⟨s2, sh, z3, z4, z5, rfl, h2⟩
    have hSq : ∀ G, Same G2 G → SqL K G a (ns.map V.int) := fun G s => (s0.trans (s2.trans s)).seq hS
    have lm : (ns.map V.int).length = ns.length := List.length_map ..
    walk_at "rd"
    refine ⟨a, _, rfl, .inl (hSq _ (Same.refl _)), ?_⟩
    walk_at "rd"
    have hm2 : (if (40 : Int) < ((ns.map V.int).length : Int) then (40 : Int) else ((ns.map V.int).length : Int)) ≤ ns.length ∧ (if (40 : Int) < ((ns.map V.int).length : Int) then (40 : Int) else ((ns.map V.int).length : Int)) ≤ 40 ∧ 0 ≤ (if (40 : Int) < ((ns.map V.int).length : Int) then (40 : Int) else ((ns.map V.int).length : Int)) := by
      split <;> omega
    generalize (if (40 : Int) < ((ns.map V.int).length : Int) then (40 : Int) else ((ns.map V.int).length : Int)) = hi at hm2 ⊢
    refine ⟨by omega, by omega, ?_⟩
    refine for_range (lo := 0) (fun i σ G => Same G2 G ∧ ∃ z6 z7 z8 z9, σ = [some (.ref a), some (.ref sa), some (.ref sh), z3, z4, z5, z6, z7, z8, z9]) ⟨Same.refl _, _, _, _, _, rfl⟩ ?_ ?_
    · rintro i σ G hi' ⟨sG, z6, z7, z8, z9, rfl⟩
      obtain ⟨v0, hv0, hm0⟩ := atI_in (xs := ns.map V.int) (i := 0) (by omega) (by omega)
      obtain ⟨c0, _, rfl⟩ := List.mem_map.mp hm0
      obtain ⟨v1, hv1, hm1⟩ := atI_in (xs := ns.map V.int) (i := 0 + (i : Int)) (by omega) (by omega)
      obtain ⟨c1, _, rfl⟩ := List.mem_map.mp hm1
      refine ⟨_, rfl, _, rfl, a, 0 + (i : Int), ns, rfl, by omega, by omega, hn, hSq _ sG, fun d d0 => ?_⟩
      walk_at "rd"
      refine ⟨fun σ' G' => G' = G ∧ ∃ num : Int, σ' = [some (.ref a), some (.ref sa), some (.ref sh), z3, z4, z5, some (.int (0 + (i : Int))), some (.int num), z8, z9], ?_, ?_⟩
      · refine ⟨_, rfl, a, _, _, _, rfl, rfl, hSq _ sG, hv0, ?_⟩
        walk_at "rd"
        refine ite2 (fun _ => ?_) (fun _ => ⟨rfl, _, rfl⟩)
        refine ⟨_, rfl, _, rfl, a, _, _, _, rfl, rfl, hSq _ sG, hv1, ?_⟩
        walk_at "rd"
        refine ite2 (fun _ => ?_) (fun _ => ⟨rfl, _, rfl⟩)
        refine ⟨_, rfl, _, rfl, a, _, _, _, rfl, rfl, hSq _ sG, hv1, ?_⟩
        walk_at "rd"
        first | exact ⟨rfl, _, rfl⟩ | exact ⟨_, rfl⟩
      rintro σ' G' ⟨rfl, num, rfl⟩
      walk_at "rd"
      first | refine ⟨by decide, by decide, fun x x1 x2 => ?_⟩ | refine ⟨by decide, fun x x1 x2 => ?_⟩ | refine fun x x1 x2 => ?_
      refine ⟨fun σ' G'' => Same G2 G'' ∧ ∃ x : Int, inR 1000000000 (.int x) = true ∧ σ' = [some (.ref a), some (.ref sa), some (.ref sh), z3, z4, z5, some (.int (0 + (i : Int))), some (.int num), some (.int x), z9], ?_, ?_⟩
      · walk_at "rd"
        refine ite2 (fun _ => ?_) (fun _ => ⟨sG, x, x2, rfl⟩)
        refine ⟨_, rfl, le_ble rfl, fun e0 he0 => ?_⟩
        have t0 := sG.trans (Same.new (o := HO.lst []) he0)
        refine ⟨0, _, by decide, seqNil (SqL.of (t0 _ _ h2)) (SqL.of upd_same), _, rfl, ?_⟩
        generalize upd G' e0 (.lst []) = G3 at t0 ⊢
        refine iteB (fun he => ?_) (fun _ => ⟨t0, x, x2, rfl⟩)
        have fp : 0 < (flat 4 S).length := by
          cases e : flat 4 S with
          | nil => rw [e] at he; exact absurd he (by decide)
          | cons _ _ => exact Nat.succ_pos _
        have lf : ((flat 4 S).map V.int).length = (flat 4 S).length := List.length_map ..
        walk_at "rd"
        refine ⟨sh, _, rfl, .inl (SqL.of (t0 _ _ h2)), _, _, rfl, rfl, by omega, ?_⟩
        obtain ⟨y, hy, hmy⟩ := atI_in (xs := (flat 4 S).map V.int) (i := num / 3 % (((flat 4 S).map V.int).length : Int)) (Int.emod_nonneg _ (by omega)) (Int.emod_lt_of_pos _ (by omega))
        obtain ⟨y', hm', rfl⟩ := List.mem_map.mp hmy
        exact ⟨sh, _, _, _, rfl, rfl, SqL.of (t0 _ _ h2), hy, t0, y', wf.inn y' hm', rfl⟩
      rintro σ' G'' ⟨sG'', x, x2, rfl⟩
      have ww := wf.wo x
      refine ⟨_, rfl, _, rfl, .ref sa, x, S, rfl, hat.same (s2.trans sG''), smS, fun lf G4 s4 n4 => ?_⟩
      walk_at "rd"
      refine ⟨_, _, _, rfl, n4.r, ww.fu, fun p G5 op s5 ip => ?_⟩
      have s25 := sG''.trans (s4.trans s5)
      exact ⟨_, rfl, _, rfl, _, rfl, .ref sa, x, p, op, S, rfl, hat.same (s2.trans s25), wf, hz, x2, ip, fun G6 s6 => ⟨_, rfl, iteF ⟨s25.trans s6, _, _, _, _, rfl⟩⟩⟩
    · rintro σ G ⟨sG, z6, z7, z8, z9, rfl⟩
      walk_at "rd"
      refine ⟨sa, _, rfl, .inl (SqL.of ((s2.trans sG) _ _ hA)), le_ble rfl, fun t ht => ?_⟩
      obtain ⟨op, ip⟩ := IsP.tup (K := K) (H := upd G t (.tup [V.int (svs.length : Int)])) upd_same rfl
      exact ⟨.ref sa, _, _, op, S, rfl, hat.same (s2.trans (sG.trans (Same.new ht))), wf, hz, inR_of (by decide) (by decide), ip, fun G' _ => k _⟩

end
theorem all_mk {l : PySem.W.OpenLaw} {w : World} {K : PySem.W.Frag} {h : Heap} {mg : Str → Option Value} {fa : Addr} (X : K.In h) (G : h.Ns mainGlobals mg) (hfa : mg "law" = some (.ref fa))
    {f0 : Addr} {od0 an0 : Option Addr} {sl0 : Array (Option Value)} {oc0 kV0 dc0 pm0 cd0 ct0 : Value}
    {f1 : Addr} {od1 an1 : Option Addr} {sl1 : Array (Option Value)} {oc1 kV1 dc1 pm1 cd1 ct1 : Value}
    {f2 : Addr} {od2 an2 : Option Addr} {sl2 : Array (Option Value)} {oc2 kV2 dc2 pm2 cd2 ct2 : Value}
    {f3 : Addr} {od3 an3 : Option Addr} {sl3 : Array (Option Value)} {oc3 kV3 dc3 pm3 cd3 ct3 : Value}
    {f4 : Addr} {od4 an4 : Option Addr} {sl4 : Array (Option Value)} {oc4 kV4 dc4 pm4 cd4 ct4 : Value}
    {f5 : Addr} {od5 an5 : Option Addr} {sl5 : Array (Option Value)} {oc5 kV5 dc5 pm5 cd5 ct5 : Value}
    {f6 : Addr} {od6 an6 : Option Addr} {sl6 : Array (Option Value)} {oc6 kV6 dc6 pm6 cd6 ct6 : Value}
    {f7 : Addr} {od7 an7 : Option Addr} {sl7 : Array (Option Value)} {oc7 kV7 dc7 pm7 cd7 ct7 : Value}
    {f8 : Addr} {od8 an8 : Option Addr} {sl8 : Array (Option Value)} {oc8 kV8 dc8 pm8 cd8 ct8 : Value}
    {f9 : Addr} {od9 an9 : Option Addr} {sl9 : Array (Option Value)} {oc9 kV9 dc9 pm9 cd9 ct9 : Value}
    {f10 : Addr} {od10 an10 : Option Addr} {sl10 : Array (Option Value)} {oc10 kV10 dc10 pm10 cd10 ct10 : Value}
    {f11 : Addr} {od11 an11 : Option Addr} {sl11 : Array (Option Value)} {oc11 kV11 dc11 pm11 cd11 ct11 : Value}
    {f12 : Addr} {od12 an12 : Option Addr} {sl12 : Array (Option Value)} {oc12 kV12 dc12 pm12 cd12 ct12 : Value}
    {f13 : Addr} {od13 an13 : Option Addr} {sl13 : Array (Option Value)} {oc13 kV13 dc13 pm13 cd13 ct13 : Value}
    {f14 : Addr} {od14 an14 : Option Addr} {sl14 : Array (Option Value)} {oc14 kV14 dc14 pm14 cd14 ct14 : Value}
    {f15 : Addr} {od15 an15 : Option Addr} {sl15 : Array (Option Value)} {oc15 kV15 dc15 pm15 cd15 ct15 : Value}
    {f16 : Addr} {od16 an16 : Option Addr} {sl16 : Array (Option Value)} {oc16 kV16 dc16 pm16 cd16 ct16 : Value}
    {f17 : Addr} {od17 an17 : Option Addr} {sl17 : Array (Option Value)} {oc17 kV17 dc17 pm17 cd17 ct17 : Value}
    {f18 : Addr} {od18 an18 : Option Addr} {sl18 : Array (Option Value)} {oc18 kV18 dc18 pm18 cd18 ct18 : Value}
    {f19 : Addr} {od19 an19 : Option Addr} {sl19 : Array (Option Value)} {oc19 kV19 dc19 pm19 cd19 ct19 : Value}
    {f20 : Addr} {od20 an20 : Option Addr} {sl20 : Array (Option Value)} {oc20 kV20 dc20 pm20 cd20 ct20 : Value}
    {f21 : Addr} {od21 an21 : Option Addr} {sl21 : Array (Option Value)} {oc21 kV21 dc21 pm21 cd21 ct21 : Value}
    {f22 : Addr} {od22 an22 : Option Addr} {sl22 : Array (Option Value)} {oc22 kV22 dc22 pm22 cd22 ct22 : Value}
    {u_LAST_NUMBER : Value}
    {u_FORM_DEPTH : Value}
    {c_NoSorting : Addr}
    {c_NoSheet : Addr}
    {c_NoPath : Addr}
    {c_RightError : Addr}
    {N_NoSorting A_NoSorting : Addr} {nm_NoSorting q_NoSorting : Str} {bs_NoSorting : List Value} {hd_NoSorting : Bool} {sn_NoSorting : List Str} {sub_NoSorting : List Value} {ab_NoSorting : Bool} {col_NoSorting : Option Bool} {dd_NoSorting : Option Addr} {k0_NoSorting k1_NoSorting k2_NoSorting k3_NoSorting k5_NoSorting : Option Value}
    {es_NoSorting : Array DictEntry} {x1_NoSorting : Value} {x2_NoSorting : Option Addr} {x3_NoSorting : Nat} {x4_NoSorting : Array (Option Value)} {y0_NoSorting : Value} {y1_NoSorting : Option Addr} {y2_NoSorting : ClassData} {y3_NoSorting : Array (Option Value)} {et_NoSorting : Array DictEntry} {z1_NoSorting : Value} {z2_NoSorting : Option Addr} {z3_NoSorting : Nat} {z4_NoSorting : Array (Option Value)}
    {N_NoSheet A_NoSheet : Addr} {nm_NoSheet q_NoSheet : Str} {bs_NoSheet : List Value} {hd_NoSheet : Bool} {sn_NoSheet : List Str} {sub_NoSheet : List Value} {ab_NoSheet : Bool} {col_NoSheet : Option Bool} {dd_NoSheet : Option Addr} {k0_NoSheet k1_NoSheet k2_NoSheet k3_NoSheet k5_NoSheet : Option Value}
    {es_NoSheet : Array DictEntry} {x1_NoSheet : Value} {x2_NoSheet : Option Addr} {x3_NoSheet : Nat} {x4_NoSheet : Array (Option Value)} {y0_NoSheet : Value} {y1_NoSheet : Option Addr} {y2_NoSheet : ClassData} {y3_NoSheet : Array (Option Value)} {et_NoSheet : Array DictEntry} {z1_NoSheet : Value} {z2_NoSheet : Option Addr} {z3_NoSheet : Nat} {z4_NoSheet : Array (Option Value)}
    {N_NoPath A_NoPath : Addr} {nm_NoPath q_NoPath : Str} {bs_NoPath : List Value} {hd_NoPath : Bool} {sn_NoPath : List Str} {sub_NoPath : List Value} {ab_NoPath : Bool} {col_NoPath : Option Bool} {dd_NoPath : Option Addr} {k0_NoPath k1_NoPath k2_NoPath k3_NoPath k5_NoPath : Option Value}
    {es_NoPath : Array DictEntry} {x1_NoPath : Value} {x2_NoPath : Option Addr} {x3_NoPath : Nat} {x4_NoPath : Array (Option Value)} {y0_NoPath : Value} {y1_NoPath : Option Addr} {y2_NoPath : ClassData} {y3_NoPath : Array (Option Value)} {et_NoPath : Array DictEntry} {z1_NoPath : Value} {z2_NoPath : Option Addr} {z3_NoPath : Nat} {z4_NoPath : Array (Option Value)}
    (a0 : PySem.W.nsIn K mainGlobals "is_whole" = some (some (.ref f0)))
    (l0 : K.lookup f0 = some ⟨oc0, od0, .func (PySem.W.fnOf "is_whole" "is_whole" (defArgs s_is_whole) (defBody s_is_whole) (defScope s_is_whole) .none kV0 dc0 pm0 an0 cd0 ct0), sl0⟩)
    (c0 : PySem.W.codeIn K cd0 "is_whole" = true)
    (k0 : PySem.W.keepIn K (.ref f0) = true)
    (a1 : PySem.W.nsIn K mainGlobals "is_number" = some (some (.ref f1)))
    (l1 : K.lookup f1 = some ⟨oc1, od1, .func (PySem.W.fnOf "is_number" "is_number" (defArgs s_is_number) (defBody s_is_number) (defScope s_is_number) .none kV1 dc1 pm1 an1 cd1 ct1), sl1⟩)
    (c1 : PySem.W.codeIn K cd1 "is_number" = true)
    (k1 : PySem.W.keepIn K (.ref f1) = true)
    (a2 : PySem.W.nsIn K mainGlobals "sorting_list" = some (some (.ref f2)))
    (l2 : K.lookup f2 = some ⟨oc2, od2, .func (PySem.W.fnOf "sorting_list" "sorting_list" (defArgs s_sorting_list) (defBody s_sorting_list) (defScope s_sorting_list) .none kV2 dc2 pm2 an2 cd2 ct2), sl2⟩)
    (c2 : PySem.W.codeIn K cd2 "sorting_list" = true)
    (k2 : PySem.W.keepIn K (.ref f2) = true)
    (a3 : PySem.W.nsIn K mainGlobals "group_list" = some (some (.ref f3)))
    (l3 : K.lookup f3 = some ⟨oc3, od3, .func (PySem.W.fnOf "group_list" "group_list" (defArgs s_group_list) (defBody s_group_list) (defScope s_group_list) .none kV3 dc3 pm3 an3 cd3 ct3), sl3⟩)
    (c3 : PySem.W.codeIn K cd3 "group_list" = true)
    (k3 : PySem.W.keepIn K (.ref f3) = true)
    (a4 : PySem.W.nsIn K mainGlobals "sheet_list" = some (some (.ref f4)))
    (l4 : K.lookup f4 = some ⟨oc4, od4, .func (PySem.W.fnOf "sheet_list" "sheet_list" (defArgs s_sheet_list) (defBody s_sheet_list) (defScope s_sheet_list) .none kV4 dc4 pm4 an4 cd4 ct4), sl4⟩)
    (c4 : PySem.W.codeIn K cd4 "sheet_list" = true)
    (k4 : PySem.W.keepIn K (.ref f4) = true)
    (a5 : PySem.W.nsIn K mainGlobals "refuse_sheet" = some (some (.ref f5)))
    (l5 : K.lookup f5 = some ⟨oc5, od5, .func (PySem.W.fnOf "refuse_sheet" "refuse_sheet" (defArgs s_refuse_sheet) (defBody s_refuse_sheet) (defScope s_refuse_sheet) .none kV5 dc5 pm5 an5 cd5 ct5), sl5⟩)
    (c5 : PySem.W.codeIn K cd5 "refuse_sheet" = true)
    (k5 : PySem.W.keepIn K (.ref f5) = true)
    (a6 : PySem.W.nsIn K mainGlobals "without" = some (some (.ref f6)))
    (l6 : K.lookup f6 = some ⟨oc6, od6, .func (PySem.W.fnOf "without" "without" (defArgs s_without) (defBody s_without) (defScope s_without) .none kV6 dc6 pm6 an6 cd6 ct6), sl6⟩)
    (c6 : PySem.W.codeIn K cd6 "without" = true)
    (k6 : PySem.W.keepIn K (.ref f6) = true)
    (a7 : PySem.W.nsIn K mainGlobals "laid" = some (some (.ref f7)))
    (l7 : K.lookup f7 = some ⟨oc7, od7, .func (PySem.W.fnOf "laid" "laid" (defArgs s_laid) (defBody s_laid) (defScope s_laid) .none kV7 dc7 pm7 an7 cd7 ct7), sl7⟩)
    (c7 : PySem.W.codeIn K cd7 "laid" = true)
    (k7 : PySem.W.keepIn K (.ref f7) = true)
    (a8 : PySem.W.nsIn K mainGlobals "is_path" = some (some (.ref f8)))
    (l8 : K.lookup f8 = some ⟨oc8, od8, .func (PySem.W.fnOf "is_path" "is_path" (defArgs s_is_path) (defBody s_is_path) (defScope s_is_path) .none kV8 dc8 pm8 an8 cd8 ct8), sl8⟩)
    (c8 : PySem.W.codeIn K cd8 "is_path" = true)
    (k8 : PySem.W.keepIn K (.ref f8) = true)
    (a9 : PySem.W.nsIn K mainGlobals "put_sheet" = some (some (.ref f9)))
    (l9 : K.lookup f9 = some ⟨oc9, od9, .func (PySem.W.fnOf "put_sheet" "put_sheet" (defArgs s_put_sheet) (defBody s_put_sheet) (defScope s_put_sheet) .none kV9 dc9 pm9 an9 cd9 ct9), sl9⟩)
    (c9 : PySem.W.codeIn K cd9 "put_sheet" = true)
    (k9 : PySem.W.keepIn K (.ref f9) = true)
    (a10 : PySem.W.nsIn K mainGlobals "new_group" = some (some (.ref f10)))
    (l10 : K.lookup f10 = some ⟨oc10, od10, .func (PySem.W.fnOf "new_group" "new_group" (defArgs s_new_group) (defBody s_new_group) (defScope s_new_group) .none kV10 dc10 pm10 an10 cd10 ct10), sl10⟩)
    (c10 : PySem.W.codeIn K cd10 "new_group" = true)
    (k10 : PySem.W.keepIn K (.ref f10) = true)
    (a11 : PySem.W.nsIn K mainGlobals "_law_drawn" = some (some (.ref f11)))
    (l11 : K.lookup f11 = some ⟨oc11, od11, .func (PySem.W.fnOf "_law_drawn" "_law_drawn" (defArgs s_Ldrawn) (defBody s_Ldrawn) (defScope s_Ldrawn) .none kV11 dc11 pm11 an11 cd11 ct11), sl11⟩)
    (c11 : PySem.W.codeIn K cd11 "_law_drawn" = true)
    (k11 : PySem.W.keepIn K (.ref f11) = true)
    (a12 : PySem.W.nsIn K mainGlobals "_law_sheet" = some (some (.ref f12)))
    (l12 : K.lookup f12 = some ⟨oc12, od12, .func (PySem.W.fnOf "_law_sheet" "_law_sheet" (defArgs s_Lsheet) (defBody s_Lsheet) (defScope s_Lsheet) .none kV12 dc12 pm12 an12 cd12 ct12), sl12⟩)
    (c12 : PySem.W.codeIn K cd12 "_law_sheet" = true)
    (k12 : PySem.W.keepIn K (.ref f12) = true)
    (a13 : PySem.W.nsIn K mainGlobals "_law_put" = some (some (.ref f13)))
    (l13 : K.lookup f13 = some ⟨oc13, od13, .func (PySem.W.fnOf "_law_put" "_law_put" (defArgs s_Lput) (defBody s_Lput) (defScope s_Lput) .none kV13 dc13 pm13 an13 cd13 ct13), sl13⟩)
    (c13 : PySem.W.codeIn K cd13 "_law_put" = true)
    (k13 : PySem.W.keepIn K (.ref f13) = true)
    (a14 : PySem.W.nsIn K mainGlobals "_law_sorting" = some (some (.ref f14)))
    (l14 : K.lookup f14 = some ⟨oc14, od14, .func (PySem.W.fnOf "_law_sorting" "_law_sorting" (defArgs s_Lsorting) (defBody s_Lsorting) (defScope s_Lsorting) .none kV14 dc14 pm14 an14 cd14 ct14), sl14⟩)
    (c14 : PySem.W.codeIn K cd14 "_law_sorting" = true)
    (k14 : PySem.W.keepIn K (.ref f14) = true)
    (a15 : PySem.W.nsIn K mainGlobals "_law_copy" = some (some (.ref f15)))
    (l15 : K.lookup f15 = some ⟨oc15, od15, .func (PySem.W.fnOf "_law_copy" "_law_copy" (defArgs s_Lcopy) (defBody s_Lcopy) (defScope s_Lcopy) .none kV15 dc15 pm15 an15 cd15 ct15), sl15⟩)
    (c15 : PySem.W.codeIn K cd15 "_law_copy" = true)
    (k15 : PySem.W.keepIn K (.ref f15) = true)
    (a16 : PySem.W.nsIn K mainGlobals "_law_same" = some (some (.ref f16)))
    (l16 : K.lookup f16 = some ⟨oc16, od16, .func (PySem.W.fnOf "_law_same" "_law_same" (defArgs s_Lsame) (defBody s_Lsame) (defScope s_Lsame) .none kV16 dc16 pm16 an16 cd16 ct16), sl16⟩)
    (c16 : PySem.W.codeIn K cd16 "_law_same" = true)
    (k16 : PySem.W.keepIn K (.ref f16) = true)
    (a17 : PySem.W.nsIn K mainGlobals "_law_left" = some (some (.ref f17)))
    (l17 : K.lookup f17 = some ⟨oc17, od17, .func (PySem.W.fnOf "_law_left" "_law_left" (defArgs s_Lleft) (defBody s_Lleft) (defScope s_Lleft) .none kV17 dc17 pm17 an17 cd17 ct17), sl17⟩)
    (c17 : PySem.W.codeIn K cd17 "_law_left" = true)
    (k17 : PySem.W.keepIn K (.ref f17) = true)
    (a18 : PySem.W.nsIn K mainGlobals "_law_path" = some (some (.ref f18)))
    (l18 : K.lookup f18 = some ⟨oc18, od18, .func (PySem.W.fnOf "_law_path" "_law_path" (defArgs s_Lpath) (defBody s_Lpath) (defScope s_Lpath) .none kV18 dc18 pm18 an18 cd18 ct18), sl18⟩)
    (c18 : PySem.W.codeIn K cd18 "_law_path" = true)
    (k18 : PySem.W.keepIn K (.ref f18) = true)
    (a19 : PySem.W.nsIn K mainGlobals "_law_due" = some (some (.ref f19)))
    (l19 : K.lookup f19 = some ⟨oc19, od19, .func (PySem.W.fnOf "_law_due" "_law_due" (defArgs s_Ldue) (defBody s_Ldue) (defScope s_Ldue) .none kV19 dc19 pm19 an19 cd19 ct19), sl19⟩)
    (c19 : PySem.W.codeIn K cd19 "_law_due" = true)
    (k19 : PySem.W.keepIn K (.ref f19) = true)
    (a20 : PySem.W.nsIn K mainGlobals "_law_refused" = some (some (.ref f20)))
    (l20 : K.lookup f20 = some ⟨oc20, od20, .func (PySem.W.fnOf "_law_refused" "_law_refused" (defArgs s_Lrefused) (defBody s_Lrefused) (defScope s_Lrefused) .none kV20 dc20 pm20 an20 cd20 ct20), sl20⟩)
    (c20 : PySem.W.codeIn K cd20 "_law_refused" = true)
    (k20 : PySem.W.keepIn K (.ref f20) = true)
    (a21 : PySem.W.nsIn K mainGlobals "_law_right" = some (some (.ref f21)))
    (l21 : K.lookup f21 = some ⟨oc21, od21, .func (PySem.W.fnOf "_law_right" "_law_right" (defArgs s_Lright) (defBody s_Lright) (defScope s_Lright) .none kV21 dc21 pm21 an21 cd21 ct21), sl21⟩)
    (c21 : PySem.W.codeIn K cd21 "_law_right" = true)
    (k21 : PySem.W.keepIn K (.ref f21) = true)
    (a22 : PySem.W.nsIn K mainGlobals "law" = some (some (.ref f22)))
    (l22 : K.lookup f22 = some ⟨oc22, od22, .func (PySem.W.fnOf "law" "law" (defArgs s_law) (defBody s_law) (defScope s_law) .none kV22 dc22 pm22 an22 cd22 ct22), sl22⟩)
    (c22 : PySem.W.codeIn K cd22 "law" = true)
    (k22 : PySem.W.keepIn K (.ref f22) = true)
    (cg_LAST_NUMBER : PySem.W.nsIn K mainGlobals "LAST_NUMBER" = some (some u_LAST_NUMBER))
    (cr_LAST_NUMBER : RelV (.int 1000000000) u_LAST_NUMBER)
    (cg_FORM_DEPTH : PySem.W.nsIn K mainGlobals "FORM_DEPTH" = some (some u_FORM_DEPTH))
    (cr_FORM_DEPTH : RelV (.int 3) u_FORM_DEPTH)
    (cg_NoSorting : PySem.W.nsIn K mainGlobals "NoSorting" = some (some (.ref c_NoSorting)))
    (cg_NoSheet : PySem.W.nsIn K mainGlobals "NoSheet" = some (some (.ref c_NoSheet)))
    (cg_NoPath : PySem.W.nsIn K mainGlobals "NoPath" = some (some (.ref c_NoPath)))
    (cg_RightError : PySem.W.nsIn K mainGlobals "RightError" = some (some (.ref c_RightError)))
    (xl_NoSorting : K.lookup c_NoSorting = some (excClassObj nm_NoSorting q_NoSorting c_NoSorting N_NoSorting bs_NoSorting (.ref A_NoSorting :: vmro) hd_NoSorting sn_NoSorting sub_NoSorting ab_NoSorting col_NoSorting dd_NoSorting k0_NoSorting k1_NoSorting k2_NoSorting k3_NoSorting k5_NoSorting "ValueError.__new__"))
    (xn_NoSorting : K.lookup N_NoSorting = some ⟨x1_NoSorting, x2_NoSorting, .dict es_NoSorting x3_NoSorting, x4_NoSorting⟩)
    (xs_NoSorting : strKeysB es_NoSorting = true)
    (xi_NoSorting : nsFind es_NoSorting "__init__" = none)
    (xa_NoSorting : K.lookup A_NoSorting = some { cls := y0_NoSorting, dict := y1_NoSorting, data := .cls y2_NoSorting, slots := y3_NoSorting })
    (xb_NoSorting : K.lookup y2_NoSorting.ns = some ⟨z1_NoSorting, z2_NoSorting, .dict et_NoSorting z3_NoSorting, z4_NoSorting⟩)
    (xt_NoSorting : strKeysB et_NoSorting = true)
    (xj_NoSorting : nsFind et_NoSorting "__init__" = none)
    (qcs_NoSorting : (PySem.W.clsIn K c_NoSorting).isSome = true)
    (qga_NoSorting : PySem.W.findIn K (.ref c_NoSorting) "__getattribute__" = some (some (.builtin "BaseException.__getattribute__")))
    (qgt_NoSorting : PySem.W.findIn K (.ref c_NoSorting) "__getattr__" = some none)
    (qca_NoSorting : PySem.W.findIn K (.ref c_NoSorting) "__class__" = some (some (.builtin "object.__class__")))
    (qgg_NoSorting : PySem.W.specialIn K (.builtin "object.__class__") "__get__" = some (some (.builtin "getset_descriptor.__get__")))
    (qtk_NoSorting : PySem.W.takesIn K (.builtin "object.__class__") = some true)
    (qmo_NoSorting : PySem.W.mroIn K c_NoSorting (.type "object") = some true)
    (qsb_NoSorting : PySem.W.subIn K (.ref c_NoSorting) (.type "BaseException") = some true)
    (i_NoSorting_NoPath : PySem.W.kitOne K (.ref c_NoSorting) (.ref c_NoPath) = some false)
    (i_NoSorting_ValueError : PySem.W.kitOne K (.ref c_NoSorting) (.type "ValueError") = some true)
    (i_NoSorting_NoSorting : PySem.W.kitOne K (.ref c_NoSorting) (.ref c_NoSorting) = some true)
    (i_NoSorting_NoSheet : PySem.W.kitOne K (.ref c_NoSorting) (.ref c_NoSheet) = some false)
    (e_NoSorting_RightError : PySem.W.exmOne K (.ref c_NoSorting) (.ref c_RightError) = some true)
    (xl_NoSheet : K.lookup c_NoSheet = some (excClassObj nm_NoSheet q_NoSheet c_NoSheet N_NoSheet bs_NoSheet (.ref A_NoSheet :: vmro) hd_NoSheet sn_NoSheet sub_NoSheet ab_NoSheet col_NoSheet dd_NoSheet k0_NoSheet k1_NoSheet k2_NoSheet k3_NoSheet k5_NoSheet "ValueError.__new__"))
    (xn_NoSheet : K.lookup N_NoSheet = some ⟨x1_NoSheet, x2_NoSheet, .dict es_NoSheet x3_NoSheet, x4_NoSheet⟩)
    (xs_NoSheet : strKeysB es_NoSheet = true)
    (xi_NoSheet : nsFind es_NoSheet "__init__" = none)
    (xa_NoSheet : K.lookup A_NoSheet = some { cls := y0_NoSheet, dict := y1_NoSheet, data := .cls y2_NoSheet, slots := y3_NoSheet })
    (xb_NoSheet : K.lookup y2_NoSheet.ns = some ⟨z1_NoSheet, z2_NoSheet, .dict et_NoSheet z3_NoSheet, z4_NoSheet⟩)
    (xt_NoSheet : strKeysB et_NoSheet = true)
    (xj_NoSheet : nsFind et_NoSheet "__init__" = none)
    (qcs_NoSheet : (PySem.W.clsIn K c_NoSheet).isSome = true)
    (qga_NoSheet : PySem.W.findIn K (.ref c_NoSheet) "__getattribute__" = some (some (.builtin "BaseException.__getattribute__")))
    (qgt_NoSheet : PySem.W.findIn K (.ref c_NoSheet) "__getattr__" = some none)
    (qca_NoSheet : PySem.W.findIn K (.ref c_NoSheet) "__class__" = some (some (.builtin "object.__class__")))
    (qgg_NoSheet : PySem.W.specialIn K (.builtin "object.__class__") "__get__" = some (some (.builtin "getset_descriptor.__get__")))
    (qtk_NoSheet : PySem.W.takesIn K (.builtin "object.__class__") = some true)
    (qmo_NoSheet : PySem.W.mroIn K c_NoSheet (.type "object") = some true)
    (qsb_NoSheet : PySem.W.subIn K (.ref c_NoSheet) (.type "BaseException") = some true)
    (i_NoSheet_NoPath : PySem.W.kitOne K (.ref c_NoSheet) (.ref c_NoPath) = some false)
    (i_NoSheet_ValueError : PySem.W.kitOne K (.ref c_NoSheet) (.type "ValueError") = some true)
    (i_NoSheet_NoSorting : PySem.W.kitOne K (.ref c_NoSheet) (.ref c_NoSorting) = some false)
    (i_NoSheet_NoSheet : PySem.W.kitOne K (.ref c_NoSheet) (.ref c_NoSheet) = some true)
    (e_NoSheet_RightError : PySem.W.exmOne K (.ref c_NoSheet) (.ref c_RightError) = some true)
    (xl_NoPath : K.lookup c_NoPath = some (excClassObj nm_NoPath q_NoPath c_NoPath N_NoPath bs_NoPath (.ref A_NoPath :: vmro) hd_NoPath sn_NoPath sub_NoPath ab_NoPath col_NoPath dd_NoPath k0_NoPath k1_NoPath k2_NoPath k3_NoPath k5_NoPath "ValueError.__new__"))
    (xn_NoPath : K.lookup N_NoPath = some ⟨x1_NoPath, x2_NoPath, .dict es_NoPath x3_NoPath, x4_NoPath⟩)
    (xs_NoPath : strKeysB es_NoPath = true)
    (xi_NoPath : nsFind es_NoPath "__init__" = none)
    (xa_NoPath : K.lookup A_NoPath = some { cls := y0_NoPath, dict := y1_NoPath, data := .cls y2_NoPath, slots := y3_NoPath })
    (xb_NoPath : K.lookup y2_NoPath.ns = some ⟨z1_NoPath, z2_NoPath, .dict et_NoPath z3_NoPath, z4_NoPath⟩)
    (xt_NoPath : strKeysB et_NoPath = true)
    (xj_NoPath : nsFind et_NoPath "__init__" = none)
    (qcs_NoPath : (PySem.W.clsIn K c_NoPath).isSome = true)
    (qga_NoPath : PySem.W.findIn K (.ref c_NoPath) "__getattribute__" = some (some (.builtin "BaseException.__getattribute__")))
    (qgt_NoPath : PySem.W.findIn K (.ref c_NoPath) "__getattr__" = some none)
    (qca_NoPath : PySem.W.findIn K (.ref c_NoPath) "__class__" = some (some (.builtin "object.__class__")))
    (qgg_NoPath : PySem.W.specialIn K (.builtin "object.__class__") "__get__" = some (some (.builtin "getset_descriptor.__get__")))
    (qtk_NoPath : PySem.W.takesIn K (.builtin "object.__class__") = some true)
    (qmo_NoPath : PySem.W.mroIn K c_NoPath (.type "object") = some true)
    (qsb_NoPath : PySem.W.subIn K (.ref c_NoPath) (.type "BaseException") = some true)
    (i_NoPath_NoPath : PySem.W.kitOne K (.ref c_NoPath) (.ref c_NoPath) = some true)
    (i_NoPath_ValueError : PySem.W.kitOne K (.ref c_NoPath) (.type "ValueError") = some true)
    (i_NoPath_NoSorting : PySem.W.kitOne K (.ref c_NoPath) (.ref c_NoSorting) = some false)
    (i_NoPath_NoSheet : PySem.W.kitOne K (.ref c_NoPath) (.ref c_NoSheet) = some false)
    (e_NoPath_RightError : PySem.W.exmOne K (.ref c_NoPath) (.ref c_RightError) = some true)
    (z_len : PySem.W.nsIn K mainGlobals "len" = some none)
    (z_isinstance : PySem.W.nsIn K mainGlobals "isinstance" = some none)
    (z_int : PySem.W.nsIn K mainGlobals "int" = some none)
    (z_bool : PySem.W.nsIn K mainGlobals "bool" = some none)
    (z_list : PySem.W.nsIn K mainGlobals "list" = some none)
    (z_tuple : PySem.W.nsIn K mainGlobals "tuple" = some none)
    (z_sorted : PySem.W.nsIn K mainGlobals "sorted" = some none)
    (z_range : PySem.W.nsIn K mainGlobals "range" = some none)
    (z_min : PySem.W.nsIn K mainGlobals "min" = some none)
    (z_all : PySem.W.nsIn K mainGlobals "all" = some none)
    (z_ValueError : PySem.W.nsIn K mainGlobals "ValueError" = some none)
    : ∃ fd : FuncData, (∀ (s : Shared) (v : Value), BindsTo s fd ⟨[v], []⟩ [("_law_script", v)]) ∧ ∀ base : Heap, K.In base → base.Ns mainGlobals mg → FnOk l.prog w K mg base CX0 11 fa fd ["_law_script"] (spLaw K) := by
  have e := hfa.symm.trans (PySem.W.mg_of X G a22)
  cases e
  have F0 := fun_mk (st := s_is_whole) l0 c0 k0
  have b0 := F0.binds (ps := ["thing"]) fun _ _ _ _ _ _ us hl => by
    obtain ⟨a0, us0, rfl, g0⟩ := lenS hl
    obtain rfl := len0 g0
    rfl
  have F1 := fun_mk (st := s_is_number) l1 c1 k1
  have b1 := F1.binds (ps := ["thing"]) fun _ _ _ _ _ _ us hl => by
    obtain ⟨a0, us0, rfl, g0⟩ := lenS hl
    obtain rfl := len0 g0
    rfl
  have F2 := fun_mk (st := s_sorting_list) l2 c2 k2
  have b2 := F2.binds (ps := ["sorting"]) fun _ _ _ _ _ _ us hl => by
    obtain ⟨a0, us0, rfl, g0⟩ := lenS hl
    obtain rfl := len0 g0
    rfl
  have F3 := fun_mk (st := s_group_list) l3 c3 k3
  have b3 := F3.binds (ps := ["group", "depth", "seen"]) fun _ _ _ _ _ _ us hl => by
    obtain ⟨a0, us0, rfl, g0⟩ := lenS hl
    obtain ⟨a1, us1, rfl, g1⟩ := lenS g0
    obtain ⟨a2, us2, rfl, g2⟩ := lenS g1
    obtain rfl := len0 g2
    rfl
  have F4 := fun_mk (st := s_sheet_list) l4 c4 k4
  have b4 := F4.binds (ps := ["sheets", "seen"]) fun _ _ _ _ _ _ us hl => by
    obtain ⟨a0, us0, rfl, g0⟩ := lenS hl
    obtain ⟨a1, us1, rfl, g1⟩ := lenS g0
    obtain rfl := len0 g1
    rfl
  have F5 := fun_mk (st := s_refuse_sheet) l5 c5 k5
  have b5 := F5.binds (ps := ["sheet"]) fun _ _ _ _ _ _ us hl => by
    obtain ⟨a0, us0, rfl, g0⟩ := lenS hl
    obtain rfl := len0 g0
    rfl
  have F6 := fun_mk (st := s_without) l6 c6 k6
  have b6 := F6.binds (ps := ["parts", "sheet", "depth"]) fun _ _ _ _ _ _ us hl => by
    obtain ⟨a0, us0, rfl, g0⟩ := lenS hl
    obtain ⟨a1, us1, rfl, g1⟩ := lenS g0
    obtain ⟨a2, us2, rfl, g2⟩ := lenS g1
    obtain rfl := len0 g2
    rfl
  have F7 := fun_mk (st := s_laid) l7 c7 k7
  have b7 := F7.binds (ps := ["sorting", "sheet", "path"]) fun _ _ _ _ _ _ us hl => by
    obtain ⟨a0, us0, rfl, g0⟩ := lenS hl
    obtain ⟨a1, us1, rfl, g1⟩ := lenS g0
    obtain ⟨a2, us2, rfl, g2⟩ := lenS g1
    obtain rfl := len0 g2
    rfl
  have F8 := fun_mk (st := s_is_path) l8 c8 k8
  have b8 := F8.binds (ps := ["thing"]) fun _ _ _ _ _ _ us hl => by
    obtain ⟨a0, us0, rfl, g0⟩ := lenS hl
    obtain rfl := len0 g0
    rfl
  have F9 := fun_mk (st := s_put_sheet) l9 c9 k9
  have b9 := F9.binds (ps := ["parts", "sheet", "path"]) fun _ _ _ _ _ _ us hl => by
    obtain ⟨a0, us0, rfl, g0⟩ := lenS hl
    obtain ⟨a1, us1, rfl, g1⟩ := lenS g0
    obtain ⟨a2, us2, rfl, g2⟩ := lenS g1
    obtain rfl := len0 g2
    rfl
  have F10 := fun_mk (st := s_new_group) l10 c10 k10
  have b10 := F10.binds (ps := ["sheet", "depth"]) fun _ _ _ _ _ _ us hl => by
    obtain ⟨a0, us0, rfl, g0⟩ := lenS hl
    obtain ⟨a1, us1, rfl, g1⟩ := lenS g0
    obtain rfl := len0 g1
    rfl
  have F11 := fun_mk (st := s_Ldrawn) l11 c11 k11
  have b11 := F11.binds (ps := ["_law_script", "_law_k"]) fun _ _ _ _ _ _ us hl => by
    obtain ⟨a0, us0, rfl, g0⟩ := lenS hl
    obtain ⟨a1, us1, rfl, g1⟩ := lenS g0
    obtain rfl := len0 g1
    rfl
  have F12 := fun_mk (st := s_Lsheet) l12 c12 k12
  have b12 := F12.binds (ps := ["_law_number", "_law_k"]) fun _ _ _ _ _ _ us hl => by
    obtain ⟨a0, us0, rfl, g0⟩ := lenS hl
    obtain ⟨a1, us1, rfl, g1⟩ := lenS g0
    obtain rfl := len0 g1
    rfl
  have F13 := fun_mk (st := s_Lput) l13 c13 k13
  have b13 := F13.binds (ps := ["_law_sorting_here", "_law_sheet_here", "_law_number"]) fun _ _ _ _ _ _ us hl => by
    obtain ⟨a0, us0, rfl, g0⟩ := lenS hl
    obtain ⟨a1, us1, rfl, g1⟩ := lenS g0
    obtain ⟨a2, us2, rfl, g2⟩ := lenS g1
    obtain rfl := len0 g2
    rfl
  have F14 := fun_mk (st := s_Lsorting) l14 c14 k14
  have b14 := F14.binds (ps := ["_law_script", "_law_start", "_law_most"]) fun _ _ _ _ _ _ us hl => by
    obtain ⟨a0, us0, rfl, g0⟩ := lenS hl
    obtain ⟨a1, us1, rfl, g1⟩ := lenS g0
    obtain ⟨a2, us2, rfl, g2⟩ := lenS g1
    obtain rfl := len0 g2
    rfl
  have F15 := fun_mk (st := s_Lcopy) l15 c15 k15
  have b15 := F15.binds (ps := ["_law_sorting_here"]) fun _ _ _ _ _ _ us hl => by
    obtain ⟨a0, us0, rfl, g0⟩ := lenS hl
    obtain rfl := len0 g0
    rfl
  have F16 := fun_mk (st := s_Lsame) l16 c16 k16
  have b16 := F16.binds (ps := ["_law_found", "_law_due_here"]) fun _ _ _ _ _ _ us hl => by
    obtain ⟨a0, us0, rfl, g0⟩ := lenS hl
    obtain ⟨a1, us1, rfl, g1⟩ := lenS g0
    obtain rfl := len0 g1
    rfl
  have F17 := fun_mk (st := s_Lleft) l17 c17 k17
  have b17 := F17.binds (ps := ["_law_sorting_here", "_law_sheet_here"]) fun _ _ _ _ _ _ us hl => by
    obtain ⟨a0, us0, rfl, g0⟩ := lenS hl
    obtain ⟨a1, us1, rfl, g1⟩ := lenS g0
    obtain rfl := len0 g1
    rfl
  have F18 := fun_mk (st := s_Lpath) l18 c18 k18
  have b18 := F18.binds (ps := ["_law_left_here", "_law_number"]) fun _ _ _ _ _ _ us hl => by
    obtain ⟨a0, us0, rfl, g0⟩ := lenS hl
    obtain ⟨a1, us1, rfl, g1⟩ := lenS g0
    obtain rfl := len0 g1
    rfl
  have F19 := fun_mk (st := s_Ldue) l19 c19 k19
  have b19 := F19.binds (ps := ["_law_left_here", "_law_sheet_here", "_law_path_here"]) fun _ _ _ _ _ _ us hl => by
    obtain ⟨a0, us0, rfl, g0⟩ := lenS hl
    obtain ⟨a1, us1, rfl, g1⟩ := lenS g0
    obtain ⟨a2, us2, rfl, g2⟩ := lenS g1
    obtain rfl := len0 g2
    rfl
  have F20 := fun_mk (st := s_Lrefused) l20 c20 k20
  have b20 := F20.binds (ps := ["_law_sorting_here", "_law_sheet_here", "_law_path_here"]) fun _ _ _ _ _ _ us hl => by
    obtain ⟨a0, us0, rfl, g0⟩ := lenS hl
    obtain ⟨a1, us1, rfl, g1⟩ := lenS g0
    obtain ⟨a2, us2, rfl, g2⟩ := lenS g1
    obtain rfl := len0 g2
    rfl
  have F21 := fun_mk (st := s_Lright) l21 c21 k21
  have b21 := F21.binds (ps := ["_law_sorting_here", "_law_sheet_here", "_law_path_here"]) fun _ _ _ _ _ _ us hl => by
    obtain ⟨a0, us0, rfl, g0⟩ := lenS hl
    obtain ⟨a1, us1, rfl, g1⟩ := lenS g0
    obtain ⟨a2, us2, rfl, g2⟩ := lenS g1
    obtain rfl := len0 g2
    rfl
  have F22 := fun_mk (st := s_law) l22 c22 k22
  have b22 := F22.binds (ps := ["_law_script"]) fun _ _ _ _ _ _ us hl => by
    obtain ⟨a0, us0, rfl, g0⟩ := lenS hl
    obtain rfl := len0 g0
    rfl
  have T : Txt w K mg ⟨f0, _, f1, _, f2, _, f3, _, f4, _, f5, _, f6, _, f7, _, f8, _, f9, _, f10, _, f11, _, f12, _, f13, _, f14, _, f15, _, f16, _, f17, _, f18, _, f19, _, f20, _, f21, _, fa, _, u_LAST_NUMBER, u_FORM_DEPTH, c_NoSorting, c_NoSheet, c_NoPath, c_RightError⟩ := ⟨⟨F0, PySem.W.mg_of X G a0, b0⟩, ⟨F1, PySem.W.mg_of X G a1, b1⟩, ⟨F2, PySem.W.mg_of X G a2, b2⟩, ⟨F3, PySem.W.mg_of X G a3, b3⟩, ⟨F4, PySem.W.mg_of X G a4, b4⟩, ⟨F5, PySem.W.mg_of X G a5, b5⟩, ⟨F6, PySem.W.mg_of X G a6, b6⟩, ⟨F7, PySem.W.mg_of X G a7, b7⟩, ⟨F8, PySem.W.mg_of X G a8, b8⟩, ⟨F9, PySem.W.mg_of X G a9, b9⟩, ⟨F10, PySem.W.mg_of X G a10, b10⟩, ⟨F11, PySem.W.mg_of X G a11, b11⟩, ⟨F12, PySem.W.mg_of X G a12, b12⟩, ⟨F13, PySem.W.mg_of X G a13, b13⟩, ⟨F14, PySem.W.mg_of X G a14, b14⟩, ⟨F15, PySem.W.mg_of X G a15, b15⟩, ⟨F16, PySem.W.mg_of X G a16, b16⟩, ⟨F17, PySem.W.mg_of X G a17, b17⟩, ⟨F18, PySem.W.mg_of X G a18, b18⟩, ⟨F19, PySem.W.mg_of X G a19, b19⟩, ⟨F20, PySem.W.mg_of X G a20, b20⟩, ⟨F21, PySem.W.mg_of X G a21, b21⟩, ⟨F22, PySem.W.mg_of X G a22, b22⟩, PySem.W.mg_of X G cg_LAST_NUMBER, cr_LAST_NUMBER, PySem.W.mg_of X G cg_FORM_DEPTH, cr_FORM_DEPTH, PySem.W.mg_of X G cg_NoSorting, PySem.W.mg_of X G cg_NoSheet, PySem.W.mg_of X G cg_NoPath, PySem.W.mg_of X G cg_RightError, XCls.mk2 xl_NoSorting xn_NoSorting xs_NoSorting xi_NoSorting xa_NoSorting xb_NoSorting xt_NoSorting xj_NoSorting, ⟨qcs_NoSorting, qga_NoSorting, qgt_NoSorting, qca_NoSorting, qgg_NoSorting, qtk_NoSorting, qmo_NoSorting, qsb_NoSorting⟩, i_NoSorting_NoPath, i_NoSorting_ValueError, i_NoSorting_NoSorting, i_NoSorting_NoSheet, e_NoSorting_RightError, XCls.mk2 xl_NoSheet xn_NoSheet xs_NoSheet xi_NoSheet xa_NoSheet xb_NoSheet xt_NoSheet xj_NoSheet, ⟨qcs_NoSheet, qga_NoSheet, qgt_NoSheet, qca_NoSheet, qgg_NoSheet, qtk_NoSheet, qmo_NoSheet, qsb_NoSheet⟩, i_NoSheet_NoPath, i_NoSheet_ValueError, i_NoSheet_NoSorting, i_NoSheet_NoSheet, e_NoSheet_RightError, XCls.mk2 xl_NoPath xn_NoPath xs_NoPath xi_NoPath xa_NoPath xb_NoPath xt_NoPath xj_NoPath, ⟨qcs_NoPath, qga_NoPath, qgt_NoPath, qca_NoPath, qgg_NoPath, qtk_NoPath, qmo_NoPath, qsb_NoPath⟩, i_NoPath_NoPath, i_NoPath_ValueError, i_NoPath_NoSorting, i_NoPath_NoSheet, e_NoPath_RightError, PySem.W.mg_none_of X G z_len, PySem.W.mg_none_of X G z_isinstance, PySem.W.mg_none_of X G z_int, PySem.W.mg_none_of X G z_bool, PySem.W.mg_none_of X G z_list, PySem.W.mg_none_of X G z_tuple, PySem.W.mg_none_of X G z_sorted, PySem.W.mg_none_of X G z_range, PySem.W.mg_none_of X G z_min, PySem.W.mg_none_of X G z_all, PySem.W.mg_none_of X G z_ValueError⟩
  exact ⟨_, fun s v => .of_eq rfl, fun base _ _ => ok_law T⟩
end My
theorem PySem.W.Fast.tw10193772503798796385 : True := trivial
theorem PySem.W.Fast.tw10472341273504316426 : True := trivial
theorem PySem.W.Fast.tw7768519068898828265 : True := trivial
theorem PySem.W.Fast.tw13980503887195594868 : True := trivial
theorem PySem.W.Fast.tw11087672252445272744 : True := trivial
theorem PySem.W.Fast.tw6238519162793339525 : True := trivial
theorem PySem.W.Fast.tw15336745264340330943 : True := trivial
theorem PySem.W.Fast.tw2683422723918342681 : True := trivial
theorem PySem.W.Fast.tw17696674254378927768 : True := trivial
theorem PySem.W.Fast.tw9051777548008431544 : True := trivial
theorem PySem.W.Fast.tw2916471750571277000 : True := trivial
theorem PySem.W.Fast.tw6630200896420939210 : True := trivial
theorem PySem.W.Fast.tw375232943191887581 : True := trivial
theorem PySem.W.Fast.tw13450413710534812637 : True := trivial
theorem PySem.W.Fast.tw5288450916625811873 : True := trivial
theorem PySem.W.Fast.tw117701175109402399 : True := trivial
theorem PySem.W.Fast.tw2605670943728802593 : True := trivial
theorem PySem.W.Fast.tw13396216201833636869 : True := trivial
theorem PySem.W.Fast.tw9013340474019984920 : True := trivial
theorem PySem.W.Fast.tw6689879352901237127 : True := trivial
theorem PySem.W.Fast.tw7832612675324017792 : True := trivial
theorem PySem.W.Fast.tw14149283512893461831 : True := trivial
theorem PySem.W.Fast.tw12005125824729564049 : True := trivial
theorem PySem.W.Fast.tw173906927730126595 : True := trivial
theorem PySem.W.Fast.tw9810917174121266050 : True := trivial
theorem PySem.W.Fast.tw15537479107084038137 : True := trivial
theorem PySem.W.Fast.tw8341970099968597702 : True := trivial
theorem PySem.W.Fast.tw1745621094033436286 : True := trivial
theorem PySem.W.Fast.tw8251928344950283053 : True := trivial
theorem PySem.W.Fast.tw17830250753516926419 : True := trivial
theorem PySem.W.Fast.tw6892541068938598953 : True := trivial
theorem PySem.W.Fast.tw1036646248747498876 : True := trivial
theorem PySem.W.Fast.tw13139100088262395119 : True := trivial
theorem PySem.W.Fast.tw4736302584669917102 : True := trivial
theorem PySem.W.Fast.tw14707179769346966367 : True := trivial
theorem PySem.W.Fast.tw1898813886057949353 : True := trivial
theorem PySem.W.Fast.tw11030782585761846957 : True := trivial
theorem PySem.W.Fast.tw16760184195337400740 : True := trivial
theorem PySem.W.Fast.tw10112018198078341109 : True := trivial
theorem PySem.W.Fast.tw15487955194948532983 : True := trivial
theorem PySem.W.Fast.tw5493053079576478082 : True := trivial
theorem PySem.W.Fast.tw2645055675367462881 : True := trivial
theorem PySem.W.Fast.tw14869509873373776883 : True := trivial
theorem PySem.W.Fast.tw12893808584158372990 : True := trivial
theorem PySem.W.Fast.tw9507707278081710280 : True := trivial
theorem PySem.W.Fast.tw9886082030118892468 : True := trivial
theorem PySem.W.Fast.tw1755223487264258023 : True := trivial
theorem PySem.W.Fast.tw7175822850082359044 : True := trivial
theorem PySem.W.Fast.tw9522776765730645406 : True := trivial
theorem PySem.W.Fast.tw10840561716897538227 : True := trivial
theorem PySem.W.Fast.tw5223900933413696249 : True := trivial
theorem PySem.W.Fast.tw2714452679954577450 : True := trivial
theorem PySem.W.Fast.tw9024274850493399090 : True := trivial
theorem PySem.W.Fast.tw3780456032102134361 : True := trivial
theorem PySem.W.Fast.tw14534029218114823151 : True := trivial
theorem PySem.W.Fast.tw8339749309025154385 : True := trivial
theorem PySem.W.Fast.tw2240565327899443602 : True := trivial
theorem PySem.W.Fast.tw11147923806669333762 : True := trivial
theorem PySem.W.Fast.tw6843535527719166842 : True := trivial
theorem PySem.W.Fast.tw17319877012988329625 : True := trivial
theorem PySem.W.Fast.tw7777552907416995459 : True := trivial
theorem PySem.W.Fast.tw3443219535422274504 : True := trivial
theorem PySem.W.Fast.tw8460942592746116731 : True := trivial
theorem PySem.W.Fast.tw5298483035166795614 : True := trivial
theorem PySem.W.Fast.tw4749173446315483745 : True := trivial
theorem PySem.W.Fast.tw15137686755520666074 : True := trivial
theorem PySem.W.Fast.tw4905099970582484287 : True := trivial
theorem PySem.W.Fast.tw17122286587464711484 : True := trivial
theorem PySem.W.Fast.tw9741100997890286925 : True := trivial
theorem PySem.W.Fast.tw14981387318307887744 : True := trivial
theorem PySem.W.Fast.tw13468915859598840544 : True := trivial
theorem PySem.W.Fast.tw12404003313366675452 : True := trivial
theorem PySem.W.Fast.tw7000091106471170062 : True := trivial
theorem PySem.W.Fast.tw13708174899662131236 : True := trivial
theorem PySem.W.Fast.tw250638073276181173 : True := trivial
theorem PySem.W.Fast.tw18125372897628371271 : True := trivial
theorem PySem.W.Fast.tw2793312797007984986 : True := trivial
theorem PySem.W.Fast.tw6653550110542252004 : True := trivial
theorem PySem.W.Fast.tw13348199545523709735 : True := trivial
theorem PySem.W.Fast.tw7396884412743034704 : True := trivial
theorem PySem.W.Fast.tw14805838897423439581 : True := trivial
theorem PySem.W.Fast.tw5532973212636216172 : True := trivial
theorem PySem.W.Fast.tw2628565412612117581 : True := trivial
theorem PySem.W.Fast.tw8856155331197729779 : True := trivial
theorem PySem.W.Fast.tw1327411844592689122 : True := trivial
theorem PySem.W.Fast.tw376138987892698777 : True := trivial
theorem PySem.W.Fast.tw16504892730783441335 : True := trivial
theorem PySem.W.Fast.tw9762510648533073536 : True := trivial
theorem PySem.W.Fast.tw16448221753539088967 : True := trivial
theorem PySem.W.Fast.tw16827290217634073836 : True := trivial
theorem PySem.W.Fast.tw4641835744456409208 : True := trivial
theorem PySem.W.Fast.tw16145769776855549991 : True := trivial
theorem PySem.W.Fast.tw13636060296600368864 : True := trivial
theorem PySem.W.Fast.tw14941053777585636755 : True := trivial
theorem PySem.W.Fast.tw10689570516654737278 : True := trivial
theorem PySem.W.Fast.tw202522211380741127 : True := trivial
theorem PySem.W.Fast.tw5792355620790936199 : True := trivial
theorem PySem.W.Fast.tw6469686372743778318 : True := trivial
theorem PySem.W.Fast.tw8468209434556805426 : True := trivial
theorem PySem.W.Fast.tw4390261296399457487 : True := trivial
theorem PySem.W.Fast.tw11233997256668269088 : True := trivial
theorem PySem.W.Fast.tw7836673189521961970 : True := trivial
theorem PySem.W.Fast.tw3277854071033379792 : True := trivial
theorem PySem.W.Fast.tw8060998700990035701 : True := trivial
theorem PySem.W.Fast.tw12285606578124443932 : True := trivial
theorem PySem.W.Fast.tw9891948213637608624 : True := trivial
theorem PySem.W.Fast.tw5147832836367554586 : True := trivial
theorem PySem.W.Fast.tw9644812345172835238 : True := trivial
theorem PySem.W.Fast.tw967111345661608047 : True := trivial
theorem PySem.W.Fast.tw12958189707006691949 : True := trivial
theorem PySem.W.Fast.tw13283792535660061675 : True := trivial
theorem PySem.W.Fast.tw398844315054735671 : True := trivial
theorem PySem.W.Fast.tw14810453939496035287 : True := trivial
theorem PySem.W.Fast.tw16427417975081767297 : True := trivial
theorem PySem.W.Fast.tw4068786023011422904 : True := trivial
theorem PySem.W.Fast.tw6675333397905163325 : True := trivial
theorem PySem.W.Fast.tw134300151701559916 : True := trivial
theorem PySem.W.Fast.tw12509725449486063213 : True := trivial
theorem PySem.W.Fast.tw17026612175478854816 : True := trivial
theorem PySem.W.Fast.tw13169599963684876975 : True := trivial
theorem PySem.W.Fast.tw9096798690910158468 : True := trivial
theorem PySem.W.Fast.tw10275465038951345204 : True := trivial
theorem PySem.W.Fast.tw1486754641512407391 : True := trivial
theorem PySem.W.Fast.tw3055617806426680966 : True := trivial
theorem PySem.W.Fast.tw7994336975251749708 : True := trivial
theorem PySem.W.Fast.tw6339091820966614448 : True := trivial
theorem PySem.W.Fast.tw2426173131160293809 : True := trivial
theorem PySem.W.Fast.tw16379937157791856269 : True := trivial
theorem PySem.W.Fast.tw13919485330167878542 : True := trivial
theorem PySem.W.Fast.tw2641675413604707746 : True := trivial
theorem PySem.W.Fast.tw15090116167115177446 : True := trivial
theorem PySem.W.Fast.tw13748895515078332699 : True := trivial
theorem PySem.W.Fast.tw17837615300314988833 : True := trivial
theorem PySem.W.Fast.tw16858807256062320954 : True := trivial
theorem PySem.W.Fast.tw15183809925187057242 : True := trivial
theorem PySem.W.Fast.tw12226540124010372282 : True := trivial
theorem PySem.W.Fast.tw7322408932116752273 : True := trivial
theorem PySem.W.Fast.tw16566862043316012801 : True := trivial
theorem PySem.W.Fast.tw4699294350062841559 : True := trivial
theorem PySem.W.Fast.tw4493773686364387873 : True := trivial
theorem PySem.W.Fast.tw6719370618225015940 : True := trivial
theorem PySem.W.Fast.tw11514722366274540208 : True := trivial
theorem PySem.W.Fast.tw966615886866093714 : True := trivial
theorem PySem.W.Fast.tw6533286081420531932 : True := trivial
theorem PySem.W.Fast.tw9707682041279041238 : True := trivial
theorem PySem.W.Fast.tw16945260274135578855 : True := trivial
theorem PySem.W.Fast.tw15527504254871760374 : True := trivial
theorem PySem.W.Fast.tw12237551769322905516 : True := trivial
theorem PySem.W.Fast.tw3802781271904891283 : True := trivial
theorem PySem.W.Fast.tw4257720732218282512 : True := trivial
theorem PySem.W.Fast.tw18052251284612341146 : True := trivial
theorem PySem.W.Fast.tw13364383477813443399 : True := trivial
theorem PySem.W.Fast.tw13111463216145066153 : True := trivial
theorem PySem.W.Fast.tw17430686236212341097 : True := trivial
theorem PySem.W.Fast.tw12830812006018852270 : True := trivial
theorem PySem.W.Fast.tw11486684641423896443 : True := trivial
theorem PySem.W.Fast.tw4958603696104624713 : True := trivial
theorem PySem.W.Fast.tw7745204404932418845 : True := trivial
theorem PySem.W.Fast.tw10224331385351868954 : True := trivial
theorem PySem.W.Fast.tw2062910431280822786 : True := trivial
theorem PySem.W.Fast.tw8629883369645918067 : True := trivial
theorem PySem.W.Fast.tw17235044108924963134 : True := trivial
theorem PySem.W.Fast.tw7244175440327039932 : True := trivial
theorem PySem.W.Fast.tw4061503649867345763 : True := trivial
theorem PySem.W.Fast.tw12814087749304137353 : True := trivial
theorem PySem.W.Fast.tw12667686700199693110 : True := trivial
theorem PySem.W.Fast.tw16813147231339988333 : True := trivial
theorem PySem.W.Fast.tw12071262341053442124 : True := trivial
theorem PySem.W.Fast.tw4826415760435930519 : True := trivial
theorem PySem.W.Fast.tw17409394786515835675 : True := trivial
theorem PySem.W.Fast.tw13986433707234261372 : True := trivial
theorem PySem.W.Fast.tw5410935801806213540 : True := trivial
theorem PySem.W.Fast.tw3074847065197332335 : True := trivial
theorem PySem.W.Fast.tw3798121467772917553 : True := trivial
theorem PySem.W.Fast.tw11508422452857653168 : True := trivial
theorem PySem.W.Fast.tw10749393542136203070 : True := trivial
theorem PySem.W.Fast.tw11157489644542368014 : True := trivial
theorem PySem.W.Fast.tw2751967041148498783 : True := trivial
theorem PySem.W.Fast.tw10467132193357141703 : True := trivial
theorem PySem.W.Fast.tw8221329441673286227 : True := trivial
theorem PySem.W.Fast.tw1687835926450266311 : True := trivial
theorem PySem.W.Fast.tw6761010495921520473 : True := trivial
theorem PySem.W.Fast.tw10456285784189510968 : True := trivial
theorem PySem.W.Fast.tw12092802990499553651 : True := trivial
theorem PySem.W.Fast.tw17339696484841128577 : True := trivial
theorem PySem.W.Fast.tw4801850257153532067 : True := trivial
theorem PySem.W.Fast.tw9394408873083499129 : True := trivial
theorem PySem.W.Fast.tw1940374209837443938 : True := trivial
theorem PySem.W.Fast.tw12791557579490820971 : True := trivial
theorem PySem.W.Fast.tw8975105359253692985 : True := trivial
theorem PySem.W.Fast.tw6897100889786285403 : True := trivial
theorem PySem.W.Fast.tw8560376667559229826 : True := trivial
theorem PySem.W.Fast.tw16927280643052390780 : True := trivial
theorem PySem.W.Fast.tw5145191140343830396 : True := trivial
theorem PySem.W.Fast.tw3470448066671479889 : True := trivial
theorem PySem.W.Fast.tw14661448145112794939 : True := trivial
theorem PySem.W.Fast.tw3464489682618512777 : True := trivial
theorem PySem.W.Fast.tw3380685161745690677 : True := trivial
theorem PySem.W.Fast.tw7373104994344686115 : True := trivial
theorem PySem.W.Fast.tw13698034253955099009 : True := trivial
theorem PySem.W.Fast.tw9516185534420886566 : True := trivial
theorem PySem.W.Fast.tw9071027707932797723 : True := trivial
theorem PySem.W.Fast.tw10731429477749073332 : True := trivial
theorem PySem.W.Fast.tw16879050760313927256 : True := trivial
theorem PySem.W.Fast.tw14597653619464188741 : True := trivial
theorem PySem.W.Fast.tw7229365727126286917 : True := trivial
theorem PySem.W.Fast.tw17127155852549052140 : True := trivial
theorem PySem.W.Fast.tw16213986971495940953 : True := trivial
theorem PySem.W.Fast.tw4939912354114379220 : True := trivial
theorem PySem.W.Fast.tw1935058085024858836 : True := trivial
theorem PySem.W.Fast.tw2690956054918871497 : True := trivial
theorem PySem.W.Fast.tw11999611904285385474 : True := trivial
theorem PySem.W.Fast.tw5253495711330596683 : True := trivial
theorem PySem.W.Fast.tw13831965497117012130 : True := trivial
theorem PySem.W.Fast.tw1188949674035020956 : True := trivial
theorem PySem.W.Fast.tw11873550189782653282 : True := trivial
theorem PySem.W.Fast.tw2612869702394504100 : True := trivial
theorem PySem.W.Fast.tw5857962757471734896 : True := trivial
theorem PySem.W.Fast.tw4056995035882607809 : True := trivial
theorem PySem.W.Fast.tw12179710968902809991 : True := trivial
theorem PySem.W.Fast.tw16539188727653452100 : True := trivial
theorem PySem.W.Fast.tw11895626095747348992 : True := trivial
theorem PySem.W.Fast.tw2151123546235161410 : True := trivial
theorem PySem.W.Fast.tw1103967461540257264 : True := trivial
theorem PySem.W.Fast.tw3822673358206034103 : True := trivial
theorem PySem.W.Fast.tw9313895342571887181 : True := trivial
theorem PySem.W.Fast.tw7457505878180402739 : True := trivial
theorem PySem.W.Fast.tw8184112713666536887 : True := trivial
theorem PySem.W.Fast.tw9202094082696638422 : True := trivial
theorem PySem.W.Fast.tw11904396328097572408 : True := trivial
theorem PySem.W.Fast.tw984513063151270029 : True := trivial
theorem PySem.W.Fast.tw9874048617072709111 : True := trivial
theorem PySem.W.Fast.tw15686645358592195499 : True := trivial
theorem PySem.W.Fast.tw13464401280436044542 : True := trivial
theorem PySem.W.Fast.tw12512687924993955957 : True := trivial
theorem PySem.W.Fast.tw5317912652332344770 : True := trivial
theorem PySem.W.Fast.tw17795628458530174945 : True := trivial
open PySem PySem.W PyProof.Rows
set_option maxRecDepth 100000 in
set_option maxHeartbeats 0 in
theorem PySem.Challenge.cw_rightname_k45_laid_holds : PySem.Challenge.rw_rightname_k45_laid.Holds := by
  w_on; o_law; k_head; (case hw => w_witness2)
  k_fill
  refine L2.walk_ofK (l := PySem.Challenge.rw_rightname_k45_laid) (n := 63) (k := 11) (x := "_law_script") (CX := L2.CX0) (sp := My.spLaw) rfl (by decide) rfl ⟨rfl, by decide, by decide⟩ (fun w h Y => PySem.W.kIn_of Y) ?F ?S ?C
  case F =>
    intro w mg fa h KX G hmg
    refine' My.all_mk KX G hmg ?pa0 ?pl0 ?pc0 ?pk0 ?pa1 ?pl1 ?pc1 ?pk1 ?pa2 ?pl2 ?pc2 ?pk2 ?pa3 ?pl3 ?pc3 ?pk3 ?pa4 ?pl4 ?pc4 ?pk4 ?pa5 ?pl5 ?pc5 ?pk5 ?pa6 ?pl6 ?pc6 ?pk6 ?pa7 ?pl7 ?pc7 ?pk7 ?pa8 ?pl8 ?pc8 ?pk8 ?pa9 ?pl9 ?pc9 ?pk9 ?pa10 ?pl10 ?pc10 ?pk10 ?pa11 ?pl11 ?pc11 ?pk11 ?pa12 ?pl12 ?pc12 ?pk12 ?pa13 ?pl13 ?pc13 ?pk13 ?pa14 ?pl14 ?pc14 ?pk14 ?pa15 ?pl15 ?pc15 ?pk15 ?pa16 ?pl16 ?pc16 ?pk16 ?pa17 ?pl17 ?pc17 ?pk17 ?pa18 ?pl18 ?pc18 ?pk18 ?pa19 ?pl19 ?pc19 ?pk19 ?pa20 ?pl20 ?pc20 ?pk20 ?pa21 ?pl21 ?pc21 ?pk21 ?pa22 ?pl22 ?pc22 ?pk22 ?pcg_LAST_NUMBER ?pcr_LAST_NUMBER ?pcg_FORM_DEPTH ?pcr_FORM_DEPTH ?pcg_NoSorting ?pcg_NoSheet ?pcg_NoPath ?pcg_RightError ?pxl_NoSorting ?pxn_NoSorting ?pxs_NoSorting ?pxi_NoSorting ?pxa_NoSorting ?pxb_NoSorting ?pxt_NoSorting ?pxj_NoSorting ?pqcs_NoSorting ?pqga_NoSorting ?pqgt_NoSorting ?pqca_NoSorting ?pqgg_NoSorting ?pqtk_NoSorting ?pqmo_NoSorting ?pqsb_NoSorting ?pi_NoSorting_NoPath ?pi_NoSorting_ValueError ?pi_NoSorting_NoSorting ?pi_NoSorting_NoSheet ?pe_NoSorting_RightError ?pxl_NoSheet ?pxn_NoSheet ?pxs_NoSheet ?pxi_NoSheet ?pxa_NoSheet ?pxb_NoSheet ?pxt_NoSheet ?pxj_NoSheet ?pqcs_NoSheet ?pqga_NoSheet ?pqgt_NoSheet ?pqca_NoSheet ?pqgg_NoSheet ?pqtk_NoSheet ?pqmo_NoSheet ?pqsb_NoSheet ?pi_NoSheet_NoPath ?pi_NoSheet_ValueError ?pi_NoSheet_NoSorting ?pi_NoSheet_NoSheet ?pe_NoSheet_RightError ?pxl_NoPath ?pxn_NoPath ?pxs_NoPath ?pxi_NoPath ?pxa_NoPath ?pxb_NoPath ?pxt_NoPath ?pxj_NoPath ?pqcs_NoPath ?pqga_NoPath ?pqgt_NoPath ?pqca_NoPath ?pqgg_NoPath ?pqtk_NoPath ?pqmo_NoPath ?pqsb_NoPath ?pi_NoPath_NoPath ?pi_NoPath_ValueError ?pi_NoPath_NoSorting ?pi_NoPath_NoSheet ?pe_NoPath_RightError ?pz_len ?pz_isinstance ?pz_int ?pz_bool ?pz_list ?pz_tuple ?pz_sorted ?pz_range ?pz_min ?pz_all ?pz_ValueError
    (case pa0 => k_is)
    (case pl0 => k_is)
    (case pc0 => k_is)
    (case pk0 => k_is)
    (case pa1 => k_is)
    (case pl1 => k_is)
    (case pc1 => k_is)
    (case pk1 => k_is)
    (case pa2 => k_is)
    (case pl2 => k_is)
    (case pc2 => k_is)
    (case pk2 => k_is)
    (case pa3 => k_is)
    (case pl3 => k_is)
    (case pc3 => k_is)
    (case pk3 => k_is)
    (case pa4 => k_is)
    (case pl4 => k_is)
    (case pc4 => k_is)
    (case pk4 => k_is)
    (case pa5 => k_is)
    (case pl5 => k_is)
    (case pc5 => k_is)
    (case pk5 => k_is)
    (case pa6 => k_is)
    (case pl6 => k_is)
    (case pc6 => k_is)
    (case pk6 => k_is)
    (case pa7 => k_is)
    (case pl7 => k_is)
    (case pc7 => k_is)
    (case pk7 => k_is)
    (case pa8 => k_is)
    (case pl8 => k_is)
    (case pc8 => k_is)
    (case pk8 => k_is)
    (case pa9 => k_is)
    (case pl9 => k_is)
    (case pc9 => k_is)
    (case pk9 => k_is)
    (case pa10 => k_is)
    (case pl10 => k_is)
    (case pc10 => k_is)
    (case pk10 => k_is)
    (case pa11 => k_is)
    (case pl11 => k_is)
    (case pc11 => k_is)
    (case pk11 => k_is)
    (case pa12 => k_is)
    (case pl12 => k_is)
    (case pc12 => k_is)
    (case pk12 => k_is)
    (case pa13 => k_is)
    (case pl13 => k_is)
    (case pc13 => k_is)
    (case pk13 => k_is)
    (case pa14 => k_is)
    (case pl14 => k_is)
    (case pc14 => k_is)
    (case pk14 => k_is)
    (case pa15 => k_is)
    (case pl15 => k_is)
    (case pc15 => k_is)
    (case pk15 => k_is)
    (case pa16 => k_is)
    (case pl16 => k_is)
    (case pc16 => k_is)
    (case pk16 => k_is)
    (case pa17 => k_is)
    (case pl17 => k_is)
    (case pc17 => k_is)
    (case pk17 => k_is)
    (case pa18 => k_is)
    (case pl18 => k_is)
    (case pc18 => k_is)
    (case pk18 => k_is)
    (case pa19 => k_is)
    (case pl19 => k_is)
    (case pc19 => k_is)
    (case pk19 => k_is)
    (case pa20 => k_is)
    (case pl20 => k_is)
    (case pc20 => k_is)
    (case pk20 => k_is)
    (case pa21 => k_is)
    (case pl21 => k_is)
    (case pc21 => k_is)
    (case pk21 => k_is)
    (case pa22 => k_is)
    (case pl22 => k_is)
    (case pc22 => k_is)
    (case pk22 => k_is)
    (case pcg_LAST_NUMBER => k_is)
    (case pcr_LAST_NUMBER => first | exact L2.rel_int | exact L2.rel_str | exact rfl)
    (case pcg_FORM_DEPTH => k_is)
    (case pcr_FORM_DEPTH => first | exact L2.rel_int | exact L2.rel_str | exact rfl)
    (case pcg_NoSorting => k_is)
    (case pcg_NoSheet => k_is)
    (case pcg_NoPath => k_is)
    (case pcg_RightError => k_is)
    (case pxl_NoSorting => k_is)
    (case pxn_NoSorting => k_is)
    (case pxs_NoSorting => kernel_rfl)
    (case pxi_NoSorting => kernel_rfl)
    (case pxa_NoSorting => k_is)
    (case pxb_NoSorting => k_is)
    (case pxt_NoSorting => kernel_rfl)
    (case pxj_NoSorting => kernel_rfl)
    (case pqcs_NoSorting => kernel_rfl)
    (case pqga_NoSorting => k_is)
    (case pqgt_NoSorting => k_is)
    (case pqca_NoSorting => k_is)
    (case pqgg_NoSorting => k_is)
    (case pqtk_NoSorting => k_is)
    (case pqmo_NoSorting => k_is)
    (case pqsb_NoSorting => k_is)
    (case pi_NoSorting_NoPath => kernel_rfl)
    (case pi_NoSorting_ValueError => kernel_rfl)
    (case pi_NoSorting_NoSorting => kernel_rfl)
    (case pi_NoSorting_NoSheet => kernel_rfl)
    (case pe_NoSorting_RightError => kernel_rfl)
    (case pxl_NoSheet => k_is)
    (case pxn_NoSheet => k_is)
    (case pxs_NoSheet => kernel_rfl)
    (case pxi_NoSheet => kernel_rfl)
    (case pxa_NoSheet => k_is)
    (case pxb_NoSheet => k_is)
    (case pxt_NoSheet => kernel_rfl)
    (case pxj_NoSheet => kernel_rfl)
    (case pqcs_NoSheet => kernel_rfl)
    (case pqga_NoSheet => k_is)
    (case pqgt_NoSheet => k_is)
    (case pqca_NoSheet => k_is)
    (case pqgg_NoSheet => k_is)
    (case pqtk_NoSheet => k_is)
    (case pqmo_NoSheet => k_is)
    (case pqsb_NoSheet => k_is)
    (case pi_NoSheet_NoPath => kernel_rfl)
    (case pi_NoSheet_ValueError => kernel_rfl)
    (case pi_NoSheet_NoSorting => kernel_rfl)
    (case pi_NoSheet_NoSheet => kernel_rfl)
    (case pe_NoSheet_RightError => kernel_rfl)
    (case pxl_NoPath => k_is)
    (case pxn_NoPath => k_is)
    (case pxs_NoPath => kernel_rfl)
    (case pxi_NoPath => kernel_rfl)
    (case pxa_NoPath => k_is)
    (case pxb_NoPath => k_is)
    (case pxt_NoPath => kernel_rfl)
    (case pxj_NoPath => kernel_rfl)
    (case pqcs_NoPath => kernel_rfl)
    (case pqga_NoPath => k_is)
    (case pqgt_NoPath => k_is)
    (case pqca_NoPath => k_is)
    (case pqgg_NoPath => k_is)
    (case pqtk_NoPath => k_is)
    (case pqmo_NoPath => k_is)
    (case pqsb_NoPath => k_is)
    (case pi_NoPath_NoPath => kernel_rfl)
    (case pi_NoPath_ValueError => kernel_rfl)
    (case pi_NoPath_NoSorting => kernel_rfl)
    (case pi_NoPath_NoSheet => kernel_rfl)
    (case pe_NoPath_RightError => kernel_rfl)
    (case pz_len => k_is)
    (case pz_isinstance => k_is)
    (case pz_int => k_is)
    (case pz_bool => k_is)
    (case pz_list => k_is)
    (case pz_tuple => k_is)
    (case pz_sorted => k_is)
    (case pz_range => k_is)
    (case pz_min => k_is)
    (case pz_all => k_is)
    (case pz_ValueError => k_is)
  case S => exact fun K H a ns hl hO hS => ⟨a, ns, rfl, hS, hl, fun _ => rfl⟩
  case C => exact fun _ _ _ _ z => z
#print axioms PySem.Challenge.cw_rightname_k45_laid_holds

