import PyProof.Rows.All
import Wide.All
import OpenK.AllK
import Wide.FinOn
import Lean
import PyProof.EqAt
import PyProof.EqKinds
import PyProof.TupleCall
import PySem.Challenge.RW_rightname_k71_published
set_option Elab.async false
set_option linter.all false
set_option maxRecDepth 100000
/-! THE HAND LAYER, for ints, bools, texts, own classes, LISTS and tuples (index, slices, in, append, pop ..), calls, loops. Paste it whole ahead of your own text; what your proof does not reach may be deleted. -/
namespace L2
open PySem PySem.Spec PyProof.Rows

/-- a key: an int or a str -/
abbrev Key := Sum Int Str
def keyIs : Key → Value → Bool
  | .inl k, v => Value.isInt k v
  | .inr x, v => Value.isStrOf x v
def keyH (w : World) : Key → Int
  | .inl k => hashInt k
  | .inr x => hashStr w x
theorem keyIs_shape : ∀ {k : Key} {v : Value}, keyIs k v = true → (∃ i t, k = Sum.inl i ∧ v = Value.int i t) ∨ (∃ x t, k = Sum.inr x ∧ v = Value.str x t)
  | .inl i, v, h => by
    obtain ⟨t, e⟩ := Value.isInt_shape (k := i) (v := v) h
    exact .inl ⟨i, t, rfl, e⟩
  | .inr x, v, h => by
    obtain ⟨t, e⟩ := Value.isStrOf_shape (x := x) (v := v) h
    exact .inr ⟨x, t, rfl, e⟩
theorem keyIs_int (i : Int) (t : Tok) : keyIs (.inl i) (.int i t) = true := by simp [keyIs, Value.isInt]
theorem keyIs_str (x : Str) (t : Tok) : keyIs (.inr x) (.str x t) = true := by simp [keyIs, Value.isStrOf]
theorem key_ll (a b : Int) : decide ((Sum.inl a : Key) = Sum.inl b) = (a == b) := by
  by_cases e : a = b
  · subst e; simp
  · have h : ¬ (Sum.inl a : Key) = Sum.inl b := fun q => e (Sum.inl.inj q)
    rw [decide_eq_false h]
    exact (beq_eq_false_iff_ne.mpr e).symm
theorem key_rr (a b : Str) : decide ((Sum.inr a : Key) = Sum.inr b) = decide (a = b) := by
  by_cases e : a = b
  · subst e; simp
  · have h : ¬ (Sum.inr a : Key) = Sum.inr b := fun q => e (Sum.inr.inj q)
    rw [decide_eq_false h, decide_eq_false e]
theorem key_lr (a : Int) (b : Str) : decide ((Sum.inl a : Key) = Sum.inr b) = false := decide_eq_false (fun q => nomatch q)
theorem key_rl (a : Str) (b : Int) : decide ((Sum.inr a : Key) = Sum.inl b) = false := decide_eq_false (fun q => nomatch q)

def mixKind (prog : Program) (w : World) : PySem.KeyKind prog w Key where
  is := keyIs
  hash := keyH w
  inj := fun v a b ha hb => by
    rcases keyIs_shape ha with ⟨i, t, rfl, rfl⟩ | ⟨x, t, rfl, rfl⟩
    · rcases keyIs_shape hb with ⟨j, u, rfl, e⟩ | ⟨y, u, rfl, e⟩
      · injection e with e1 _; rw [e1]
      · exact nomatch e
    · rcases keyIs_shape hb with ⟨j, u, rfl, e⟩ | ⟨y, u, rfl, e⟩
      · exact nomatch e
      · injection e with e1 _; rw [e1]
  byValue := fun k v h => by
    rcases keyIs_shape h with ⟨i, t, rfl, rfl⟩ | ⟨x, t, rfl, rfl⟩ <;> rfl
  pyHash := fun hv h => by
    rcases keyIs_shape hv with ⟨i, t, rfl, rfl⟩ | ⟨x, t, rfl, rfl⟩
    · exact wpAny_pyHash_int h
    · exact wpAny_pyHash_str h
  eqBool := fun hu hv h => by
    rcases keyIs_shape hu with ⟨i, t, rfl, rfl⟩ | ⟨x, t, rfl, rfl⟩
    · rcases keyIs_shape hv with ⟨j, u, rfl, rfl⟩ | ⟨y, u, rfl, rfl⟩
      · rw [key_ll] at h; exact wpAny_eqBool_int h
      · rw [key_lr] at h; exact SeqAt.EqAt.int_str i t y u _ _ _ _ h
    · rcases keyIs_shape hv with ⟨j, u, rfl, rfl⟩ | ⟨y, u, rfl, rfl⟩
      · rw [key_rl] at h; exact SeqAt.EqAt.str_int x t j u _ _ _ _ h
      · rw [key_rr] at h; exact wpAny_eqBool_str h
  «strs» := fun k x t v h => by
    rcases keyIs_shape h with ⟨i, u, rfl, e⟩ | ⟨y, u, rfl, e⟩
    · exact nomatch e
    · injection e with e1 _
      subst e1
      cases v <;> rfl

theorem mixKind_int (prog : Program) (w : World) (i : Int) (t : Tok) : (mixKind prog w).is (.inl i) (.int i t) = true := keyIs_int i t
theorem mixKind_str (prog : Program) (w : World) (x : Str) (t : Tok) : (mixKind prog w).is (.inr x) (.str x t) = true := keyIs_str x t
end L2

namespace L2
open PySem PySem.Spec PyProof.Rows

/-- a value, without the heap -/
inductive V where
  | non | bl (b : Bool) | int (i : Int) | str (x : Str) | byt (b : Array UInt8) | flt (b : UInt64) | ref (a : Addr) | ty (n : String)
  deriving DecidableEq

def RelV : V → Value → Prop
  | .non, u => u = Value.none
  | .bl b, u => u = Value.bool b
  | .int i, u => ∃ t, u = Value.int i t
  | .str x, u => ∃ t, u = Value.str x t
  | .byt b, u => ∃ t, u = Value.bytes b t
  | .flt b, u => ∃ t, u = Value.float b t
  | .ref a, u => u = Value.ref a
  | .ty n, u => u = Value.type n

abbrev Vals : List V → List Value → Prop := Paired RelV
theorem Vals.length {xs : List V} {us : List Value} (r : Vals xs us) : xs.length = us.length := Paired.length r
theorem Vals.get : ∀ {xs : List V} {us : List Value} {i : Nat} {x : V}, Vals xs us → xs[i]? = some x → ∃ u, us[i]? = some u ∧ RelV x u
  | _, _, _, _, .nil, e => by simp at e
  | _, _, 0, _, .cons r _, e => by simp at e; subst e; exact ⟨_, rfl, r⟩
  | _, _, i + 1, x, .cons _ t, e => by
    obtain ⟨u, h1, h2⟩ := Vals.get (i := i) (x := x) t (by simpa using e)
    exact ⟨u, by simpa using h1, h2⟩
theorem Vals.set {x : V} {u : Value} (r : RelV x u) : ∀ {xs : List V} {us : List Value} (i : Nat), Vals xs us → Vals (xs.set i x) (us.set i u)
  | _, _, _, .nil => .nil
  | _, _, 0, .cons _ t => .cons r t
  | _, _, i + 1, .cons q t => .cons q (Vals.set r i t)
theorem Vals.append : ∀ {xs ys : List V} {us ws : List Value}, Vals xs us → Vals ys ws → Vals (xs ++ ys) (us ++ ws)
  | _, _, _, _, .nil, s => s
  | _, _, _, _, .cons r t, s => .cons r (Vals.append t s)
theorem Vals.take : ∀ {xs : List V} {us : List Value} (n : Nat), Vals xs us → Vals (xs.take n) (us.take n)
  | _, _, 0, _ => .nil
  | _, _, _ + 1, .nil => .nil
  | _, _, n + 1, .cons r t => .cons r (Vals.take n t)
theorem Vals.drop : ∀ {xs : List V} {us : List Value} (n : Nat), Vals xs us → Vals (xs.drop n) (us.drop n)
  | _, _, 0, r => r
  | _, _, _ + 1, .nil => .nil
  | _, _, n + 1, .cons _ t => Vals.drop n t
theorem Vals.none_of : ∀ {xs : List V} {us : List Value} {i : Nat}, Vals xs us → xs[i]? = none → us[i]? = none := fun {xs us i} r e => by
  have h1 := r.length
  have h2 : xs.length ≤ i := List.getElem?_eq_none_iff.mp e
  exact List.getElem?_eq_none_iff.mpr (by omega)

def RelO : Option V → Option Value → Prop
  | some v, some u => RelV v u
  | none, none => True
  | _, _ => False
def KV {κ : Type} : List (κ × V) → List (κ × Value) → Prop := Paired fun (p : κ × V) (q : κ × Value) => p.1 = q.1 ∧ RelV p.2 q.2

/-- a key of a dict (00_mix): an int or a text -/
def kV : Key → V
  | .inl i => .int i
  | .inr x => .str x

/-- what stands at a tracked address -/
inductive HO where
  /-- a list -/
  | lst (xs : List V)
  /-- a tuple (never changes) -/
  | tup (xs : List V)
  /-- a dict whose keys are ints and texts; one whose keys are tuples of ints and texts (the empty one is both) -/
  | dK (kvs : List (Key × V)) | dT (kvs : List (List Key × V))
  /-- a set of ints: its members, its size -/
  | set (S : Int → Bool) (n : Nat)
  /-- an instance of the class at C, its dict at dx, its attributes -/
  | ins (C dx : Addr) (fs : List (Str × V))
  /-- the dict of the instance at x -/
  | own (x : Addr)
  /-- the dict of an exception -/
  | xd (fs : List (Str × V))
  /-- a bound method, f of x -/
  | met (f x : Addr)
  /-- a range object lo, lo + 1, .. below hi -/
  | rng (lo hi : Int)
  /-- a thing that is known to the object (the script; a dict while a loop walks it): read, never written while it is so -/
  | frz (o : Obj) (u : HO)
  /-- a code object's table -/
  | tbl (ps : Array Value)
  /-- any other thing, by what is true of its one object (a def of one's own: SetO a S n := HO.ext fun h => ..) -/
  | ext (φ : Heap → Prop)

abbrev Hp := Addr → Option HO
def upd (H : Hp) (a : Addr) (o : HO) : Hp := fun b => if b = a then some o else H b
theorem upd_same {H : Hp} {a : Addr} {o : HO} : upd H a o a = some o := by unfold upd; rw [if_pos rfl]
theorem upd_ne {H : Hp} {a b : Addr} {o : HO} (h : b ≠ a) : upd H a o b = H b := by unfold upd; rw [if_neg h]
theorem upd_upd {H : Hp} {a : Addr} {o u : HO} : upd (upd H a o) a u = upd H a u := by
  funext b; unfold upd; split <;> rfl
/-- two objects of different content stand apart -/
theorem ne_of {H : Hp} {a b : Addr} {o u : HO} (h : H a = some o) (h' : H b = some u) (d : o ≠ u) : a ≠ b := by
  intro e; subst e; rw [h] at h'; exact d (Option.some.inj h')
theorem ne_of_none {H : Hp} {a b : Addr} {o : HO} (h : H a = some o) (h' : H b = none) : a ≠ b := by
  intro e; subst e; rw [h] at h'; cases h'

section
variable (P : Program) (w : World)
def ObjOk (H : Hp) (h : Heap) (a : Addr) : HO → Prop
  | .lst xs => xs.length ≤ sizeLine ∧ ∃ (its : List Value) (n : Nat), Vals xs its ∧ h.get? a = some { cls := .type "list", data := .seq its.toArray n }
  | .tup xs => xs.length ≤ sizeLine ∧ ∃ its : List Value, Vals xs its ∧ IsTup h a its.toArray
  | .dK kvs => kvs.length ≤ sizeLine ∧ (a == sysModules) = false ∧ ∃ vs, KV kvs vs ∧ h.DictOf (mixKind P w) a vs
  | .dT kvs => kvs.length ≤ sizeLine ∧ (a == sysModules) = false ∧ ∃ xs : List (List Key × Addr × Value),
      Paired (fun (p : List Key × V) (q : List Key × Addr × Value) => p.1 = q.1 ∧ H q.2.1 = some (.tup (p.1.map kV)) ∧ RelV p.2 q.2.2) kvs xs ∧
      ∃ o es ep, h.get? a = some o ∧ o.ExactDict ∧ o.data = .dict es ep ∧ es.toList = xs.map (entryOfKey (tupleKind (mixKind P w))) ∧ (xs.map (·.1)).Nodup
  | .set S n => h.SetOf (intKind P w) a S n
  | .ins C dx fs => H dx = some (.own a) ∧ fs.length ≤ 1000 ∧ dx ≠ a ∧ h.get? a = some (PySem.W.instObj C dx) ∧
      ∃ mA, h.Ns1 dx mA ∧ (∀ f, RelO (fs.lookup f) (mA f)) ∧ PySem.Within mA (fs.map (·.1))
  | .own _ => ∃ o, h.get? a = some o
  | .xd fs => ∃ mA, h.Ns1 a mA ∧ ∀ f, RelO (fs.lookup f) (mA f)
  | .rng lo hi => ∃ t u v, h.get? a = some { cls := .type "range", data := .fields #[.int lo t, .int hi u, .int 1 v] }
  | .frz o u => h.get? a = some o ∧ ObjOk H h a u
  | .tbl ps => h.get? a = some { cls := .none, data := .fields ps }
  | .met f x => h.get? a = some (PySem.W.methodObj (.ref f) (.ref x))
  | .ext φ => φ h ∧ (∃ o, h.get? a = some o) ∧ ∀ h1 h2 : Heap, φ h1 → (∀ o, h1.get? a = some o → h2.get? a = some o) → φ h2
/-- the abstract heap is held -/
def HOk (H : Hp) (h : Heap) : Prop := ∀ a o, H a = some o → ObjOk P w H h a o
end

section
variable {P : Program} {w : World} {H H' : Hp} {h h' : Heap} {a : Addr} {o : HO}
theorem ObjOk.lt (x : ObjOk P w H h a o) : a < h.objs.size := by
  cases o with
  | lst xs => obtain ⟨_, _, _, _, e⟩ := x; exact Heap.lt_size e
  | tup xs => obtain ⟨_, _, _, p⟩ := x; exact p.lt
  | dK kvs => obtain ⟨_, _, _, _, o, _, _, e, _⟩ := x; exact Heap.lt_size e
  | dT kvs => obtain ⟨_, _, _, _, o, _, _, e, _⟩ := x; exact Heap.lt_size e
  | set S n => obtain ⟨o, _, _, _, e, _⟩ := x; exact Heap.lt_size e
  | ins C dx fs => obtain ⟨_, _, _, e, _⟩ := x; exact Heap.lt_size e
  | own y => obtain ⟨_, e⟩ := x; exact Heap.lt_size e
  | xd fs => obtain ⟨_, ⟨_, _, _, e, _⟩, _⟩ := x; exact Heap.lt_size e
  | rng lo hi => obtain ⟨_, _, _, e⟩ := x; exact Heap.lt_size e
  | frz ob u => obtain ⟨e, _⟩ := x; exact Heap.lt_size e
  | tbl ps => exact Heap.lt_size (show h.get? a = some _ from x)
  | met f y => exact Heap.lt_size (show h.get? a = some _ from x)
  | ext φ => obtain ⟨_, ⟨_, e⟩, _⟩ := x; exact Heap.lt_size e
theorem Paired.mapP {α β : Type} {F G : α → β → Prop} : ∀ {l₁ : List α} {l₂ : List β}, Paired F l₁ l₂ → (∀ a b, F a b → G a b) → Paired G l₁ l₂
  | _, _, .nil, _ => .nil
  | _, _, .cons r t, f => .cons (f _ _ r) (Paired.mapP t f)
/-- what an object's description leans on: its own object, its own dict, the tuples -/
theorem ObjOk.stay (x : ObjOk P w H h a o) (k : ∀ b u, (b = a ∨ H b = some (.own a)) → h.get? b = some u → h'.get? b = some u)
    (ho : ∀ b, H b = some (.own a) → H' b = some (.own a)) (ht : ∀ b xs, H b = some (.tup xs) → H' b = some (.tup xs)) : ObjOk P w H' h' a o := by
  induction o with
  | lst xs => obtain ⟨z, its, n, r, e⟩ := x; exact ⟨z, its, n, r, k _ _ (.inl rfl) e⟩
  | tup xs => obtain ⟨z, its, r, ob, e, c⟩ := x; exact ⟨z, its, r, ob, k _ _ (.inl rfl) e, c⟩
  | dK kvs => obtain ⟨z, y, vs, r, ob, es, ep, e, c⟩ := x; exact ⟨z, y, vs, r, ob, es, ep, k _ _ (.inl rfl) e, c⟩
  | dT kvs =>
    obtain ⟨z, y, xs, r, ob, es, ep, e, c⟩ := x
    exact ⟨z, y, xs, Paired.mapP r fun p q z => ⟨z.1, ht _ _ z.2.1, z.2.2⟩, ob, es, ep, k _ _ (.inl rfl) e, c⟩
  | set S n => obtain ⟨ob, es, ep, t, e, c⟩ := x; exact ⟨ob, es, ep, t, k _ _ (.inl rfl) e, c⟩
  | ins C dx fs =>
    obtain ⟨d, z, ne, e, mA, ⟨od, es, ep, e2, c⟩, r⟩ := x
    exact ⟨ho _ d, z, ne, k _ _ (.inl rfl) e, mA, ⟨od, es, ep, k _ _ (.inr d) e2, c⟩, r⟩
  | own y => obtain ⟨ob, e⟩ := x; exact ⟨ob, k _ _ (.inl rfl) e⟩
  | xd fs => obtain ⟨mA, ⟨od, es, ep, e, c⟩, r⟩ := x; exact ⟨mA, ⟨od, es, ep, k _ _ (.inl rfl) e, c⟩, r⟩
  | rng lo hi => obtain ⟨t, u, v, e⟩ := x; exact ⟨t, u, v, k _ _ (.inl rfl) e⟩
  | frz ob u ih => obtain ⟨e, q⟩ := x; exact ⟨k _ _ (.inl rfl) e, ih q⟩
  | tbl ps =>
    have e : h.get? a = some { cls := .none, data := .fields ps } := x
    show h'.get? a = some { cls := .none, data := .fields ps }
    exact k a _ (.inl rfl) e
  | met f y =>
    have e : h.get? a = some (PySem.W.methodObj (.ref f) (.ref y)) := x
    show h'.get? a = some (PySem.W.methodObj (.ref f) (.ref y))
    exact k a _ (.inl rfl) e
  | ext φ => obtain ⟨p, ⟨o, e⟩, st⟩ := x; exact ⟨st _ _ p fun o q => k _ _ (.inl rfl) q, ⟨o, k _ _ (.inl rfl) e⟩, st⟩
theorem HOk.lt (x : HOk P w H h) (e : H a = some o) : a < h.objs.size := (x a o e).lt
theorem HOk.fresh (x : HOk P w H h) (e : h.objs.size ≤ a) : H a = none := by
  cases q : H a with
  | none => rfl
  | some u => exact absurd (Nat.lt_of_lt_of_le (x.lt q) e) (Nat.lt_irrefl _)
/-- every object of the heap is kept -/
theorem HOk.kept (x : HOk P w H h) (k : ∀ b u, h.get? b = some u → h'.get? b = some u) : HOk P w H h' := fun a o e =>
  (x a o e).stay (fun b u _ q => k b u q) (fun _ q => q) fun _ _ q => q
/-- a new object is laid and tracked -/
theorem HOk.laid (x : HOk P w H h) (k : ∀ b u, h.get? b = some u → h'.get? b = some u) (hp : h.objs.size ≤ a) (new : ObjOk P w (upd H a o) h' a o) : HOk P w (upd H a o) h' := fun b u e => by
  have hn := x.fresh hp
  by_cases hb : b = a
  · subst hb; rw [upd_same] at e; cases e; exact new
  · rw [upd_ne hb] at e
    exact (x b u e).stay (fun c v _ q => k c v q) (fun c q => by rw [upd_ne (ne_of_none q hn)]; exact q) fun c xs q => by rw [upd_ne (ne_of_none q hn)]; exact q
end

/-- what may be read as u: it is u, or a known u -/
def Rd (H : Hp) (a : Addr) (u : HO) : Prop := H a = some u ∨ ∃ o, H a = some (.frz o u)
theorem Rd.of {H : Hp} {a : Addr} {u : HO} (h : H a = some u) : Rd H a u := .inl h
theorem Rd.ok {P : Program} {w : World} {H : Hp} {h : Heap} {a : Addr} {u : HO} (r : Rd H a u) (x : HOk P w H h) : ObjOk P w H h a u := by
  rcases r with r | ⟨o, r⟩
  · exact x a u r
  · obtain ⟨_, q⟩ := x a _ r
    exact q
/-- what may be written -/
def Mut : Option HO → Prop
  | some (.lst _) => True
  | some (.dK _) => True
  | some (.dT _) => True
  | some (.set _ _) => True
  | some (.ins _ _ _) => True
  | some (.ext _) => True
  | _ => False
section
variable {P : Program} {w : World} {H : Hp} {h h' : Heap} {x e : Addr} {o' : HO}
/-- the object at e is changed: x itself, or the dict of the instance x -/
theorem HOk.write (ok : HOk P w H h) (mu : Mut (H x)) (he : e = x ∨ H e = some (.own x)) (k : ∀ b u, b ≠ e → h.get? b = some u → h'.get? b = some u) (heo : ∃ u, h'.get? e = some u)
    (new : ObjOk P w (upd H x o') h' x o') : HOk P w (upd H x o') h' := fun b u q => by
  have nown : ∀ c y, H c = some (.own y) → c ≠ x := fun c y r z => by subst z; rw [r] at mu; exact mu
  have ntup : ∀ c xs, H c = some (.tup xs) → c ≠ x := fun c xs r z => by subst z; rw [r] at mu; exact mu
  by_cases hb : b = x
  · subst hb; rw [upd_same] at q; cases q; exact new
  · rw [upd_ne hb] at q
    by_cases hbe : b = e
    · have q' : H b = some (.own x) := by
        rcases he with z | z
        · exact absurd (hbe.trans z) hb
        · rw [hbe]; exact z
      rw [q] at q'; cases q'
      obtain ⟨v, hv⟩ := heo
      exact ⟨v, by rw [hbe]; exact hv⟩
    · refine (ok b u q).stay (fun c v hc r => k c v ?_ r) (fun c r => by rw [upd_ne (nown c b r)]; exact r) fun c xs r => by rw [upd_ne (ntup c xs r)]; exact r
      rcases hc with rfl | hc
      · exact hbe
      · rintro rfl
        rcases he with z | z
        · exact nown c b hc z
        · rw [hc] at z; cases z; exact hb rfl
end

/-! ### kept unless tracked; of the frames at fs (the callers') the slots may change (an exception that passes writes there); of the records at ex (iterators) nothing is said -/
structure Un (fs ex : List Addr) (H H' : Hp) (h h' : Heap) : Prop where
  keep : ∀ b o, h.get? b = some o → H b = none → b ∉ fs → b ∉ ex → h'.get? b = some o
  slot : ∀ b o, h.get? b = some o → H b = none → b ∈ fs → b ∉ ex → ∃ sl, h'.get? b = some { o with slots := sl }
  free : ∀ b o, h.get? b = some o → H b = none → b ∉ ex → H' b = none
  there : ∀ b o, h.get? b = some o → b ∉ ex → ∃ o', h'.get? b = some o'
  tups : ∀ b xs, H b = some (.tup xs) → H' b = some (.tup xs)
  frzs : ∀ b o u, H b = some (.frz o u) → H' b = some (.frz o u)
  tbls : ∀ b ps, H b = some (.tbl ps) → ∃ more, H' b = some (.tbl (ps ++ more))
section
variable {fs fs' ex ex' : List Addr} {H H1 H2 : Hp} {h h1 h2 h' : Heap} {a x e : Addr} {o : HO}
theorem Un.any (u : Un fs ex H H1 h h1) {b : Addr} {ob : Obj} (q : h.get? b = some ob) (n : H b = none) (hx : b ∉ ex) : ∃ sl, h1.get? b = some { ob with slots := sl } := by
  by_cases hb : b ∈ fs
  · exact u.slot b ob q n hb hx
  · exact ⟨ob.slots, u.keep b ob q n hb hx⟩
theorem Un.trans (a : Un fs ex H H1 h h1) (b : Un fs ex H1 H2 h1 h2) : Un fs ex H H2 h h2 where
  keep := fun c ob q n hc hx => b.keep c ob (a.keep c ob q n hc hx) (a.free c ob q n hx) hc hx
  slot := fun c ob q n hc hx => by
    obtain ⟨sl, e1⟩ := a.slot c ob q n hc hx
    obtain ⟨sl', e2⟩ := b.slot c _ e1 (a.free c ob q n hx) hc hx
    exact ⟨sl', e2⟩
  free := fun c ob q n hx => by
    obtain ⟨o', e1⟩ := a.there c ob q hx
    exact b.free c o' e1 (a.free c ob q n hx) hx
  there := fun c ob q hx => by
    obtain ⟨o', e1⟩ := a.there c ob q hx
    exact b.there c o' e1 hx
  tups := fun c xs q => b.tups c xs (a.tups c xs q)
  frzs := fun c ob xs q => b.frzs c ob xs (a.frzs c ob xs q)
  tbls := fun c ps q => by
    obtain ⟨m1, e1⟩ := a.tbls c ps q
    obtain ⟨m2, e2⟩ := b.tbls c _ e1
    exact ⟨m1 ++ m2, by rw [e2, Array.append_assoc]⟩
theorem Un.kept (k : ∀ b u, h.get? b = some u → h'.get? b = some u) : Un fs ex H H h h' :=
  ⟨fun b ob q _ _ _ => k b ob q, fun b ob q _ _ _ => ⟨ob.slots, k b ob q⟩, fun _ _ _ n _ => n, fun b ob q _ => ⟨ob, k b ob q⟩, fun _ _ q => q, fun _ _ _ q => q, fun _ ps q => ⟨#[], by rw [q]; simp⟩⟩
theorem Un.refl : Un fs ex H H h h := Un.kept fun _ _ q => q
theorem Un.laid (k : ∀ b u, h.get? b = some u → h'.get? b = some u) (hp : h.objs.size ≤ a) (hn : H a = none) : Un fs ex H (upd H a o) h h' where
  keep := fun b u q _ _ _ => k b u q
  slot := fun b u q _ _ _ => ⟨u.slots, k b u q⟩
  free := fun b u q n _ => by rw [upd_ne (Nat.ne_of_lt (Nat.lt_of_lt_of_le (Heap.lt_size q) hp))]; exact n
  there := fun b u q _ => ⟨u, k b u q⟩
  tups := fun b xs q => by rw [upd_ne (ne_of_none q hn)]; exact q
  frzs := fun b u xs q => by rw [upd_ne (ne_of_none q hn)]; exact q
  tbls := fun b ps q => ⟨#[], by rw [upd_ne (ne_of_none q hn), q]; simp⟩
theorem Un.write (mu : Mut (H x)) (he : e = x ∨ H e = some (.own x)) (k : ∀ b u, b ≠ e → h.get? b = some u → h'.get? b = some u) (heo : ∃ u, h'.get? e = some u) : Un fs ex H (upd H x o) h h' := by
  have hx : ∀ b, H b = none → b ≠ x := fun b n z => by subst z; rw [n] at mu; exact mu
  have hb : ∀ b, H b = none → b ≠ e := fun b n z => by
    subst z
    rcases he with r | r
    · exact hx b n r
    · rw [n] at r; cases r
  have hm : ∀ b u, H b = some u → ¬ Mut (some u) → b ≠ x := fun b u q nm z => by subst z; rw [q] at mu; exact nm mu
  refine ⟨fun b u q n _ _ => k b u (hb b n) q, fun b u q n _ _ => ⟨u.slots, k b u (hb b n) q⟩, fun b u q n _ => by rw [upd_ne (hx b n)]; exact n, fun b u q _ => ?_,
    fun b xs q => by rw [upd_ne (hm b _ q fun z => z)]; exact q, fun b u xs q => by rw [upd_ne (hm b _ q fun z => z)]; exact q, fun b ps q => ⟨#[], by rw [upd_ne (hm b _ q fun z => z), q]; simp⟩⟩
  by_cases hbe : b = e
  · subst hbe; exact heo
  · exact ⟨u, k b u hbe q⟩
theorem Un.mono (u : Un fs ex H H1 h h1) (hs : ∀ b ∈ fs, b ∈ fs') (hx : ∀ b ∈ ex, b ∈ ex') : Un fs' ex' H H1 h h1 :=
  ⟨fun b ob q n hb he => u.keep b ob q n (fun z => hb (hs b z)) fun z => he (hx b z), fun _ _ q n _ he => u.any q n fun z => he (hx _ z), fun b ob q n he => u.free b ob q n fun z => he (hx b z), fun b ob q he => u.there b ob q fun z => he (hx b z), u.tups, u.frzs, u.tbls⟩
end

/-! ### the heap without what is tracked -/
def trk (h : Heap) (H : Hp) : List Addr := (List.range h.objs.size).filter fun a => (H a).isSome
def hidT (h : Heap) (H : Hp) : Heap := PySem.W.hideAll h (trk h H)
theorem hidT_size (h : Heap) (H : Hp) : (hidT h H).objs.size = h.objs.size := PySem.W.hideAll_size _ _
theorem hidT_get {h : Heap} {H : Hp} {b : Addr} {o : Obj} (e : h.get? b = some o) (n : H b = none) : (hidT h H).get? b = some o :=
  PySem.W.hideAll_get _ e fun hm => by
    have q : (H b).isSome = true := (List.mem_filter.mp hm).2
    rw [n] at q; simp at q
theorem of_hidT {h : Heap} {H : Hp} {b : Addr} {o : Obj} (e : (hidT h H).get? b = some o) : h.get? b = some o ∧ H b = none := by
  have e' : h.get? b = some o := PySem.W.of_hideAll (trk h H) e
  refine ⟨e', ?_⟩
  cases q : H b with
  | none => rfl
  | some x =>
    have hm : b ∈ trk h H := List.mem_filter.mpr ⟨List.mem_range.mpr (Heap.lt_size e'), by simp [q]⟩
    have z : (hidT h H).get? b = none := PySem.W.hideAll_none (trk h H) hm
    rw [z] at e; cases e

/-! ### OpenK's ledger, filled with every new object but one -/
def allNews (g h : Heap) (L : Addr) : List (Addr × Obj) := (List.range h.objs.size).filterMap fun a => if a = L ∨ (g.get? a).isSome = true then none else (h.get? a).map fun o => (a, o)
def rest (g h : Heap) (L d : Addr) : List (Addr × Obj) := (allNews g h L).filter fun p => decide (p.1 ≠ d)
end L2

namespace L2
open PySem PySem.Spec PyProof.Rows

/-- the module's facts, over the base: the heap at the law's entry without what is tracked there -/
structure Mod (K : PySem.W.Frag) (mg : Str → Option Value) (base : Heap) : Prop where
  kin : K.In base
  glob : base.Ns mainGlobals mg
  blt : ∃ mb, base.Ns builtinsNs mb ∧ ∀ x : Str, x ≠ "__name__" → mb x = bootBuiltins x
  nolimit : base.NoLimit

/- the context: a def's body (or a comprehension's block) running. base: fixed through the whole law; s₀, H₀: the entry; outer: the frames whose slots others may change (a def's callers); stack: all frames that run;
   ex: iterators that were made ahead of the entry and are walked here (a comprehension's); fn: the names whose cells were made at the entry (a def: all; a comprehension's block: its own); calm: not within an except suite; pn: pins that every state bears; xe: what is wanted of an exception that leaves the code -/
set_option genInjectivity false in
set_option genSizeOfSpec false in
set_option genSizeOf false in
structure Cx where
  prog : Program
  w : World
  K : PySem.W.Frag
  mg : Str → Option Value
  base : Heap
  A : Around
  N : List Str
  s₀ : Shared
  H₀ : Hp
  env : Env
  outer : List Env
  stack : List Env
  ex : List Addr
  fn : Str → Bool
  calm : Bool
  pn : List (Addr × Obj)
  xe : Value → Shared → Prop
/-- the callers' frames -/
def frs (l : List Env) : List Addr := l.filterMap (·.frame)
abbrev Cx.fs (X : Cx) : List Addr := frs X.outer

def Vis (sc : Scope) (x : Str) : Prop := sc.names.lookup x = some .local ∨ sc.names.lookup x = some .cell ∨ sc.names.lookup x = some .free
def Loc (sc : Scope) (x : Str) : Prop := sc.names.lookup x = some .local ∨ sc.names.lookup x = some .cell
def Look (env : Env) (h : Heap) (m : Str → Option Value) (x : Str) (u : Value) : Prop :=
  (env.kindOf x = some .local ∧ m x = some u) ∨ ((env.kindOf x = some .cell ∨ env.kindOf x = some .free) ∧ ∃ c, env.cells.lookup x = some c ∧ h.IsCell c (some u))

structure Cx.Ok (X : Cx) : Prop where
  mod : Mod X.K X.mg X.base
  kind : X.env.scope.kind = .function
  glob : X.env.globals = mainGlobals
  blt : X.env.builtins = builtinsNs
  above : X.s₀.heap.objs.size ≤ X.env.locals
  inj : ∀ x y c, X.env.cells.lookup x = some c → X.env.cells.lookup y = some c → x = y
  has : ∀ x, (X.env.kindOf x = some .cell ∨ X.env.kindOf x = some .free) → ∃ c, X.env.cells.lookup x = some c
  cab : ∀ x c, X.fn x = true → X.env.cells.lookup x = some c → X.s₀.heap.objs.size ≤ c
  hd : X.calm = true → X.A.handled = none
  frames : X.A.frames = some X.stack
  stk : X.stack = X.outer ∨ (X.stack = X.env :: X.outer ∧ X.env.frame = some X.env.locals)
  exf : ∀ b ∈ X.ex, b ≠ X.env.locals ∧ ∀ x c, X.env.cells.lookup x = some c → c ≠ b
  bs : ∀ b o, X.base.get? b = some o → X.s₀.heap.get? b = some o ∧ X.H₀ b = none
  bsz : X.base.objs.size ≤ X.s₀.heap.objs.size
  noex : ∀ b o, X.base.get? b = some o → b ∉ X.ex
  exfs : ∀ b ∈ X.ex, b ∉ X.fs
  funs : X.s₀.heap.FunFrames X.base X.outer
  frf : ∀ b ∈ X.fs, X.H₀ b = none

structure Inv (X : Cx) (pins : List (Addr × Obj)) (σ : List (Option V)) (H : Hp) (s : Shared) : Prop where
  ok : X.Ok
  os : s.os = X.s₀.os
  bare : AllBare s.gens
  base : Un X.fs X.ex X.H₀ H X.s₀.heap s.heap
  loc : ∃ m, s.heap.Ns X.env.locals m ∧ ∀ (i : Nat) (x : Str) (v : V), X.N[i]? = some x → σ[i]? = some (some v) → Vis X.env.scope x → ∃ u, RelV v u ∧ Look X.env s.heap m x u
  cell : ∀ x c, X.env.cells.lookup x = some c → ∃ v, s.heap.IsCell c v
  free : H X.env.locals = none
  freeC : ∀ x c, X.env.cells.lookup x = some c → H c = none
  pin : ∀ p ∈ X.pn ++ pins, s.heap.get? p.1 = some p.2 ∧ H p.1 = none ∧ p.1 ≠ X.env.locals ∧ p.1 ∉ X.fs ∧ ∀ v, p.2.data ≠ .cell v
  hok : HOk X.prog X.w H s.heap
  len : σ.length = X.N.length

section
variable {X : Cx} {pins : List (Addr × Obj)} {σ : List (Option V)} {H H' : Hp} {s : Shared} {h' : Heap}

theorem Cx.Ok.nofr (ok : X.Ok) {b : Addr} {o : Obj} (e : X.base.get? b = some o) : b ∉ X.fs := fun hb => by
  have := (ok.funs.mem hb).1
  rw [e] at this; cases this
theorem Inv.bs (I : Inv X pins σ H s) : ∀ b o, X.base.get? b = some o → s.heap.get? b = some o ∧ H b = none := fun b o e =>
  ⟨I.base.keep b o (I.ok.bs b o e).1 (I.ok.bs b o e).2 (I.ok.nofr e) (I.ok.noex b o e), I.base.free b o (I.ok.bs b o e).1 (I.ok.bs b o e).2 (I.ok.noex b o e)⟩
theorem Inv.bk (I : Inv X pins σ H s) : ∀ b o, X.base.get? b = some o → s.heap.get? b = some o := fun b o e => (I.bs b o e).1
theorem Inv.mod (I : Inv X pins σ H s) : Mod X.K X.mg X.base := I.ok.mod
theorem Inv.kIn (I : Inv X pins σ H s) : X.K.In s.heap := I.ok.mod.kin.keeps I.bk
theorem Inv.nolimit (I : Inv X pins σ H s) : s.heap.NoLimit := I.ok.mod.nolimit.keeps I.bk
theorem Inv.lt (I : Inv X pins σ H s) : X.env.locals < s.heap.objs.size := let ⟨_, hn, _⟩ := I.loc; hn.lt
theorem Inv.sz (I : Inv X pins σ H s) : X.s₀.heap.objs.size ≤ s.heap.objs.size := Nat.le_trans I.ok.above (Nat.le_of_lt I.lt)
theorem Inv.nofs (I : Inv X pins σ H s) {a : Addr} (h : s.heap.objs.size ≤ a) : a ∉ X.fs := fun hb => by
  obtain ⟨_, o, ho, _⟩ := I.ok.funs.mem hb
  exact absurd (Nat.lt_of_lt_of_le (Heap.lt_size ho) (Nat.le_trans I.sz h)) (Nat.lt_irrefl _)
theorem Inv.cne (I : Inv X pins σ H s) : ∀ x c, X.env.cells.lookup x = some c → c ≠ X.env.locals := fun x c e z => by
  obtain ⟨v, o, ho, hd⟩ := I.cell x c e
  obtain ⟨m, ⟨o', es, ep, ho', hd', _⟩, _⟩ := I.loc
  rw [z, ho'] at ho; cases ho; rw [hd'] at hd; cases hd
theorem Inv.funs (I : Inv X pins σ H s) : s.heap.FunFrames X.base X.outer := by
  have all : ∀ (l : List Env), (∀ b ∈ frs l, b ∈ X.fs) → X.s₀.heap.FunFrames X.base l → s.heap.FunFrames X.base l := by
    intro l
    induction l with
    | nil => intro _ _; trivial
    | cons env r ih =>
      intro hs hl
      obtain ⟨hk, ⟨L, o, hf, hn, ho, hd⟩, hr⟩ := hl
      have hL : L ∈ X.fs := hs L (by unfold frs; rw [List.filterMap_cons, hf]; exact List.mem_cons_self)
      obtain ⟨sl, e⟩ := I.base.slot L o ho (I.ok.frf L hL) hL fun z => I.ok.exfs L z hL
      exact ⟨hk, ⟨L, _, hf, hn, e, hd⟩, ih (fun b hb => hs b (by unfold frs; rw [List.filterMap_cons, hf]; exact List.mem_cons_of_mem _ hb)) hr⟩
  exact all X.outer (fun _ hb => hb) I.ok.funs

/-- the frames that run, for a call -/
theorem Inv.stack (I : Inv X pins σ H s) : s.heap.FunFrames X.base X.stack := by
  rcases I.ok.stk with e | ⟨e, hf⟩
  · rw [e]; exact I.funs
  · rw [e]
    obtain ⟨m, hn, _⟩ := I.loc
    refine .cons (by rw [I.ok.kind]; decide) hf hn ?_ I.funs
    exact Heap.get?_none_of_le (Nat.le_trans I.ok.bsz I.ok.above)
theorem Inv.stkSub (I : Inv X pins σ H s) : ∀ b ∈ frs X.stack, b ∈ X.env.locals :: X.fs := fun b hb => by
  rcases I.ok.stk with e | ⟨e, hf⟩
  · rw [e] at hb; exact List.mem_cons_of_mem _ hb
  · rw [e] at hb
    unfold frs at hb
    rw [List.filterMap_cons, hf] at hb
    exact hb
theorem Inv.stkFree (I : Inv X pins σ H s) : ∀ b ∈ frs X.stack, H b = none := fun b hb => by
  rcases List.mem_cons.mp (I.stkSub b hb) with e | hb
  · rw [e]; exact I.free
  · obtain ⟨_, o, ho, _⟩ := I.ok.funs.mem hb
    exact I.base.free b o ho (I.ok.frf b hb) fun z => I.ok.exfs b z hb

/-- THE STEP: the untracked objects but the frame and the records at ch are kept (the callers' frames up to slots), the frame's map is kept, the new abstract heap is held -/
theorem Inv.step {g' : Array GenState} {t' : Nat} {d' : Drawn} {ch : List Addr} (I : Inv X pins σ H s)
    (hch : ∀ b ∈ ch, (b ∈ X.ex ∨ X.s₀.heap.objs.size ≤ b) ∧ b ≠ X.env.locals ∧ (∀ x c, X.env.cells.lookup x = some c → c ≠ b) ∧ ∀ p ∈ X.pn ++ pins, p.1 ≠ b)
    (keep : ∀ b o, b ≠ X.env.locals → b ∉ X.fs → b ∉ ch → s.heap.get? b = some o → H b = none → h'.get? b = some o)
    (slot : ∀ b o, b ≠ X.env.locals → b ∈ X.fs → b ∉ ch → s.heap.get? b = some o → H b = none → ∃ sl, h'.get? b = some { o with slots := sl }) (free : ∀ b o, b ∉ ch → s.heap.get? b = some o → H b = none → H' b = none)
    (there : ∀ b o, b ∉ ch → s.heap.get? b = some o → ∃ o', h'.get? b = some o')
    (tups : ∀ b xs, H b = some (.tup xs) → H' b = some (.tup xs)) (frzs : ∀ b o u, H b = some (.frz o u) → H' b = some (.frz o u)) (tbls : ∀ b ps, H b = some (.tbl ps) → ∃ more, H' b = some (.tbl (ps ++ more)))
    (ns : ∀ m, s.heap.Ns X.env.locals m → h'.Ns X.env.locals m) (hok : HOk X.prog X.w H' h') (hg : AllBare g') :
    Inv X pins σ H' { s with heap := h', gens := g', drawn := d', toks := t' } := by
  have neL : ∀ b o, X.s₀.heap.get? b = some o → b ≠ X.env.locals := fun b o e => Nat.ne_of_lt (Nat.lt_of_lt_of_le (Heap.lt_size e) I.ok.above)
  have neC : ∀ b o, X.s₀.heap.get? b = some o → b ∉ X.ex → b ∉ ch := fun b o e hx hb => by
    rcases (hch b hb).1 with z | z
    · exact hx z
    · exact absurd (Nat.lt_of_lt_of_le (Heap.lt_size e) z) (Nat.lt_irrefl _)
  have cellK : ∀ x c, X.env.cells.lookup x = some c → ∀ v, s.heap.IsCell c v → h'.IsCell c v := fun x c e v ⟨o, ho, hd⟩ => by
    have nch : c ∉ ch := fun z => (hch c z).2.2.1 x c e rfl
    by_cases hc : c ∈ X.fs
    · obtain ⟨sl, q⟩ := slot c o (I.cne x c e) hc nch ho (I.freeC x c e)
      exact ⟨_, q, hd⟩
    · exact ⟨o, keep c o (I.cne x c e) hc nch ho (I.freeC x c e), hd⟩
  refine ⟨I.ok, I.os, hg, ⟨fun b o e n hb hx => ?_, fun b o e n hb hx => ?_, fun b o e n hx => ?_, fun b o e hx => ?_, fun b xs e => tups b xs (I.base.tups b xs e), fun b o xs e => frzs b o xs (I.base.frzs b o xs e), fun b ps e => ?_⟩, ?_, fun x c e => ?_, ?_, fun x c e => ?_, fun p hp => ?_, hok, I.len⟩
  · exact keep b o (neL b o e) hb (neC b o e hx) (I.base.keep b o e n hb hx) (I.base.free b o e n hx)
  · obtain ⟨sl, e1⟩ := I.base.slot b o e n hb hx
    obtain ⟨sl', e2⟩ := slot b _ (neL b o e) hb (neC b o e hx) e1 (I.base.free b o e n hx)
    exact ⟨sl', e2⟩
  · obtain ⟨o', e1⟩ := I.base.there b o e hx
    exact free b o' (neC b o e hx) e1 (I.base.free b o e n hx)
  · obtain ⟨o', e1⟩ := I.base.there b o e hx
    exact there b o' (neC b o e hx) e1
  · obtain ⟨m1, e1⟩ := I.base.tbls b ps e
    obtain ⟨m2, e2⟩ := tbls b _ e1
    exact ⟨m1 ++ m2, by rw [e2, Array.append_assoc]⟩
  · obtain ⟨m, hn, hl⟩ := I.loc
    refine ⟨m, ns m hn, fun i x v e1 e2 e3 => ?_⟩
    obtain ⟨u, r, l⟩ := hl i x v e1 e2 e3
    refine ⟨u, r, ?_⟩
    rcases l with l | ⟨k, c, e, z⟩
    · exact .inl l
    · exact .inr ⟨k, c, e, cellK x c e _ z⟩
  · obtain ⟨v, z⟩ := I.cell x c e
    exact ⟨v, cellK x c e v z⟩
  · obtain ⟨m, ⟨o, _, _, ho, _⟩, _⟩ := I.loc
    exact free _ o (fun z => (hch _ z).2.1 rfl) ho I.free
  · obtain ⟨v, o, ho, hd⟩ := I.cell x c e
    exact free c o (fun z => (hch c z).2.2.1 x c e rfl) ho (I.freeC x c e)
  · obtain ⟨e, n, ne, nf, d⟩ := I.pin p hp
    have nch : p.1 ∉ ch := fun z => (hch p.1 z).2.2.2 p hp rfl
    exact ⟨keep p.1 p.2 ne nf nch e n, free p.1 p.2 nch e n, ne, nf, d⟩
/-- .. where the frame's own object is kept too -/
theorem Inv.un {t' : Nat} (I : Inv X pins σ H s) (u : Un X.fs [] H H' s.heap h') (hok : HOk X.prog X.w H' h') : Inv X pins σ H' { s with heap := h', toks := t' } := by
  obtain ⟨m, ⟨o, es, ep, ho, r⟩, _⟩ := id I.loc
  obtain ⟨sl, hL⟩ := u.any ho I.free (by simp)
  exact I.step (g' := s.gens) (d' := s.drawn) (ch := []) (fun _ z => nomatch z) (fun b o _ hb _ e n => u.keep b o e n hb (by simp)) (fun b o _ hb _ e n => u.slot b o e n hb (by simp)) (fun b o _ e n => u.free b o e n (by simp)) (fun b o _ e => u.there b o e (by simp)) u.tups u.frzs u.tbls (fun m' hm => by
    obtain ⟨o', es', ep', ho', r'⟩ := hm
    rw [ho] at ho'; cases ho'
    exact ⟨_, es', ep', hL, r'⟩) hok I.bare
/-- behind a call (or a comprehension's block): the slots of this frame may have changed too, the records at ch may have turned -/
theorem Inv.call {g' : Array GenState} {t' : Nat} {d' : Drawn} {ch : List Addr} (I : Inv X pins σ H s) (u : Un (frs X.stack) ch H H' s.heap h') (hok : HOk X.prog X.w H' h') (hg : AllBare g')
    (hch : ∀ b ∈ ch, (b ∈ X.ex ∨ X.s₀.heap.objs.size ≤ b) ∧ b ≠ X.env.locals ∧ (∀ x c, X.env.cells.lookup x = some c → c ≠ b) ∧ ∀ p ∈ X.pn ++ pins, p.1 ≠ b) :
    Inv X pins σ H' { s with heap := h', gens := g', drawn := d', toks := t' } := by
  obtain ⟨m, ⟨o, es, ep, ho, r⟩, _⟩ := id I.loc
  obtain ⟨sl, hL⟩ := u.any ho I.free fun z => (hch _ z).2.1 rfl
  exact I.step (ch := ch) hch (fun b o hL hb hc e n => u.keep b o e n (fun z => (List.mem_cons.mp (I.stkSub b z)).elim hL hb) hc) (fun b o _ _ hc e n => u.any e n hc) (fun b o hc e n => u.free b o e n hc) (fun b o hc e => u.there b o e hc) u.tups u.frzs u.tbls (fun m' hm => by
    obtain ⟨o', es', ep', ho', r'⟩ := hm
    rw [ho] at ho'; cases ho'
    exact ⟨_, es', ep', hL, r'⟩) hok hg
/-- an untracked record of ours (an iterator) has turned -/
theorem Inv.turned {t' : Nat} {it : Addr} (I : Inv X pins σ H s) (k : ∀ b o, b ≠ it → s.heap.get? b = some o → h'.get? b = some o) (hn : H it = none) (hL : it ≠ X.env.locals)
    (h1 : it ∈ X.ex ∨ X.s₀.heap.objs.size ≤ it) (h2 : ∀ x c, X.env.cells.lookup x = some c → c ≠ it) (h3 : ∀ p ∈ X.pn ++ pins, p.1 ≠ it) : Inv X pins σ H { s with heap := h', toks := t' } := by
  have nit : ∀ b u, H b = some u → b ≠ it := fun b u e z => by rw [z, hn] at e; cases e
  refine I.step (g' := s.gens) (d' := s.drawn) (ch := [it]) (fun b hb => ?_) (fun b o _ _ hc e _ => k b o (fun z => hc (by simp [z])) e) (fun b o _ _ hc e _ => ⟨o.slots, k b o (fun z => hc (by simp [z])) e⟩) (fun _ _ _ _ n => n)
    (fun b o hc e => ⟨o, k b o (fun z => hc (by simp [z])) e⟩) (fun _ _ e => e) (fun _ _ _ e => e) (fun b ps e => ⟨#[], by rw [e]; simp⟩) (fun m hm => ?_) (fun b u e => ?_) I.bare
  · have e : b = it := by simpa using hb
    subst e
    exact ⟨h1, hL, h2, h3⟩
  · obtain ⟨o, es, ep, ho, r⟩ := hm
    exact ⟨o, es, ep, k _ o (Ne.symm hL) ho, r⟩
  · refine (I.hok b u e).stay (fun c v hc q => k c v ?_ q) (fun _ q => q) fun _ _ q => q
    rcases hc with z | z
    · rw [z]; exact nit b u e
    · exact nit c _ z
theorem Inv.tok (I : Inv X pins σ H s) (t : Nat) : Inv X pins σ H { s with toks := t } := I.un (h' := s.heap) (t' := t) Un.refl I.hok
/-- all objects kept -/
theorem Inv.kept {t' : Nat} (I : Inv X pins σ H s) (k : ∀ b u, s.heap.get? b = some u → h'.get? b = some u) : Inv X pins σ H { s with heap := h', toks := t' } := I.un (Un.kept k) (I.hok.kept k)
/-- a new object laid and tracked -/
theorem Inv.laid {a : Addr} {o : HO} {t' : Nat} (I : Inv X pins σ H s) (k : ∀ b u, s.heap.get? b = some u → h'.get? b = some u) (hp : s.heap.objs.size ≤ a) (new : ObjOk X.prog X.w (upd H a o) h' a o) :
    Inv X pins σ (upd H a o) { s with heap := h', toks := t' } := I.un (Un.laid k hp (I.hok.fresh hp)) (I.hok.laid k hp new)
/-- an object written -/
theorem Inv.write {x e : Addr} {o : HO} {t' : Nat} (I : Inv X pins σ H s) (mu : Mut (H x)) (he : e = x ∨ H e = some (.own x)) (k : ∀ b u, b ≠ e → s.heap.get? b = some u → h'.get? b = some u) (heo : ∃ u, h'.get? e = some u)
    (new : ObjOk X.prog X.w (upd H x o) h' x o) : Inv X pins σ (upd H x o) { s with heap := h', toks := t' } := I.un (Un.write mu he k heo) (I.hok.write mu he k heo new)
theorem Inv.pins_of {pins' : List (Addr × Obj)} (I : Inv X pins σ H s) (h : ∀ p ∈ pins', s.heap.get? p.1 = some p.2 ∧ H p.1 = none ∧ p.1 ≠ X.env.locals ∧ p.1 ∉ X.fs ∧ ∀ v, p.2.data ≠ .cell v) : Inv X pins' σ H s :=
  ⟨I.ok, I.os, I.bare, I.base, I.loc, I.cell, I.free, I.freeC, fun p hp => (List.mem_append.mp hp).elim (fun z => I.pin p (List.mem_append_left _ z)) (h p), I.hok, I.len⟩

theorem nodup_ix {N : List Str} (hN : N.Nodup) {i j : Nat} {x : Str} (a : N[i]? = some x) (b : N[j]? = some x) : i = j := by
  obtain ⟨h1, e1⟩ := List.getElem?_eq_some_iff.mp a
  obtain ⟨h2, e2⟩ := List.getElem?_eq_some_iff.mp b
  exact (List.getElem_inj hN).mp (e1.trans e2.symm)

/-- a name is stored; what changed -/
theorem store_ok2 {M : Model} {A : Around} {E : Value → Shared → Prop} {i : Nat} {x : Str} {v : V} {u : Value} {Q : Unit → Shared → Prop} (I : Inv X pins σ H s) (hN : X.N.Nodup) (hi : X.N[i]? = some x) (hx : Loc X.env.scope x) (r : RelV v u)
    (h : ∀ s', Inv X pins (σ.set i (some v)) H s' → (∃ a, Heap.SameBut a s.heap s'.heap ∧ (a = X.env.locals ∨ X.env.cells.lookup x = some a)) → Q () s') (hf : X.fn x = true ∨ X.env.scope.names.lookup x = some .local := by first | exact .inl rfl | exact .inr rfl | assumption) : wpAny M A (storeName X.env x u) Q E s := by
  obtain ⟨m, hn, hl⟩ := id I.loc
  have hcls : (X.env.scope.kind == .class || (X.env.scope.kind == .module && X.env.locals != X.env.globals)) = false := by rw [I.ok.kind]; rfl
  have hiσ : i < σ.length := by rw [I.len]; exact (List.getElem?_eq_some_iff.mp hi).1
  have cne := I.cne
  have tracked : ∀ {a : Addr} {h' : Heap}, (∃ o, s.heap.get? a = some o ∧ H a = none) → Heap.SameBut a s.heap h' → HOk X.prog X.w H h' := fun {a h'} ha hs b ob e => by
    obtain ⟨_, _, hfree⟩ := ha
    refine (I.hok b ob e).stay (fun c w' hc q => (hs.2 c ?_).trans q) (fun _ q => q) fun _ _ q => q
    rintro rfl
    rcases hc with rfl | hc
    · rw [hfree] at e; cases e
    · rw [hfree] at hc; cases hc
  rcases hx with hk | hk
  · refine wpAny_storeName_local hk hn (fun h' hn' hs => ?_) hcls
    obtain ⟨oL, _, _, hoL, _⟩ := id hn
    refine h _ ⟨I.ok, I.os, I.bare, ⟨fun b o e n hb hx => ?_, fun b o e n hb hx => ?_, I.base.free, fun b o e hx => ?_, I.base.tups, I.base.frzs, I.base.tbls⟩, ⟨_, hn', fun j y v' e1 e2 e3 => ?_⟩, fun y c e => ?_, I.free, I.freeC, fun p hp => ?_, tracked ⟨oL, hoL, I.free⟩ hs, by simpa using I.len⟩ ⟨_, hs, .inl rfl⟩
    · exact (hs.2 b (Nat.ne_of_lt (Nat.lt_of_lt_of_le (Heap.lt_size e) I.ok.above))).trans (I.base.keep b o e n hb hx)
    · obtain ⟨sl, e1⟩ := I.base.slot b o e n hb hx
      exact ⟨sl, (hs.2 b (Nat.ne_of_lt (Nat.lt_of_lt_of_le (Heap.lt_size e) I.ok.above))).trans e1⟩
    · obtain ⟨o', e1⟩ := I.base.there b o e hx
      exact ⟨o', (hs.2 b (Nat.ne_of_lt (Nat.lt_of_lt_of_le (Heap.lt_size e) I.ok.above))).trans e1⟩
    · by_cases hj : j = i
      · subst hj
        rw [hi] at e1; cases e1
        rw [List.getElem?_set_self hiσ] at e2
        cases e2
        exact ⟨u, r, .inl ⟨hk, by simp⟩⟩
      · rw [List.getElem?_set_ne (Ne.symm hj)] at e2
        obtain ⟨u', r', q⟩ := hl j y v' e1 e2 e3
        refine ⟨u', r', ?_⟩
        rcases q with ⟨k, e⟩ | ⟨k, c, e, z⟩
        · refine .inl ⟨k, ?_⟩
          have : y ≠ x := fun e => hj (nodup_ix hN e1 (e ▸ hi))
          simp [this, e]
        · exact .inr ⟨k, c, e, z.sameBut hs (cne y c e)⟩
    · obtain ⟨w', z⟩ := I.cell y c e
      exact ⟨w', z.sameBut hs (cne y c e)⟩
    · obtain ⟨e, n, ne, nf, d⟩ := I.pin p hp
      exact ⟨(hs.2 p.1 ne).trans e, n, ne, nf, d⟩
  · have hfn : X.fn x = true := by
      rcases hf with z | z
      · exact z
      · rw [z] at hk; cases hk
    obtain ⟨c, hc⟩ := I.ok.has x (.inl hk)
    obtain ⟨w', z⟩ := I.cell x c hc
    refine wpAny_storeName_cell I.ok.kind hk hc z (fun h' hc' hs => ?_)
    obtain ⟨oc, hoc, hocd⟩ := id z
    refine h { s with heap := h' } ⟨I.ok, I.os, I.bare, ⟨fun b o e n hb hx => ?_, fun b o e n hb hx => ?_, I.base.free, fun b o e hx => ?_, I.base.tups, I.base.frzs, I.base.tbls⟩, ⟨m, hn.sameBut hs (Ne.symm (cne x c hc)), fun j y v' e1 e2 e3 => ?_⟩, fun y c' e => ?_, I.free, I.freeC, fun p hp => ?_, tracked ⟨oc, hoc, I.freeC x c hc⟩ hs, by simpa using I.len⟩ ⟨c, hs, .inr hc⟩
    · exact (hs.2 b (Nat.ne_of_lt (Nat.lt_of_lt_of_le (Heap.lt_size e) (I.ok.cab x c hfn hc)))).trans (I.base.keep b o e n hb hx)
    · obtain ⟨sl, e1⟩ := I.base.slot b o e n hb hx
      exact ⟨sl, (hs.2 b (Nat.ne_of_lt (Nat.lt_of_lt_of_le (Heap.lt_size e) (I.ok.cab x c hfn hc)))).trans e1⟩
    · obtain ⟨o', e1⟩ := I.base.there b o e hx
      exact ⟨o', (hs.2 b (Nat.ne_of_lt (Nat.lt_of_lt_of_le (Heap.lt_size e) (I.ok.cab x c hfn hc)))).trans e1⟩
    · by_cases hj : j = i
      · subst hj
        rw [hi] at e1; cases e1
        rw [List.getElem?_set_self hiσ] at e2
        cases e2
        exact ⟨u, r, .inr ⟨.inl hk, c, hc, hc'⟩⟩
      · rw [List.getElem?_set_ne (Ne.symm hj)] at e2
        obtain ⟨u', r', q⟩ := hl j y v' e1 e2 e3
        refine ⟨u', r', ?_⟩
        rcases q with q | ⟨k, c', e, z'⟩
        · exact .inl q
        · refine .inr ⟨k, c', e, z'.sameBut hs ?_⟩
          rintro rfl
          exact hj (nodup_ix hN e1 (I.ok.inj _ _ _ e hc ▸ hi))
    · by_cases hcc : c' = c
      · subst hcc; exact ⟨_, hc'⟩
      · obtain ⟨w2, z2⟩ := I.cell y c' e
        exact ⟨w2, z2.sameBut hs hcc⟩
    · obtain ⟨e, n, ne, nf, d⟩ := I.pin p hp
      refine ⟨(hs.2 p.1 ?_).trans e, n, ne, nf, d⟩
      intro q
      rw [q, hoc] at e
      have q' : oc = p.2 := Option.some.inj e
      exact d w' (by rw [← q']; exact hocd)
theorem store_ok {M : Model} {A : Around} {E : Value → Shared → Prop} {i : Nat} {x : Str} {v : V} {u : Value} {Q : Unit → Shared → Prop} (I : Inv X pins σ H s) (hN : X.N.Nodup) (hi : X.N[i]? = some x) (hx : Loc X.env.scope x) (r : RelV v u)
    (h : ∀ s', Inv X pins (σ.set i (some v)) H s' → Q () s') (hf : X.fn x = true ∨ X.env.scope.names.lookup x = some .local := by first | exact .inl rfl | exact .inr rfl | assumption) : wpAny M A (storeName X.env x u) Q E s :=
  store_ok2 I hN hi hx r (fun s' I' _ => h s' I') hf
/-- behind a call or a block, the state as it is -/
theorem Inv.call' {s' : Shared} {ch : List Addr} (I : Inv X pins σ H s) (ho : s'.os = s.os) (u : Un (frs X.stack) ch H H' s.heap s'.heap) (hok : HOk X.prog X.w H' s'.heap) (hg : AllBare s'.gens)
    (hch : ∀ b ∈ ch, (b ∈ X.ex ∨ X.s₀.heap.objs.size ≤ b) ∧ b ≠ X.env.locals ∧ (∀ x c, X.env.cells.lookup x = some c → c ≠ b) ∧ ∀ p ∈ X.pn ++ pins, p.1 ≠ b) : Inv X pins σ H' s' := by
  obtain ⟨h', g', d', t', o'⟩ := s'
  have e : o' = s.os := ho
  subst e
  exact I.call (g' := g') (t' := t') (d' := d') u hok hg hch
end

/-! ### the judgements -/
/-- an exception: its class, its own dict's address (where it has one), the abstract heap behind it -/
abbrev XK := Value → Option Addr → Hp → Prop
abbrev St := List (Option V)
abbrev VK := V → Hp → Prop
/-- an expression's reading; a test's; an argument list's -/
abbrev TE := St → Hp → VK → Prop
abbrev TT := St → Hp → (Bool → Hp → Prop) → Prop
abbrev TA := St → Hp → (List V → Hp → Prop) → Prop
/- what is wanted behind a statement -/
set_option genInjectivity false in
set_option genSizeOfSpec false in
set_option genSizeOf false in
structure Ends where
  nx : St → Hp → Prop
  rt : VK
  bk : St → Hp → Prop := fun _ _ => False
  ct : St → Hp → Prop := fun _ _ => False
abbrev TS := Ends → St → Hp → Prop

def EP (X : Cx) (pins : List (Addr × Obj)) (σ : St) (Q : VK) (u : Value) (s' : Shared) : Prop := ∃ v H', Inv X pins σ H' s' ∧ RelV v u ∧ Q v H'
def TP (X : Cx) (pins : List (Addr × Obj)) (σ : St) (Q : Bool → Hp → Prop) (b : Bool) (s' : Shared) : Prop := ∃ H', Inv X pins σ H' s' ∧ Q b H'
def AP (X : Cx) (pins : List (Addr × Obj)) (σ : St) (Q : List V → Hp → Prop) (us : List Value) (s' : Shared) : Prop := ∃ vs H', Inv X pins σ H' s' ∧ Vals vs us ∧ Q vs H'
def SP (X : Cx) (pins : List (Addr × Obj)) (D : Ends) (f : Flow) (s' : Shared) : Prop :=
  match f with
  | .next => ∃ σ' H', Inv X pins σ' H' s' ∧ D.nx σ' H'
  | .brk => ∃ σ' H', Inv X pins σ' H' s' ∧ D.bk σ' H'
  | .cont => ∃ σ' H', Inv X pins σ' H' s' ∧ D.ct σ' H'
  | .ret u => ∃ v σ' H', Inv X pins σ' H' s' ∧ RelV v u ∧ D.rt v H'

@[irreducible] def PE (X : Cx) (e : Expr) (t : TE) : Prop :=
  ∀ (pins : List (Addr × Obj)) (s : Shared) (σ : St) (H : Hp) (Q : VK), Inv X pins σ H s → t σ H Q → wpAny (model X.prog X.w) X.A (eval e X.env) (EP X pins σ Q) X.xe s
@[irreducible] def PT (X : Cx) (e : Expr) (t : TT) : Prop :=
  ∀ (pins : List (Addr × Obj)) (s : Shared) (σ : St) (H : Hp) (Q : Bool → Hp → Prop), Inv X pins σ H s → t σ H Q → wpAny (model X.prog X.w) X.A (isTrue e X.env (eval e X.env)) (TP X pins σ Q) X.xe s
/-- a test whatever its 'whole' is (and, or) -/
@[irreducible] def PW (X : Cx) (e : Expr) (t : TT) : Prop :=
  ∀ (whole : Sem Value) (pins : List (Addr × Obj)) (s : Shared) (σ : St) (H : Hp) (Q : Bool → Hp → Prop), Inv X pins σ H s → t σ H Q → wpAny (model X.prog X.w) X.A (isTrue e X.env whole) (TP X pins σ Q) X.xe s
theorem PW.pt {X : Cx} {e : Expr} {t : TT} (h : PW X e t) : PT X e t := by
  first
  | exact (h _)
  | (unfold PT at *; unfold PW at *; exact (h _))

/-- an argument list (no star), from the left -/
@[irreducible] def PA (X : Cx) (es : List Expr) (t : TA) : Prop :=
  ∀ (pos : Pos) (pins : List (Addr × Obj)) (s : Shared) (σ : St) (H : Hp) (Q : List V → Hp → Prop), Inv X pins σ H s → t σ H Q → wpAny (model X.prog X.w) X.A (spliced (backTo pos (starEach es X.env))) (AP X pins σ Q) X.xe s
@[irreducible] def PS (X : Cx) (st : Stmt) (t : TS) : Prop :=
  ∀ (pins : List (Addr × Obj)) (s : Shared) (σ : St) (H : Hp) (D : Ends), Inv X pins σ H s → t D σ H → wpAny (model X.prog X.w) X.A (exec st X.env) (SP X pins D) X.xe s
@[irreducible] def PSs (X : Cx) (st : List Stmt) (t : TS) : Prop :=
  ∀ (pins : List (Addr × Obj)) (s : Shared) (σ : St) (H : Hp) (D : Ends), Inv X pins σ H s → t D σ H → wpAny (model X.prog X.w) X.A (execs st X.env) (SP X pins D) X.xe s
/-- weaken the end -/
theorem thn {α : Type} {t : Sem α} {Q Q' : α → Shared → Prop} {M : Model} {A : Around} {E : Value → Shared → Prop} {s : Shared} (h : wpAny M A t Q E s) (hQ : ∀ a s, Q a s → Q' a s) : wpAny M A t Q' E s := wpAny_mono h hQ fun _ _ x => x
end L2

namespace L2
open PySem PySem.Spec PyProof.Rows
section
variable {X : Cx}

/-! ### names and constants -/
def tVar (i : Nat) : TE := fun σ H Q => ∃ v, σ[i]? = some (some v) ∧ Q v H
def tC (v : V) : TE := fun _ H Q => Q v H
theorem pe_var {i : Nat} {x : Str} {pos : Pos} (hN : X.N[i]? = some x) (hv : Vis X.env.scope x) (hd : (x == ("__debug__" : Str)) = false := by decide) (hcd : (x == ("__classdict__" : Str)) = false := by decide) : PE X (.Name x pos) (tVar i) := by
  unfold PE at *
  exact by
    intro pins s σ H Q I h
    obtain ⟨v, e, h⟩ := h
    obtain ⟨m, hn, hl⟩ := I.loc
    obtain ⟨u, r, l⟩ := hl i x v hN e hv
    have fin : EP X pins σ Q u s := ⟨v, H, I, r, h⟩
    rcases l with ⟨hk, hm⟩ | ⟨hk, c, hc, hcell⟩
    · exact wpAny_Name (wpAny_loadName_local I.ok.kind hk hn hm fin) hd
    · rcases hk with hk | hk
      · exact wpAny_Name (wpAny_loadName_cell I.ok.kind hk hc hcell fin) hd
      · exact wpAny_Name (wpAny_loadName_free I.ok.kind hk hc hcell fin hcd) hd

theorem pe_int {i j pos} : PE X (.Constant (.int i) j pos) (tC (.int i)) := by
  first
  | exact (fun _ _ _ H _ I h => wpAny_Constant_int ⟨.int i, H, I.tok _, ⟨_, rfl⟩, h⟩)
  | (unfold PE at *; exact (fun _ _ _ H _ I h => wpAny_Constant_int ⟨.int i, H, I.tok _, ⟨_, rfl⟩, h⟩))

theorem pe_bl {b j pos} : PE X (.Constant (.bool b) j pos) (tC (.bl b)) := by
  first
  | exact (fun _ _ _ H _ I h => Constant_bool ⟨.bl b, H, I, rfl, h⟩)
  | (unfold PE at *; exact (fun _ _ _ H _ I h => Constant_bool ⟨.bl b, H, I, rfl, h⟩))

theorem pe_non {j pos} : PE X (.Constant .none j pos) (tC .non) := by
  first
  | exact (fun _ _ _ H _ I h => Constant_none ⟨.non, H, I, rfl, h⟩)
  | (unfold PE at *; exact (fun _ _ _ H _ I h => Constant_none ⟨.non, H, I, rfl, h⟩))

theorem pe_str {x j pos} : PE X (.Constant (.str x) j pos) (tC (.str x)) := by
  first
  | exact (fun _ _ _ H _ I h => Calls.Constant_str ⟨.str x, H, I.tok _, ⟨_, rfl⟩, h⟩)
  | (unfold PE at *; exact (fun _ _ _ H _ I h => Calls.Constant_str ⟨.str x, H, I.tok _, ⟨_, rfl⟩, h⟩))

/-- a global name of the def -/
def Gl (X : Cx) (x : Str) : Prop := X.env.kindOf x = some .globalImplicit
theorem ld_glob {E : Value → Shared → Prop} {pins : List (Addr × Obj)} {s : Shared} {σ : St} {H : Hp} {x : Str} {u : Value} {pos : Pos} {Q : Value → Shared → Prop} (I : Inv X pins σ H s) (hg : Gl X x) (hm : X.mg x = some u) (h : Q u s)
    (hd : (x == ("__debug__" : Str)) = false := by decide) : wpAny (model X.prog X.w) X.A (eval (.Name x pos) X.env) Q E s :=
  Calls.Name_function_global I.ok.kind hg (Calls.loadGlobal_global (by rw [I.ok.glob]; exact I.mod.glob.keeps I.bk) hm h) hd
theorem ld_blt {E : Value → Shared → Prop} {pins : List (Addr × Obj)} {s : Shared} {σ : St} {H : Hp} {x : Str} {u : Value} {pos : Pos} {Q : Value → Shared → Prop} (I : Inv X pins σ H s) (hg : Gl X x) (hm : X.mg x = none) (hv : bootBuiltins x = some u) (h : Q u s)
    (hn : x ≠ "__name__" := by decide) (hd : (x == ("__debug__" : Str)) = false := by decide) : wpAny (model X.prog X.w) X.A (eval (.Name x pos) X.env) Q E s := by
  obtain ⟨mb, h1, h2⟩ := I.mod.blt
  exact Calls.Name_function_global I.ok.kind hg (Calls.loadGlobal_builtin (by rw [I.ok.glob]; exact I.mod.glob.keeps I.bk) hm (by rw [I.ok.blt]; exact h1.keeps I.bk) ((h2 x hn).trans hv) h) hd
/-- a module's constant, a class, a function, as a value -/
theorem pe_glob {x : Str} {v : V} {u : Value} {pos : Pos} (hg : Gl X x) (hm : X.mg x = some u) (r : RelV v u) (hd : (x == ("__debug__" : Str)) = false := by decide) : PE X (.Name x pos) (tC v) := by
  first
  | exact (fun _ _ _ H _ I h => ld_glob I hg hm ⟨v, H, I, r, h⟩ hd)
  | (unfold PE at *; exact (fun _ _ _ H _ I h => ld_glob I hg hm ⟨v, H, I, r, h⟩ hd))

theorem pe_bltn {x : Str} {v : V} {u : Value} {pos : Pos} (hg : Gl X x) (hm : X.mg x = none) (hv : bootBuiltins x = some u) (r : RelV v u) (hn : x ≠ "__name__" := by decide) (hd : (x == ("__debug__" : Str)) = false := by decide) : PE X (.Name x pos) (tC v) := by
  first
  | exact (fun _ _ _ H _ I h => ld_blt I hg hm hv ⟨v, H, I, r, h⟩ hn hd)
  | (unfold PE at *; exact (fun _ _ _ H _ I h => ld_blt I hg hm hv ⟨v, H, I, r, h⟩ hn hd))

/-! ### arithmetic -/
variable {a b : Expr} {ta tb : TE} {pos : Pos}
/-! ### comparisons -/
@[irreducible] def PC (X : Cx) (op : CmpOp) (a b : Expr) (t : TE) : Prop :=
  ∀ (pins : List (Addr × Obj)) (s : Shared) (σ : St) (H : Hp) (Q : VK), Inv X pins σ H s → t σ H Q →
    wpAny (model X.prog X.w) X.A (eval a X.env) (fun v s₁ => wpAny (model X.prog X.w) X.A (eval b X.env) (fun u s₂ => wpAny (model X.prog X.w) X.A (compareOp op v u) (EP X pins σ Q) X.xe s₂) X.xe s₁) X.xe s
theorem nobehind (b : Expr) {op : CmpOp} (h : op ≠ .In) (h2 : op ≠ .NotIn) : behindInMarks op b = false := by
  have e1 : (op == CmpOp.In) = false := by cases op <;> first | rfl | exact absurd rfl h
  have e2 : (op == CmpOp.NotIn) = false := by cases op <;> first | rfl | exact absurd rfl h2
  cases b <;> simp [behindInMarks, e1, e2]
/-- is None -/
def tIsN (ta : TE) : TE := fun σ H Q => ta σ H fun x H1 => Q (.bl (decide (x = .non))) H1
def tNotN (ta : TE) : TE := fun σ H Q => ta σ H fun x H1 => Q (.bl (!decide (x = .non))) H1
theorem RelV.none_iff {x : V} {v : Value} (r : RelV x v) : (v == Value.none) = decide (x = .non) := by
  cases x with
  | non => cases r; rfl
  | bl _ => cases r; rfl
  | int _ => obtain ⟨t, rfl⟩ := r; rfl
  | str _ => obtain ⟨t, rfl⟩ := r; rfl
  | byt _ => obtain ⟨t, rfl⟩ := r; rfl
  | flt _ => obtain ⟨t, rfl⟩ := r; rfl
  | ref _ => cases r; rfl
  | ty _ => cases r; rfl
theorem pc_isN {j pos'} (ha : PE X a ta) : PC X .Is a (.Constant .none j pos') (tIsN ta) := by
  unfold PE at *; unfold PC at *
  exact by
    intro pins s σ H Q I h
    refine thn (ha pins s σ H _ I h) fun v s1 ⟨x, H1, I1, r1, q1⟩ => ?_
    exact Constant_none (is_none_gen ⟨.bl _, H1, I1, by rw [r1.none_iff]; rfl, q1⟩)

theorem pc_notN {j pos'} (ha : PE X a ta) : PC X .IsNot a (.Constant .none j pos') (tNotN ta) := by
  unfold PE at *; unfold PC at *
  exact by
    intro pins s σ H Q I h
    refine thn (ha pins s σ H _ I h) fun v s1 ⟨x, H1, I1, r1, q1⟩ => ?_
    exact Constant_none (isnot_none_gen ⟨.bl _, H1, I1, by rw [r1.none_iff]; rfl, q1⟩)

/-- a comparison as a value, as a test -/
def tB (t : TE) : TT := fun σ H Q => t σ H fun x H1 => ∃ c, x = .bl c ∧ Q c H1
theorem pe_cmp {op : CmpOp} {t : TE} (h : PC X op a b t) (h1 : behindInMarks op b = false := by first | exact nobehind _ (by decide) (by decide) | rfl) : PE X (.Compare a [op] [b] pos) t := by
  first
  | exact (fun pins s σ H Q I hw => wpAny_Compare1 (h pins s σ H Q I hw) h1)
  | (unfold PE at *; unfold PC at *; exact (fun pins s σ H Q I hw => wpAny_Compare1 (h pins s σ H Q I hw) h1))

theorem pt_cmp {op : CmpOp} {t : TE} (h : PC X op a b t) (h1 : behindInMarks op b = false := by first | exact nobehind _ (by decide) (by decide) | rfl) : PT X (.Compare a [op] [b] pos) (tB t) := by
  unfold PT at *; unfold PC at *
  exact by
    intro pins s σ H Q I hw
    refine wpAny_isTrue_Compare1 (thn (h pins s σ H _ I hw) fun v s1 h1 => thn h1 fun u s2 h2 => thn h2 fun c s3 ⟨x, H1, I1, r1, q1⟩ => ?_) h1
    obtain ⟨d, rfl, q⟩ := q1
    cases r1
    exact wpAny_truthy_bool ⟨H1, I1, q⟩

/-- an expression whose value is a bool, as a test -/
theorem pt_val {e : Expr} {t : TE} (h : PE X e t) (he : ∀ whole, isTrue e X.env whole = (do let v ← whole; standAt e.pos; holding [v] (truthy v)) := by intro _; rfl) : PT X e (tB t) := by
  unfold PE at *; unfold PT at *
  exact by
    intro pins s σ H Q I hw
    refine isTrue_plain (thn (h pins s σ H _ I hw) fun v s1 ⟨x, H1, I1, r1, q1⟩ => ?_) (he _)
    obtain ⟨d, rfl, q⟩ := q1
    cases r1
    exact wpAny_truthy_bool ⟨H1, I1, q⟩

/-! ### and, or, not -/
variable {tA tB' : TT} {rest : List Expr}
def tAnd (t u : TT) : TT := fun σ H Q => t σ H fun c H1 => if c = true then u σ H1 Q else Q false H1
def tOr (t u : TT) : TT := fun σ H Q => t σ H fun c H1 => if c = true then Q true H1 else u σ H1 Q
def tNot (t : TT) : TT := fun σ H Q => t σ H fun c H1 => Q (!c) H1
theorem pw_and1 (ha : PT X a tA) : PW X (.BoolOp .And [a] pos) tA := by
  unfold PT at *; unfold PW at *
  exact by
    intro wh pins s σ H Q I h
    refine isTrue_and (thn (ha pins s σ H Q I h) fun c s1 e => ?_)
    cases c with
    | true => exact isTrue_and_nil e
    | false => exact e

theorem pw_or1 (ha : PT X a tA) : PW X (.BoolOp .Or [a] pos) tA := by
  unfold PT at *; unfold PW at *
  exact by
    intro wh pins s σ H Q I h
    refine isTrue_or (thn (ha pins s σ H Q I h) fun c s1 e => ?_)
    cases c with
    | false => exact isTrue_or_nil e
    | true => exact e

theorem pw_and (ha : PT X a tA) (hb : PW X (.BoolOp .And (b :: rest) pos) tB') : PW X (.BoolOp .And (a :: b :: rest) pos) (tAnd tA tB') := by
  unfold PT at *; unfold PW at *
  exact by
    intro wh pins s σ H Q I h
    refine isTrue_and (thn (ha pins s σ H _ I h) fun c s1 ⟨H1, I1, q1⟩ => ?_)
    cases c with
    | true => exact hb wh pins s1 σ H1 Q I1 q1
    | false => exact ⟨H1, I1, q1⟩

theorem pw_or (ha : PT X a tA) (hb : PW X (.BoolOp .Or (b :: rest) pos) tB') : PW X (.BoolOp .Or (a :: b :: rest) pos) (tOr tA tB') := by
  unfold PT at *; unfold PW at *
  exact by
    intro wh pins s σ H Q I h
    refine isTrue_or (thn (ha pins s σ H _ I h) fun c s1 ⟨H1, I1, q1⟩ => ?_)
    cases c with
    | true => exact ⟨H1, I1, q1⟩
    | false => exact hb wh pins s1 σ H1 Q I1 q1

theorem pt_not (ha : PT X a tA) : PT X (.UnaryOp .Not a pos) (tNot tA) := by
  unfold PT at *
  exact by
    intro pins s σ H Q I h
    exact isTrue_not (ha pins s σ H (fun c H1 => Q (!c) H1) I h)

/-- .. as values (bools) -/
def tAndV (ta tb : TE) : TE := fun σ H Q => ta σ H fun x H1 => ∃ c, x = .bl c ∧ if c = true then tb σ H1 Q else Q (.bl false) H1
def tOrV (ta tb : TE) : TE := fun σ H Q => ta σ H fun x H1 => ∃ c, x = .bl c ∧ if c = true then Q (.bl true) H1 else tb σ H1 Q
def tNotV (ta : TE) : TE := fun σ H Q => ta σ H fun x H1 => ∃ c, x = .bl c ∧ Q (.bl (!c)) H1
theorem pe_one {op} {t : TE} (h : PE X a t) : PE X (.BoolOp op [a] pos) t := by
  first
  | exact (fun pins s σ H Q I hw => BoolOp_one (h pins s σ H Q I hw))
  | (unfold PE at *; exact (fun pins s σ H Q I hw => BoolOp_one (h pins s σ H Q I hw)))

theorem pe_and (ha : PE X a ta) (hb : PE X (.BoolOp .And (b :: rest) pos) tb) : PE X (.BoolOp .And (a :: b :: rest) pos) (tAndV ta tb) := by
  unfold PE at *
  exact by
    intro pins s σ H Q I h
    refine BoolOp_and (thn (ha pins s σ H _ I h) fun v s1 ⟨x, H1, I1, r1, q1⟩ => ?_)
    obtain ⟨c, rfl, q1⟩ := q1
    cases r1
    refine wpAny_truthy_bool ?_
    cases c with
    | true => exact hb pins s1 σ H1 Q I1 q1
    | false => exact ⟨.bl false, H1, I1, rfl, q1⟩

theorem pe_or (ha : PE X a ta) (hb : PE X (.BoolOp .Or (b :: rest) pos) tb) : PE X (.BoolOp .Or (a :: b :: rest) pos) (tOrV ta tb) := by
  unfold PE at *
  exact by
    intro pins s σ H Q I h
    refine BoolOp_or (thn (ha pins s σ H _ I h) fun v s1 ⟨x, H1, I1, r1, q1⟩ => ?_)
    obtain ⟨c, rfl, q1⟩ := q1
    cases r1
    refine wpAny_truthy_bool ?_
    cases c with
    | false => exact hb pins s1 σ H1 Q I1 q1
    | true => exact ⟨.bl true, H1, I1, rfl, q1⟩

theorem pe_not (ha : PE X a ta) : PE X (.UnaryOp .Not a pos) (tNotV ta) := by
  unfold PE at *
  exact by
    intro pins s σ H Q I h
    refine UnaryOp_ (thn (ha pins s σ H _ I h) fun v s1 ⟨x, H1, I1, r1, q1⟩ => ?_)
    obtain ⟨c, rfl, q1⟩ := q1
    cases r1
    exact not_of (wpAny_truthy_bool ⟨.bl (!c), H1, I1, rfl, q1⟩)

end
end L2

namespace L2
open PySem PySem.Spec PyProof.Rows

/-! ### a list, a tuple that is read: tracked, frozen, or an object of the module -/
def SqL (K : PySem.W.Frag) (H : Hp) (a : Addr) (xs : List V) : Prop :=
  Rd H a (.lst xs) ∨
    ∃ (o : Obj) (its : Array Value) (n : Nat), K.lookup a = some o ∧ o.cls = .type "list" ∧ o.dict = none ∧ o.data = .seq its n ∧ its.size ≤ sizeLine ∧ Vals xs its.toList
def SqT (K : PySem.W.Frag) (H : Hp) (a : Addr) (xs : List V) : Prop :=
  Rd H a (.tup xs) ∨
    ∃ (o : Obj) (its : Array Value) (n : Nat), K.lookup a = some o ∧ o.cls = .type "tuple" ∧ o.data = .seq its n ∧ its.size ≤ sizeLine ∧ Vals xs its.toList
def absV : Value → Option V
  | .none => some .non
  | .bool b => some (.bl b)
  | .int i _ => some (.int i)
  | .str x _ => some (.str x)
  | .bytes b _ => some (.byt b)
  | .float b _ => some (.flt b)
  | .ref a => some (.ref a)
  | .type n => some (.ty n)
  | _ => none
theorem RelV.abs {x : V} {u : Value} (r : RelV x u) : absV u = some x := by
  cases x with
  | non => cases r; rfl
  | bl _ => cases r; rfl
  | int _ => obtain ⟨t, rfl⟩ := r; rfl
  | str _ => obtain ⟨t, rfl⟩ := r; rfl
  | byt _ => obtain ⟨t, rfl⟩ := r; rfl
  | flt _ => obtain ⟨t, rfl⟩ := r; rfl
  | ref _ => cases r; rfl
  | ty _ => cases r; rfl
theorem RelV.inj {x y : V} {u : Value} (r : RelV x u) (q : RelV y u) : x = y := Option.some.inj (r.abs.symm.trans q.abs)
theorem Vals.inj : ∀ {xs ys : List V} {us : List Value}, Vals xs us → Vals ys us → xs = ys
  | _, _, _, .nil, .nil => rfl
  | _, _, _, .cons r t, .cons r' t' => by rw [r.inj r', Vals.inj t t']
section
variable {X : Cx} {pins : List (Addr × Obj)} {σ : St} {H : Hp} {s : Shared} {a : Addr} {xs ys : List V}
theorem SqL.of {K : PySem.W.Frag} (h : H a = some (.lst xs)) : SqL K H a xs := .inl (.inl h)
theorem SqT.of {K : PySem.W.Frag} (h : H a = some (.tup xs)) : SqT K H a xs := .inl (.inl h)
theorem Inv.list (I : Inv X pins σ H s) (h : SqL X.K H a xs) : ∃ its : List Value, Vals xs its ∧ PlainL s.heap a its.toArray ∧ xs.length ≤ sizeLine := by
  rcases h with h | ⟨o, its, n, hk, hc, hd, hs, hz, r⟩
  · obtain ⟨z, its, n, r, e⟩ := h.ok I.hok
    exact ⟨its, r, ⟨_, n, e, rfl, rfl, rfl⟩, z⟩
  · refine ⟨its.toList, r, ⟨o, n, I.kIn a o hk, hc, hd, by simpa using hs⟩, ?_⟩
    have e := r.length
    simp only [Array.length_toList] at e
    omega
theorem Inv.tuple (I : Inv X pins σ H s) (h : SqT X.K H a xs) : ∃ its : List Value, Vals xs its ∧ IsTup s.heap a its.toArray ∧ xs.length ≤ sizeLine := by
  rcases h with h | ⟨o, its, n, hk, hc, hs, hz, r⟩
  · obtain ⟨z, its, r, p⟩ := h.ok I.hok
    exact ⟨its, r, p, z⟩
  · refine ⟨its.toList, r, ⟨o, I.kIn a o hk, hc, n, by simpa using hs⟩, ?_⟩
    have e := r.length
    simp only [Array.length_toList] at e
    omega
theorem Inv.list_inj (I : Inv X pins σ H s) (h : SqL X.K H a xs) (h' : SqL X.K H a ys) : xs = ys := by
  obtain ⟨its, r, ⟨o, n, e, _, _, d⟩, _⟩ := I.list h
  obtain ⟨its', r', ⟨o', n', e', _, _, d'⟩, _⟩ := I.list h'
  rw [e] at e'; cases e'
  rw [d] at d'
  injection d' with d1 _
  have : its = its' := by simpa using congrArg Array.toList d1
  subst this
  exact r.inj r'
theorem Inv.tuple_inj (I : Inv X pins σ H s) (h : SqT X.K H a xs) (h' : SqT X.K H a ys) : xs = ys := by
  obtain ⟨its, r, ⟨o, e, _, n, d⟩, _⟩ := I.tuple h
  obtain ⟨its', r', ⟨o', e', _, n', d'⟩, _⟩ := I.tuple h'
  rw [e] at e'; cases e'
  rw [d] at d'
  injection d' with d1 _
  have : its = its' := by simpa using congrArg Array.toList d1
  subst this
  exact r.inj r'
end

/-! ### another wish about exceptions -/
abbrev Cx.wish (X : Cx) (E : Value → Shared → Prop) : Cx := { X with xe := E }
/-- no exception leaves -/
abbrev Cx.nox (X : Cx) : Cx := X.wish fun _ _ => False
theorem Cx.Ok.wish {X : Cx} (ok : X.Ok) (E : Value → Shared → Prop) : (X.wish E).Ok :=
  ⟨ok.mod, ok.kind, ok.glob, ok.blt, ok.above, ok.inj, ok.has, ok.cab, ok.hd, ok.frames, ok.stk, ok.exf, ok.bs, ok.bsz, ok.noex, ok.exfs, ok.funs, ok.frf⟩
theorem Cx.Ok.unwish {X : Cx} {E : Value → Shared → Prop} (ok : (X.wish E).Ok) : X.Ok :=
  ⟨ok.mod, ok.kind, ok.glob, ok.blt, ok.above, ok.inj, ok.has, ok.cab, ok.hd, ok.frames, ok.stk, ok.exf, ok.bs, ok.bsz, ok.noex, ok.exfs, ok.funs, ok.frf⟩
section
variable {X : Cx} {pins : List (Addr × Obj)} {σ : St} {H : Hp} {s : Shared} {E : Value → Shared → Prop}
theorem Inv.wish (I : Inv X pins σ H s) (E : Value → Shared → Prop) : Inv (X.wish E) pins σ H s := ⟨I.ok.wish E, I.os, I.bare, I.base, I.loc, I.cell, I.free, I.freeC, I.pin, I.hok, I.len⟩
theorem Inv.unwish (I : Inv (X.wish E) pins σ H s) : Inv X pins σ H s := ⟨I.ok.unwish, I.os, I.bare, I.base, I.loc, I.cell, I.free, I.freeC, I.pin, I.hok, I.len⟩
theorem SP.unwish {D : Ends} {f : Flow} {s' : Shared} (h : SP (X.wish E) pins D f s') : SP X pins D f s' := by
  cases f with
  | next => obtain ⟨σ', H', I, q⟩ := h; exact ⟨σ', H', I.unwish, q⟩
  | brk => obtain ⟨σ', H', I, q⟩ := h; exact ⟨σ', H', I.unwish, q⟩
  | cont => obtain ⟨σ', H', I, q⟩ := h; exact ⟨σ', H', I.unwish, q⟩
  | ret u => obtain ⟨v, σ', H', I, r, q⟩ := h; exact ⟨v, σ', H', I.unwish, r, q⟩
theorem PE.nox {e : Expr} {t : TE} (h : PE X.nox e t) : PE X e t := by
  unfold PE at *
  exact (fun pins s σ H Q I hw =>
    wpAny_mono (h pins s σ H Q (I.wish _) hw) (fun _ _ ⟨v, H', I', r, q⟩ => ⟨v, H', I'.unwish, r, q⟩) fun _ _ z => False.elim z)

theorem PT.nox {e : Expr} {t : TT} (h : PT X.nox e t) : PT X e t := by
  unfold PT at *
  exact (fun pins s σ H Q I hw =>
    wpAny_mono (h pins s σ H Q (I.wish _) hw) (fun _ _ ⟨H', I', q⟩ => ⟨H', I'.unwish, q⟩) fun _ _ z => False.elim z)

theorem PSs.nox {st : List Stmt} {t : TS} (h : PSs X.nox st t) : PSs X st t := by
  unfold PSs at *
  exact (fun pins s σ H D I hw =>
    wpAny_mono (h pins s σ H D (I.wish _) hw) (fun _ _ q => q.unwish) fun _ _ z => False.elim z)

end

/-! ### blocks and small statements -/
section
variable {X : Cx} {st : Stmt} {rest : List Stmt} {t u : TS} {e : Expr} {te : TE} {pos : Pos}
def tNext : TS := fun D σ H => D.nx σ H
def tSeq (t u : TS) : TS := fun D σ H => t { D with nx := u D } σ H
theorem pss_nil : PSs X [] tNext := by
  first
  | exact (fun _ _ σ H _ I h => wpAny_execs_nil ⟨σ, H, I, h⟩)
  | (unfold PSs at *; exact (fun _ _ σ H _ I h => wpAny_execs_nil ⟨σ, H, I, h⟩))

theorem pss_cons (h1 : PS X st t) (h2 : PSs X rest u) : PSs X (st :: rest) (tSeq t u) := by
  unfold PS at *; unfold PSs at *
  exact by
    intro pins s σ H D I h
    refine wpAny_execs_cons (thn (h1 pins s σ H { D with nx := u D } I h) fun f s1 q => ?_)
    cases f with
    | next =>
      obtain ⟨σ', H', I', q⟩ := q
      exact h2 pins s1 σ' H' D I' q
    | ret v => exact q
    | brk => exact q
    | cont => exact q

theorem pss_one (h1 : PS X st t) : PSs X [st] t := by
  unfold PS at *; unfold PSs at *
  exact by
    intro pins s σ H D I h
    refine wpAny_execs_cons (thn (h1 pins s σ H D I h) fun f s1 q => ?_)
    cases f with
    | next => exact wpAny_execs_nil q
    | ret v => exact q
    | brk => exact q
    | cont => exact q

/-- in a def's body nothing is shown -/
theorem Inv.quiet {pins : List (Addr × Obj)} {σ : St} {H : Hp} {s : Shared} (I : Inv X pins σ H s) : interactive X.env = false := by simp [interactive, I.ok.kind]
/-- an expression whose value is dropped -/
def tDrop (te : TE) : TS := fun D σ H => te σ H fun _ H1 => D.nx σ H1
theorem ps_expr (he : PE X e te) (hs : swapsWith e none pos.line X.env = pure false := by rfl) : PS X (.Expr e pos) (tDrop te) := by
  unfold PE at *; unfold PS at *
  exact by
    intro pins s σ H D I h
    exact wpAny_Expr_any (thn (he pins s σ H _ I h) fun v s1 ⟨x, H1, I1, r1, q1⟩ => ⟨σ, H1, I1, q1⟩) I.quiet hs

def tRet (te : TE) : TS := fun D σ H => te σ H D.rt
theorem ps_ret (he : PE X e te) : PS X (.Return (some e) pos) (tRet te) := by
  unfold PE at *; unfold PS at *
  exact by
    intro pins s σ H D I h
    exact wpAny_Return_some (thn (he pins s σ H _ I h) fun v s1 ⟨x, H1, I1, r1, q1⟩ => ⟨x, σ, H1, I1, r1, q1⟩)

def tIfS (c : TT) (t u : TS) : TS := fun D σ H => c σ H fun b H1 => if b = true then t D σ H1 else u D σ H1
theorem ps_if {c : Expr} {a b : List Stmt} {tc : TT} (hc : PT X c tc) (ha : PSs X a t) (hb : PSs X b u) : PS X (.If c a b pos) (tIfS tc t u) := by
  unfold PT at *; unfold PS at *; unfold PSs at *
  exact by
    intro pins s σ H D I h
    refine wpAny_If (thn (hc pins s σ H _ I h) fun d s1 ⟨H1, I1, q1⟩ => ?_)
    cases d with
    | true => exact ha pins s1 σ H1 D I1 q1
    | false => exact hb pins s1 σ H1 D I1 q1

/-- code that the proof never comes to -/
def tNever : TS := fun _ _ _ => False
theorem ps_never : PS X st tNever := by
  first
  | exact (fun _ _ _ _ _ _ h => h.elim)
  | (unfold PS at *; exact (fun _ _ _ _ _ _ h => h.elim))

end

/-! ### targets -/
abbrev TG := V → St → Hp → (St → Hp → Prop) → Prop
abbrev TGs := List V → St → Hp → (St → Hp → Prop) → Prop
@[irreducible] def PG (X : Cx) (target : Expr) (t : TG) : Prop :=
  ∀ (pins : List (Addr × Obj)) (s : Shared) (σ : St) (H : Hp) (v : V) (u : Value) (Q : St → Hp → Prop), Inv X pins σ H s → RelV v u → t v σ H Q →
    wpAny (model X.prog X.w) X.A (assign target X.env u) (fun _ s' => ∃ σ' H', Inv X pins σ' H' s' ∧ Q σ' H') X.xe s
/-- several targets, one after another -/
@[irreducible] def PGs (X : Cx) (ts : List Expr) (t : TGs) : Prop :=
  ∀ (pins : List (Addr × Obj)) (s : Shared) (σ : St) (H : Hp) (vs : List V) (us : List Value) (Q : St → Hp → Prop), Inv X pins σ H s → Vals vs us → t vs σ H Q →
    wpAny (model X.prog X.w) X.A (assignInOrder ((assignEach ts X.env).map (·.2)) us) (fun _ s' => ∃ σ' H', Inv X pins σ' H' s' ∧ Q σ' H') X.xe s
section
variable {X : Cx} {pos : Pos}
def gName (i : Nat) : TG := fun v σ H Q => Q (σ.set i (some v)) H
theorem pg_name {i : Nat} {x : Str} (hN : X.N.Nodup) (hi : X.N[i]? = some x) (hx : Loc X.env.scope x) (hf : X.fn x = true ∨ X.env.scope.names.lookup x = some .local := by first | exact .inl rfl | exact .inr rfl | assumption) : PG X (.Name x pos) (gName i) := by
  unfold PG at *
  exact by
    intro pins s σ H v u Q I r h
    exact wpAny_assign_Name (store_ok I hN hi hx r (fun s' I' => ⟨_, H, I', h⟩) hf)

def gNil : TGs := fun vs σ H Q => vs = [] ∧ Q σ H
def gCons (t : TG) (u : TGs) : TGs := fun vs σ H Q => ∃ v r, vs = v :: r ∧ t v σ H fun σ' H' => u r σ' H' Q
theorem pgs_nil : PGs X [] gNil := by
  unfold PGs at *
  exact by
    intro pins s σ H vs us Q I r h
    obtain ⟨e, h⟩ := h
    subst e
    cases r
    exact assignInOrder_nil ⟨σ, H, I, h⟩

theorem pgs_cons {e : Expr} {es : List Expr} {t : TG} {u : TGs} (h1 : PG X e t) (h2 : PGs X es u)
    (hs : (assignEach (e :: es) X.env).map (·.2) = assign e X.env :: (assignEach es X.env).map (·.2) := by rfl) : PGs X (e :: es) (gCons t u) := by
  unfold PG at *; unfold PGs at *
  exact by
    intro pins s σ H vs us Q I r h
    obtain ⟨v, vr, e1, h⟩ := h
    subst e1
    cases r with
    | cons r rr =>
      rw [hs]
      refine assignInOrder_cons (thn (h1 pins s σ H _ _ _ I r h) fun _ s1 ⟨σ1, H1, I1, q1⟩ => ?_)
      exact h2 pins s1 σ1 H1 _ _ Q I1 rr q1

/-- (a, b, ..) = a tuple of that length -/
def gTup (K : PySem.W.Frag) (n : Nat) (t : TGs) : TG := fun v σ H Q => ∃ a xs, v = .ref a ∧ SqT K H a xs ∧ xs.length = n ∧ t xs σ H Q
theorem pg_tup {es : List Expr} {k : Nat} {t : TGs} {n : Nat} (hc : X.calm = true) (h : PGs X es t)
    (hn : (assignEach es X.env).length = n := by rfl) (hst : (assignEach es X.env).findIdx? (·.1) = none := by rfl) : PG X (.Tuple es k pos) (gTup X.K n t) := by
  unfold PG at *; unfold PGs at *
  exact by
    intro pins s σ H v u Q I r hw
    obtain ⟨a, xs, e1, hq, hl, hw⟩ := hw
    subst e1
    cases r
    obtain ⟨its, rv, ht, hz⟩ := I.tuple hq
    refine assign_Tuple_tuple (I.ok.hd hc) ht (by simp [hn, ← hl, rv.length]) hst fun h' hx => ?_
    have I1 : Inv X pins σ H { s with heap := h' } := I.kept (t' := s.toks) fun b o e => hx b o (Nat.ne_of_lt (Heap.lt_size e)) e
    exact h pins _ σ H xs _ Q I1 (by simpa using rv) hw

/-- target = value -/
def tAsg (te : TE) (g : TG) : TS := fun D σ H => te σ H fun x H1 => g x σ H1 D.nx
theorem ps_asg {tg e : Expr} {te : TE} {g : TG} (he : PE X e te) (hg : PG X tg g) (hs : swapsWithSole [tg] e pos.line X.env = pure false := by rfl) (hw : swappedStores [tg] e X.env = pure none := by rfl)
    (h1 : (assignEach [tg] X.env).map (·.2) = [assign tg X.env] := by rfl) : PS X (.Assign [tg] e pos) (tAsg te g) := by
  unfold PE at *; unfold PS at *; unfold PG at *
  exact by
    intro pins s σ H D I h
    refine wpAny_Assign_stores (thn (he pins s σ H _ I h) fun v s1 ⟨x, H1, I1, r1, q1⟩ => ?_) hs hw
    rw [h1]
    exact thn (hg pins s1 σ H1 x v _ I1 r1 q1) fun _ s2 q => q

/-- name = value -/
theorem ps_set {i : Nat} {x : Str} {e : Expr} {te : TE} {pos' : Pos} (hN : X.N.Nodup) (hi : X.N[i]? = some x) (hx : Loc X.env.scope x) (he : PE X e te) (hs : swapsWith e (some (.Name x pos')) pos.line X.env = pure false := by rfl) (hf : X.fn x = true ∨ X.env.scope.names.lookup x = some .local := by first | exact .inl rfl | exact .inr rfl | assumption) :
    PS X (.Assign [.Name x pos'] e pos) (tAsg te (gName i)) := by
  unfold PE at *; unfold PS at *
  exact by
    intro pins s σ H D I h
    refine wpAny_Assign_Name (thn (he pins s σ H _ I h) fun v s1 ⟨y, H1, I1, r1, q1⟩ => ?_) hs
    exact store_ok I1 hN hi hx r1 (fun s2 I2 => ⟨_, H1, I2, q1⟩) hf

end

/-! ### while -/
section
variable {X : Cx} {pos : Pos}
/-- the invariant W with its measure -/
def tWhile (c : TT) (tb : TS) : TS := fun D σ H => ∃ W : Nat → St → Hp → Prop, (∃ m, W m σ H) ∧ ∀ m σ H, W m σ H →
  c σ H fun b H1 => if b = true then ∃ N : St → Hp → Prop, (∀ σ' H', N σ' H' → ∃ m', m' < m ∧ W m' σ' H') ∧ tb { D with nx := N, ct := N, bk := D.nx } σ H1 else D.nx σ H1
theorem ps_while {c : Expr} {body : List Stmt} {tc : TT} {tb : TS} (hp : PassesOwn (model X.prog X.w) X.A X.env X.xe) (hc : PT X c tc) (hb : PSs X body tb) : PS X (.While c body [] pos) (tWhile tc tb) := by
  unfold PT at *; unfold PS at *; unfold PSs at *
  exact by
    intro pins s σ H D I h
    obtain ⟨W, ⟨m0, w0⟩, turn⟩ := h
    refine wpAny_While (codeAny_whileLoop (fun n s' => ∃ σ' H', Inv X pins σ' H' s' ∧ W n σ' H') ?_ m0 ⟨σ, H, I, w0⟩)
    rintro n s1 ⟨σ1, H1, I1, w1⟩
    refine wpAny_passesOwn hp (thn (hc pins s1 σ1 H1 _ I1 (turn n σ1 H1 w1)) fun b s2 ⟨H2, I2, q2⟩ => ?_)
    cases b with
    | true =>
      obtain ⟨N, hN, q2⟩ := q2
      rw [if_pos rfl]
      refine wpAny_passesOwn hp (thn (hb pins s2 σ1 H2 _ I2 q2) fun f s3 q3 => ?_)
      cases f with
      | next =>
        obtain ⟨σ3, H3, I3, n3⟩ := q3
        obtain ⟨m', hm, w3⟩ := hN σ3 H3 n3
        exact ⟨m', hm, σ3, H3, I3, w3⟩
      | cont =>
        obtain ⟨σ3, H3, I3, n3⟩ := q3
        obtain ⟨m', hm, w3⟩ := hN σ3 H3 n3
        exact ⟨m', hm, σ3, H3, I3, w3⟩
      | brk => exact q3
      | ret v => exact q3
    | false =>
      rw [if_neg Bool.false_ne_true]
      exact wpAny_execs_nil ⟨σ1, H2, I2, q2⟩

end

/-! ### what a loop or a comprehension walks -/
/- at turn i: it yields x (the heap may grow), or it stops -/
set_option genInjectivity false in
set_option genSizeOfSpec false in
set_option genSizeOf false in
structure It where
  go : Nat → Hp → Prop
  yld : Nat → Hp → V → Hp → Prop
  stop : Nat → Hp → Prop
/-- the iterator's own objects may turn: they are not the frame's, not pinned, younger than the entry (or a comprehension's own) -/
def FpOk (X : Cx) (pins : List (Addr × Obj)) (H : Hp) (b : Addr) : Prop :=
  H b = none ∧ b ≠ X.env.locals ∧ b ∉ X.fs ∧ (b ∈ X.ex ∨ X.s₀.heap.objs.size ≤ b) ∧ (∀ x c, X.env.cells.lookup x = some c → c ≠ b) ∧ ∀ p ∈ X.pn ++ pins, p.1 ≠ b
theorem Inv.fpOk {X : Cx} {pins : List (Addr × Obj)} {σ : St} {H H' : Hp} {s : Shared} {b : Addr} (I : Inv X pins σ H s) (hb : s.heap.objs.size ≤ b) (hn : H' b = none) : FpOk X pins H' b := by
  refine ⟨hn, Nat.ne_of_gt (Nat.lt_of_lt_of_le I.lt hb), I.nofs hb, .inr (Nat.le_trans I.sz hb), fun x c e z => ?_, fun p hp z => ?_⟩
  · obtain ⟨v, q⟩ := I.cell x c e
    exact absurd (Nat.lt_of_lt_of_le q.lt (by rw [z]; exact hb)) (Nat.lt_irrefl _)
  · exact absurd (Nat.lt_of_lt_of_le (Heap.lt_size (I.pin p hp).1) (by rw [z]; exact hb)) (Nat.lt_irrefl _)
structure Turn (P : Program) (w : World) (K : PySem.W.Frag) (tg : Expr) (J : It) (fp : List Addr) (it : Addr) (tn : Nat → Heap → Prop) : Prop where
  mem : it ∈ fp
  obj : ∀ i h, tn i h → ∀ b ∈ fp, ∃ o, h.get? b = some o ∧ ∀ v, o.data ≠ .cell v
  keep : ∀ i h h', tn i h → (∀ b ∈ fp, ∀ o, h.get? b = some o → h'.get? b = some o) → tn i h'
  item : ∀ (X : Cx), X.prog = P → X.w = w → X.K = K → X.calm = true → ∀ (i : Nat) (pins : List (Addr × Obj)) (s : Shared) (σ : St) (H : Hp) (E : Value → Shared → Prop), Inv X pins σ H s → (∀ b ∈ fp, FpOk X pins H b) → tn i s.heap → J.go i H →
    wpAny (model P w) X.A (pyNext (.ref it)) (fun r s1 => ∃ u, r = some u ∧
      wpAny (model P w) X.A (letOwnedTupleGo tg (.ref it) u) (fun _ s2 => ∃ x H', Inv X pins σ H' s2 ∧ RelV x u ∧ J.yld i H x H' ∧ tn (i + 1) s2.heap ∧ ∀ b ∈ fp, H' b = none) E s1) E s
  done : ∀ (X : Cx), X.prog = P → X.w = w → X.K = K → X.calm = true → ∀ (i : Nat) (pins : List (Addr × Obj)) (s : Shared) (σ : St) (H : Hp) (E : Value → Shared → Prop), Inv X pins σ H s → (∀ b ∈ fp, FpOk X pins H b) → tn i s.heap → J.stop i H →
    wpAny (model P w) X.A (pyNext (.ref it)) (fun r s1 => r = none ∧ Inv X pins σ H s1) E s
  self : ∀ (A : Around) (i : Nat) (s : Shared) (Q : Value → Shared → Prop) (E : Value → Shared → Prop), tn i s.heap → Q (.ref it) s → wpAny (model P w) A (pyIter (.ref it)) Q E s
abbrev TI := St → Hp → (It → Hp → Prop) → Prop
/-- an iterator has come -/
def PIE (X : Cx) (pins : List (Addr × Obj)) (σ : St) (tg : Expr) (R : It → Hp → Prop) (itv : Value) (s2 : Shared) : Prop :=
  ∃ (it : Addr) (fp : List Addr) (tn : Nat → Heap → Prop) (J : It) (H' : Hp), itv = .ref it ∧ Inv X pins σ H' s2 ∧ Turn X.prog X.w X.K tg J fp it tn ∧ tn 0 s2.heap ∧ (∀ b ∈ fp, FpOk X pins H' b) ∧ R J H'
@[irreducible] def PI (X : Cx) (tg iter : Expr) (wi : TI) : Prop :=
  ∀ (pins : List (Addr × Obj)) (s : Shared) (σ : St) (H : Hp) (R : It → Hp → Prop), Inv X pins σ H s → wi σ H R →
    wpAny (model X.prog X.w) X.A (eval iter X.env) (fun v s1 => wpAny (model X.prog X.w) X.A (pyIter v) (PIE X pins σ tg R) X.xe s1) X.xe s

/-- the step ahead of the store is nothing for an iterator that keeps no tuple -/
theorem go_of {M : Model} {A : Around} {E : Value → Shared → Prop} {s : Shared} {tg : Expr} {it : Addr} {u : Value} {o : Obj} {n : String} {vs : Array Value} {Q : Unit → Shared → Prop} (ho : s.heap.get? it = some o) (hc : o.cls = .type n) (hd : o.data = .fields vs)
    (hn : ["enumerate", "zip", "dict_itemiterator", "dict_reverseitemiterator", "odict_iterator", "itertools.zip_longest", "itertools.pairwise"].contains n = false) (hQ : Q () s) : wpAny M A (letOwnedTupleGo tg (.ref it) u) Q E s := by
  unfold letOwnedTupleGo
  cases tg <;> first
    | exact wpAny_pure hQ
    | (cases u <;> first
        | exact wpAny_pure hQ
        | (refine wpAny_bind (wpAny_load ho ?_)
           rw [hc, hd]
           show wpAny M A (if (["enumerate", "zip", "dict_itemiterator", "dict_reverseitemiterator", "odict_iterator", "itertools.zip_longest", "itertools.pairwise"].contains n && vs[0]? == some (rawInt _)) = true then _ else _) Q E s
           rw [if_neg (by intro h; rw [hn, Bool.false_and] at h; cases h)]
           exact wpAny_pure hQ))

/-- the list at a, as it stands at each turn (a loop may append to it) -/
def Itl (K : PySem.W.Frag) (a : Addr) : It :=
  ⟨fun i H => ∃ xs x, SqL K H a xs ∧ xs[i]? = some x, fun i H x H' => H' = H ∧ ∀ xs, SqL K H a xs → xs[i]? = some x, fun i H => ∃ xs, SqL K H a xs ∧ xs.length ≤ i⟩
/-- lo, lo + 1, .. (n of them) -/
def Itr (lo : Int) (n : Nat) : It := ⟨fun i _ => i < n, fun i H x H' => H' = H ∧ x = .int (lo + i), fun i _ => n ≤ i⟩
theorem turn_list {P : Program} {w : World} {K : PySem.W.Frag} {tg : Expr} (a it : Addr) : Turn P w K tg (Itl K a) [it] it (fun i h => h.IsListIter it a i) where
  mem := by simp
  obj := fun i h st b hb => by
    have e : b = it := by simpa using hb
    subst e
    obtain ⟨o, e, c, d⟩ := st
    exact ⟨o, e, fun v z => by rw [d] at z; cases z⟩
  keep := fun i h h' st k => st.at fun o e => k it (by simp) o e
  item := by
    intro X hP hw hK hc i pins s σ H E I hf st hg
    subst hP hw hK
    obtain ⟨xs, x, hq, hx⟩ := hg
    obtain ⟨its, rv, p, hz⟩ := I.list hq
    obtain ⟨u, hu, ru⟩ := rv.get hx
    obtain ⟨f0, f1, f2, f3, f4, f5⟩ := hf it (by simp)
    refine wpAny_pyNext_list_item st p.isList (x := u) (by simpa using hu) fun h' st' sb => ?_
    have I1 : Inv X pins σ H { s with heap := h' } := I.turned (t' := s.toks) (fun b o hb e => (sb.2 b hb).trans e) f0 f1 f3 f4 f5
    obtain ⟨o, e, c, d⟩ := id st'
    exact ⟨u, rfl, go_of (s := { s with heap := h' }) e c d (by decide) ⟨x, H, I1, ru, ⟨rfl, fun ys hy => by rw [I.list_inj hy hq]; exact hx⟩, st', fun b hb => (hf b hb).1⟩⟩
  done := by
    intro X hP hw hK hc i pins s σ H E I hf st hg
    subst hP hw hK
    obtain ⟨xs, hq, hx⟩ := hg
    obtain ⟨its, rv, p, hz⟩ := I.list hq
    obtain ⟨f0, f1, f2, f3, f4, f5⟩ := hf it (by simp)
    have hl := rv.length
    exact wpAny_pyNext_list_end (I.ok.hd hc) st p.isList (by simp; omega) fun h' eb => ⟨rfl, I.turned (t' := s.toks) (fun b o hb e => eb b o hb e) f0 f1 f3 f4 f5⟩
  self := fun _ _ _ _ _ st h => wpAny_pyIter_listiter st h
theorem turn_range {P : Program} {w : World} {K : PySem.W.Frag} {tg : Expr} (it : Addr) (lo : Int) (n : Nat) : Turn P w K tg (Itr lo n) [it] it (fun i h => IsRangeIter h it (lo + (i : Nat) * 1) ((n : Int) - (i : Nat)) 1) where
  mem := by simp
  obj := fun i h st b hb => by
    have e : b = it := by simpa using hb
    subst e
    exact ⟨_, st, fun v z => by
      have z' : Data.fields _ = Data.cell v := z
      cases z'⟩
  keep := fun i h h' st k => k it (by simp) _ st
  item := by
    intro X hP hw hK hc i pins s σ H E I hf st hg
    subst hP hw hK
    obtain ⟨f0, f1, f2, f3, f4, f5⟩ := hf it (by simp)
    have W := Walks.range (prog := X.prog) (w := X.w) (I.ok.hd hc) it lo 1 n
    refine W.item i s _ _ hg st fun v h' tk hv st' kk => ?_
    obtain ⟨t, rfl⟩ := hv
    have I1 : Inv X pins σ H { s with heap := h', toks := tk } := I.turned (fun b o hb e => kk b o (by simpa using hb) e) f0 f1 f3 f4 f5
    refine ⟨_, rfl, go_of (s := { s with heap := h', toks := tk }) (n := "range_iterator") st' rfl rfl (by decide) ⟨.int (lo + i), H, I1, ⟨t, ?_⟩, ⟨rfl, rfl⟩, st', fun b hb => (hf b hb).1⟩⟩
    rw [Int.mul_one]
  done := by
    intro X hP hw hK hc i pins s σ H E I hf st hg
    subst hP hw hK
    obtain ⟨f0, f1, f2, f3, f4, f5⟩ := hf it (by simp)
    exact wpAny_pyNext_range_end (I.ok.hd hc) st (by have : n ≤ i := hg; omega) fun h' eb => ⟨rfl, I.turned (t' := s.toks) (fun b o hb e => eb b o hb e) f0 f1 f3 f4 f5⟩
  self := fun _ _ _ _ _ st h => wpAny_pyIter_rangeiter st h
end L2

namespace L2
open PySem PySem.Spec PyProof.Rows
section
variable {X : Cx} {tg : Expr}
def iList (K : PySem.W.Frag) (tl : TE) : TI := fun σ H R => tl σ H fun x H1 => ∃ a, x = .ref a ∧ (∃ xs, SqL K H1 a xs) ∧ R (Itl K a) H1
theorem pi_list {l : Expr} {tl : TE} (hl : PE X l tl) : PI X tg l (iList X.K tl) := by
  unfold PE at *; unfold PI at *
  exact by
    intro pins s σ H R I h
    refine thn (hl pins s σ H _ I h) fun v s1 ⟨x, H1, I1, r1, q1⟩ => ?_
    obtain ⟨a, e, ⟨xs, hq⟩, q⟩ := q1
    subst e
    cases r1
    obtain ⟨its, rv, p, hz⟩ := I1.list hq
    refine wpAny_pyIter_list p.isList ?_
    refine ⟨s1.heap.objs.size, [s1.heap.objs.size], _, _, H1, rfl, I1.kept (t' := s1.toks) fun b o e => Heap.get?_push_of_some _ e, turn_list a _, ⟨_, Heap.get?_push_size _ rfl, rfl, rfl⟩, fun b hb => ?_, q⟩
    have e : b = s1.heap.objs.size := by simpa using hb
    subst e
    exact I1.fpOk (Nat.le_refl _) (I1.hok.fresh (Nat.le_refl _))

/-- a range object just made, walked -/
theorem range_it {pins : List (Addr × Obj)} {σ : St} {H : Hp} {s : Shared} {R : It → Hp → Prop} {E : Value → Shared → Prop} {lo hi : Int} {t u v : Tok} {tk : Nat} (I : Inv X pins σ H s) (h1 : -(2 ^ 62) ≤ lo) (h2 : lo < 2 ^ 62) (h3 : -(2 ^ 62) ≤ hi) (h4 : hi < 2 ^ 62)
    (q : R (Itr lo (hi - lo).toNat) H) : wpAny (model X.prog X.w) X.A (pyIter (.ref s.heap.objs.size)) (PIE X pins σ tg R) E { s with heap := s.heap.push { cls := .type "range", data := .fields #[.int lo t, .int hi u, .int 1 v] }, toks := tk } := by
  refine wpAny_pyIter_range (IsRange.new ..) (small_one h1 h2 h3 h4) ?_
  have I1 : Inv X pins σ H { s with heap := s.heap.push { cls := .type "range", data := .fields #[.int lo t, .int hi u, .int 1 v] }, toks := tk } := I.kept fun b o e => Heap.get?_push_of_some _ e
  refine ⟨(s.heap.push { cls := .type "range", data := .fields #[.int lo t, .int hi u, .int 1 v] }).objs.size, [(s.heap.push { cls := .type "range", data := .fields #[.int lo t, .int hi u, .int 1 v] }).objs.size], _, _, H, rfl,
    I1.kept (t' := tk) fun b o e => Heap.get?_push_of_some _ e, turn_range _ lo (hi - lo).toNat, ?_, fun b hb => ?_, q⟩
  · have e1 : lo + ((0 : Nat) : Int) * 1 = lo := by simp
    have e2 : (((hi - lo).toNat : Nat) : Int) - ((0 : Nat) : Int) = Builtin.Range.rangeSize lo hi 1 := by rw [rangeSize_one]; split <;> omega
    show IsRangeIter _ _ (lo + ((0 : Nat) : Int) * 1) ((((hi - lo).toNat : Nat) : Int) - ((0 : Nat) : Int)) 1
    rw [e1, e2]
    exact Heap.get?_push_size _ rfl
  · have e : b = (s.heap.push { cls := .type "range", data := .fields #[.int lo t, .int hi u, .int 1 v] }).objs.size := by simpa using hb
    subst e
    exact I1.fpOk (Nat.le_refl _) (I1.hok.fresh (Nat.le_refl _))
def iRng1 (ta : TA) : TI := fun σ H R => ta σ H fun vs H1 => ∃ j : Int, vs = [.int j] ∧ -(2 ^ 62) ≤ j ∧ j < 2 ^ 62 ∧ R (Itr 0 j.toNat) H1
def iRng2 (ta : TA) : TI := fun σ H R => ta σ H fun vs H1 => ∃ i j : Int, vs = [.int i, .int j] ∧ (-(2 ^ 62) ≤ i ∧ i < 2 ^ 62 ∧ -(2 ^ 62) ≤ j ∧ j < 2 ^ 62) ∧ R (Itr i (j - i).toNat) H1
theorem pi_range1 {a : Expr} {ta : TA} {p pos : Pos} (hg : Gl X "range") (hm : X.mg "range" = none) (ha : PA X [a] ta) (hs : starEach [a] X.env = [(false, eval a X.env)] := by rfl) : PI X tg (.Call (.Name "range" p) [a] [] pos) (iRng1 ta) := by
  unfold PA at *; unfold PI at *
  exact by
    intro pins s σ H R I h
    refine Call_ (ld_blt I hg hm boot_range (PyProof.Rows.callWith_type1 (thn (ha pos pins s σ H _ I h) fun us s1 ⟨vs, H1, I1, r1, q1⟩ => ?_) hs rfl))
    obtain ⟨j, e, q1, q2, q⟩ := q1
    subst e
    cases r1 with
    | cons r rr =>
      cases rr
      obtain ⟨t, rfl⟩ := r
      exact call_range_1 (range_it I1 (by omega) (by omega) q1 q2 (by simpa using q))

theorem pi_range2 {a b : Expr} {ta : TA} {p pos : Pos} (hg : Gl X "range") (hm : X.mg "range" = none) (ha : PA X [a, b] ta) (hs : starEach [a, b] X.env = [(false, eval a X.env), (false, eval b X.env)] := by rfl) (hs2 : starEach [b] X.env = [(false, eval b X.env)] := by rfl) :
    PI X tg (.Call (.Name "range" p) [a, b] [] pos) (iRng2 ta) := by
  unfold PA at *; unfold PI at *
  exact by
    intro pins s σ H R I h
    refine Call_ (ld_blt I hg hm boot_range (PyProof.Rows.callWith_type1 (thn (ha pos pins s σ H _ I h) fun us s1 ⟨vs, H1, I1, r1, q1⟩ => ?_) (by rw [hs, hs2]) (by rw [hs2]; rfl)))
    obtain ⟨i, j, e, ⟨q1, q2, q3, q4⟩, q⟩ := q1
    subst e
    cases r1 with
    | cons r rr =>
      cases rr with
      | cons r' rr =>
        cases rr
        obtain ⟨t, rfl⟩ := r
        obtain ⟨t', rfl⟩ := r'
        exact call_range_2 (range_it I1 q1 q2 q3 q4 q)

/-! ### for -/
/-- W: the invariant by the turn and a measure; N: what the body is to reach -/
def tFor (wi : TI) (g : TG) (tb : TS) : TS := fun D σ H => wi σ H fun J H1 => ∃ W : Nat → Nat → St → Hp → Prop, (∃ m, W 0 m σ H1) ∧ ∀ i m σ H, W i m σ H →
  (J.stop i H ∧ D.nx σ H) ∨ (J.go i H ∧ ∃ N : St → Hp → Prop, (∀ σ' H', N σ' H' → ∃ m', m' < m ∧ W (i + 1) m' σ' H') ∧ ∀ x H', J.yld i H x H' → g x σ H' fun σ2 H2 => tb { D with nx := N, ct := N, bk := D.nx } σ2 H2)
/-- the records at fp as they stand -/
def pinsAt (fp : List Addr) (h : Heap) : List (Addr × Obj) := fp.filterMap fun b => (h.get? b).map fun o => (b, o)
theorem mem_pinsAt {fp : List Addr} {h : Heap} {b : Addr} {o : Obj} (hb : b ∈ fp) (e : h.get? b = some o) : (b, o) ∈ pinsAt fp h := List.mem_filterMap.mpr ⟨b, hb, by rw [e]; rfl⟩
theorem of_pinsAt {fp : List Addr} {h : Heap} {p : Addr × Obj} (hp : p ∈ pinsAt fp h) : p.1 ∈ fp ∧ h.get? p.1 = some p.2 := by
  obtain ⟨b, hb, e⟩ := List.mem_filterMap.mp hp
  cases q : h.get? b with
  | none => rw [q] at e; cases e
  | some o =>
    rw [q] at e
    have e' : (b, o) = p := Option.some.inj e
    subst e'
    exact ⟨hb, q⟩
theorem Inv.pinned {pins : List (Addr × Obj)} {σ : St} {H : Hp} {s : Shared} {fp : List Addr} (I : Inv X pins σ H s) (hf : ∀ b ∈ fp, FpOk X pins H b) (ho : ∀ b ∈ fp, ∃ o, s.heap.get? b = some o ∧ ∀ v, o.data ≠ .cell v) : Inv X (pins ++ pinsAt fp s.heap) σ H s :=
  I.pins_of fun p hp => (List.mem_append.mp hp).elim (fun z => I.pin p (List.mem_append_right _ z)) fun z => by
    obtain ⟨hb, e⟩ := of_pinsAt z
    obtain ⟨f0, f1, f2, _⟩ := hf p.1 hb
    obtain ⟨o, e', d⟩ := ho p.1 hb
    rw [e] at e'; cases e'
    exact ⟨e, f0, f1, f2, d⟩
theorem Inv.unpinned {pins pl : List (Addr × Obj)} {σ : St} {H : Hp} {s : Shared} (I : Inv X (pins ++ pl) σ H s) : Inv X pins σ H s := I.pins_of fun p hp => I.pin p (List.mem_append_right _ (List.mem_append_left _ hp))
theorem ps_for {iter : Expr} {body : List Stmt} {wi : TI} {g : TG} {tb : TS} {pos : Pos} (hp : PassesOwn (model X.prog X.w) X.A X.env X.xe) (hc : X.calm = true) (hi : PI X tg iter wi) (hg : PG X tg g) (hb : PSs X body tb)
    (hs : ∀ x, foldedSetIterable iter X.env x = pure x := by intro _; rfl) : PS X (.For tg iter body [] pos) (tFor wi g tb) := by
  unfold PS at *; unfold PSs at *; unfold PG at *; unfold PI at *
  exact by
    intro pins s σ H D I h
    refine wpAny_For (thn (hi pins s σ H _ I h) fun v s1 h1 => thn h1 fun itv s2 h2 => ?_) hs
    obtain ⟨it, fp, tn, J, H2, e, I2, T, st2, f2, W, ⟨m0, w0⟩, turn⟩ := h2
    subst e
    -- what stays true of the iterator's objects through the loop
    have stat : ∀ {H' : Hp}, (∀ b ∈ fp, H' b = none) → ∀ b ∈ fp, FpOk X pins H' b := fun hn b hb => ⟨hn b hb, (f2 b hb).2⟩
    refine codeAny_forLoop_any (fun n s' => ∃ i σ' H', Inv X pins σ' H' s' ∧ tn i s'.heap ∧ (∀ b ∈ fp, H' b = none) ∧ W i n σ' H') ?_ m0 ⟨0, σ, H2, I2, st2, fun b hb => (f2 b hb).1, w0⟩
    rintro n s3 ⟨i, σ3, H3, I3, st3, fr3, w3⟩
    rcases turn i n σ3 H3 w3 with ⟨stop, qn⟩ | ⟨go, N, hN, step⟩
    · refine wpAny_passesOwn hp (thn (T.done X rfl rfl rfl hc i pins s3 σ3 H3 X.xe I3 (stat fr3) st3 stop) fun r s4 ⟨hr, I4⟩ => ?_)
      subst hr
      exact wpAny_execs_nil ⟨σ3, H3, I4, qn⟩
    · refine wpAny_passesOwn hp (thn (T.item X rfl rfl rfl hc i pins s3 σ3 H3 X.xe I3 (stat fr3) st3 go) fun r s4 ⟨u, hr, h4⟩ => ?_)
      subst hr
      refine wpAny_passesOwn hp (thn h4 fun _ s5 ⟨x, H5, I5, r5, y5, st5, fr5⟩ => ?_)
      have I5' := I5.pinned (stat fr5) (T.obj _ _ st5)
      refine wpAny_passesOwn hp (thn (hg _ s5 σ3 H5 x u _ I5' r5 (step x H5 y5)) fun _ s6 ⟨σ6, H6, I6, q6⟩ => ?_)
      refine wpAny_passesOwn hp (thn (hb _ s6 σ6 H6 _ I6 q6) fun f s7 q7 => ?_)
      have again : ∀ {σ7 : St} {H7 : Hp}, Inv X (pins ++ pinsAt fp s5.heap) σ7 H7 s7 → N σ7 H7 → ∃ m, m < n ∧ ∃ i σ' H', Inv X pins σ' H' s7 ∧ tn i s7.heap ∧ (∀ b ∈ fp, H' b = none) ∧ W i m σ' H' := fun {σ7 H7} I7 n7 => by
        obtain ⟨m', hm, w7⟩ := hN σ7 H7 n7
        refine ⟨m', hm, i + 1, σ7, H7, I7.unpinned, T.keep _ _ _ st5 fun b hb o e => (I7.pin (b, o) (List.mem_append_right _ (List.mem_append_right _ (mem_pinsAt hb e)))).1, fun b hb => ?_, w7⟩
        obtain ⟨o, e, d⟩ := T.obj _ _ st5 b hb
        exact (I7.pin (b, o) (List.mem_append_right _ (List.mem_append_right _ (mem_pinsAt hb e)))).2.1
      cases f with
      | next => obtain ⟨σ7, H7, I7, n7⟩ := q7; exact again I7 n7
      | cont => obtain ⟨σ7, H7, I7, n7⟩ := q7; exact again I7 n7
      | brk => obtain ⟨σ7, H7, I7, q7⟩ := q7; exact ⟨σ7, H7, I7.unpinned, q7⟩
      | ret v => obtain ⟨x7, σ7, H7, I7, r7, q7⟩ := q7; exact ⟨x7, σ7, H7, I7.unpinned, r7, q7⟩

end

/-! ### the forms one uses -/
/-- over a list that the body leaves as it is -/
theorem for_list {K : PySem.W.Frag} {a : Addr} {xs : List V} {g : TG} {tb : TS} {D : Ends} {σ : St} {H : Hp} (Pv : Nat → St → Hp → Prop) (h0 : Pv 0 σ H) (hl : ∀ i σ H, i ≤ xs.length → Pv i σ H → SqL K H a xs)
    (hs : ∀ i x σ H, xs[i]? = some x → Pv i σ H → g x σ H fun σ2 H2 => tb { D with nx := Pv (i + 1), ct := Pv (i + 1), bk := D.nx } σ2 H2) (hd : ∀ σ H, Pv xs.length σ H → D.nx σ H) :
    ∃ W : Nat → Nat → St → Hp → Prop, (∃ m, W 0 m σ H) ∧ ∀ i m σ H, W i m σ H →
      ((Itl K a).stop i H ∧ D.nx σ H) ∨ ((Itl K a).go i H ∧ ∃ N : St → Hp → Prop, (∀ σ' H', N σ' H' → ∃ m', m' < m ∧ W (i + 1) m' σ' H') ∧ ∀ x H', (Itl K a).yld i H x H' → g x σ H' fun σ2 H2 => tb { D with nx := N, ct := N, bk := D.nx } σ2 H2) := by
  refine ⟨fun i m σ H => m = xs.length - i ∧ i ≤ xs.length ∧ Pv i σ H, ⟨xs.length, by simp, Nat.zero_le _, h0⟩, ?_⟩
  rintro i m σ H ⟨rfl, hi, p⟩
  have q := hl i σ H hi p
  by_cases hlt : i < xs.length
  · refine .inr ⟨⟨xs, xs[i], q, by simp [hlt]⟩, Pv (i + 1), fun σ' H' p' => ⟨xs.length - (i + 1), by omega, rfl, hlt, p'⟩, fun x H' y => ?_⟩
    obtain ⟨e, y⟩ := y
    subst e
    exact hs i x σ _ (y xs q) p
  · have e : i = xs.length := by omega
    subst e
    exact .inl ⟨⟨xs, q, Nat.le_refl _⟩, hd σ H p⟩
theorem for_range {lo : Int} {n : Nat} {g : TG} {tb : TS} {D : Ends} {σ : St} {H : Hp} (Pv : Nat → St → Hp → Prop) (h0 : Pv 0 σ H)
    (hs : ∀ i σ H, i < n → Pv i σ H → g (.int (lo + i)) σ H fun σ2 H2 => tb { D with nx := Pv (i + 1), ct := Pv (i + 1), bk := D.nx } σ2 H2) (hd : ∀ σ H, Pv n σ H → D.nx σ H) :
    ∃ W : Nat → Nat → St → Hp → Prop, (∃ m, W 0 m σ H) ∧ ∀ i m σ H, W i m σ H →
      ((Itr lo n).stop i H ∧ D.nx σ H) ∨ ((Itr lo n).go i H ∧ ∃ N : St → Hp → Prop, (∀ σ' H', N σ' H' → ∃ m', m' < m ∧ W (i + 1) m' σ' H') ∧ ∀ x H', (Itr lo n).yld i H x H' → g x σ H' fun σ2 H2 => tb { D with nx := N, ct := N, bk := D.nx } σ2 H2) := by
  refine ⟨fun i m σ H => m = n - i ∧ i ≤ n ∧ Pv i σ H, ⟨n, by simp, Nat.zero_le _, h0⟩, ?_⟩
  rintro i m σ H ⟨rfl, hi, p⟩
  by_cases hlt : i < n
  · refine .inr ⟨hlt, Pv (i + 1), fun σ' H' p' => ⟨n - (i + 1), by omega, rfl, hlt, p'⟩, fun x H' y => ?_⟩
    obtain ⟨e, y⟩ := y
    subst e y
    exact hs i σ _ hlt p
  · have e : i = n := by omega
    subst e
    exact .inl ⟨Nat.le_refl _, hd σ H p⟩
end L2

namespace L2
open PySem PySem.Spec PyProof.Rows

abbrev R2 := V → V → Hp → VK → Prop
/-- a two-place operation on values: f is binaryOp op, inplaceOp op or compareOp op -/
@[irreducible] def OpR (X : Cx) (f : Value → Value → Sem Value) (r : R2) : Prop :=
  ∀ (pins : List (Addr × Obj)) (s : Shared) (σ : St) (H : Hp) (x y : V) (v u : Value) (Q : VK), Inv X pins σ H s → RelV x v → RelV y u → r x y H Q →
    wpAny (model X.prog X.w) X.A (f v u) (EP X pins σ Q) X.xe s
/-- a one-place operation -/
@[irreducible] def UnR (X : Cx) (f : Value → Sem Value) (r : V → Hp → VK → Prop) : Prop :=
  ∀ (pins : List (Addr × Obj)) (s : Shared) (σ : St) (H : Hp) (x : V) (v : Value) (Q : VK), Inv X pins σ H s → RelV x v → r x H Q →
    wpAny (model X.prog X.w) X.A (f v) (EP X pins σ Q) X.xe s
/-- a call of a value that is known (a builtin, a type) with values -/
@[irreducible] def CallR (X : Cx) (f : Value) (r : List V → Hp → VK → Prop) : Prop :=
  ∀ (pins : List (Addr × Obj)) (s : Shared) (σ : St) (H : Hp) (xs : List V) (us : List Value) (Q : VK), Inv X pins σ H s → Vals xs us → r xs H Q →
    wpAny (model X.prog X.w) X.A (call f us) (EP X pins σ Q) X.xe s
/-- a value's truth -/
@[irreducible] def TruR (X : Cx) (r : V → Hp → (Bool → Hp → Prop) → Prop) : Prop :=
  ∀ (pins : List (Addr × Obj)) (s : Shared) (σ : St) (H : Hp) (x : V) (v : Value) (Q : Bool → Hp → Prop), Inv X pins σ H s → RelV x v → r x H Q →
    wpAny (model X.prog X.w) X.A (truthy v) (TP X pins σ Q) X.xe s

def tOp (r : R2) (ta tb : TE) : TE := fun σ H Q => ta σ H fun x H1 => tb σ H1 fun y H2 => r x y H2 Q
def tUn (r : V → Hp → VK → Prop) (ta : TE) : TE := fun σ H Q => ta σ H fun x H1 => r x H1 Q
/-- ints in, under C, and a value out -/
def rI (C : Int → Int → Prop) (g : Int → Int → V) : R2 := fun x y H Q => ∃ i j, x = .int i ∧ y = .int j ∧ C i j ∧ Q (g i j) H
def rI0 (g : Int → Int → V) : R2 := fun x y H Q => ∃ i j, x = .int i ∧ y = .int j ∧ Q (g i j) H
def rU (g : Int → V) : V → Hp → VK → Prop := fun x H Q => ∃ i, x = .int i ∧ Q (g i) H

section
variable {X : Cx} {a b c : Expr} {ta tb tc : TE} {pos : Pos}

theorem binT (ha : PE X a ta) (hb : PE X b tb) {pins : List (Addr × Obj)} {s : Shared} {σ : St} {H : Hp} {R : V → V → Hp → Prop} (I : Inv X pins σ H s)
    (h : ta σ H fun x H1 => tb σ H1 fun y H2 => R x y H2) {Q : Value → Shared → Prop} {f : Value → Value → Sem Value}
    (hf : ∀ v u s2 x y H2, Inv X pins σ H2 s2 → RelV x v → RelV y u → R x y H2 → wpAny (model X.prog X.w) X.A (f v u) Q X.xe s2) :
    wpAny (model X.prog X.w) X.A (eval a X.env) (fun v s₁ => wpAny (model X.prog X.w) X.A (eval b X.env) (fun u s₂ => wpAny (model X.prog X.w) X.A (f v u) Q X.xe s₂) X.xe s₁) X.xe s := by
  unfold PE at *
  exact by
    refine thn (ha pins s σ H _ I h) fun v s1 ⟨x, H1, I1, r1, q1⟩ => ?_
    refine thn (hb pins s1 σ H1 _ I1 q1) fun u s2 ⟨y, H2, I2, r2, q2⟩ => ?_
    exact hf v u s2 x y H2 I2 r1 r2 q2

theorem pe_op {op : Operator} {r : R2} (ho : OpR X (binaryOp op) r) (ha : PE X a ta) (hb : PE X b tb) : PE X (.BinOp a op b pos) (tOp r ta tb) := by
  unfold PE; unfold OpR at ho
  exact by
    intro pins s σ H Q I h
    exact wpAny_BinOp (binT ha hb I h fun v u s2 x y H2 I2 rx ry q => ho pins s2 σ H2 x y v u Q I2 rx ry q)

theorem pe_un {op : UnaryOp} {r : V → Hp → VK → Prop} (ho : UnR X (unaryOp op) r) (ha : PE X a ta) : PE X (.UnaryOp op a pos) (tUn r ta) := by
  unfold PE at *; unfold UnR at *
  exact by
    intro pins s σ H Q I h
    exact UnaryOp_ (thn (ha pins s σ H _ I h) fun v s1 ⟨x, H1, I1, r1, q1⟩ => ho pins s1 σ H1 x v Q I1 r1 q1)

/-! ### ints -/
theorem opI {f : Value → Value → Sem Value} {C : Int → Int → Prop} {g : Int → Int → Int}
    (rule : ∀ (i j : Int) (t u : Tok) (s : Shared) (Q : Value → Shared → Prop) (E : Value → Shared → Prop), C i j → Q (.int (g i j) s.toks) { s with toks := s.toks + 1 } → wpAny (model X.prog X.w) X.A (f (.int i t) (.int j u)) Q E s) :
    OpR X f (rI C fun i j => .int (g i j)) := by
  unfold OpR at *
  exact by
    intro pins s σ H x y v u Q I rx ry h
    obtain ⟨i, j, rfl, rfl, hc, q⟩ := h
    obtain ⟨t, rfl⟩ := rx
    obtain ⟨t', rfl⟩ := ry
    exact rule i j t t' s _ _ hc ⟨.int (g i j), H, I.tok _, ⟨_, rfl⟩, q⟩

theorem opI0 {f : Value → Value → Sem Value} {g : Int → Int → Int}
    (rule : ∀ (i j : Int) (t u : Tok) (s : Shared) (Q : Value → Shared → Prop) (E : Value → Shared → Prop), Q (.int (g i j) s.toks) { s with toks := s.toks + 1 } → wpAny (model X.prog X.w) X.A (f (.int i t) (.int j u)) Q E s) :
    OpR X f (rI0 fun i j => .int (g i j)) := by
  unfold OpR at *
  exact by
    intro pins s σ H x y v u Q I rx ry h
    obtain ⟨i, j, rfl, rfl, q⟩ := h
    obtain ⟨t, rfl⟩ := rx
    obtain ⟨t', rfl⟩ := ry
    exact rule i j t t' s _ _ ⟨.int (g i j), H, I.tok _, ⟨_, rfl⟩, q⟩

theorem opB0 {f : Value → Value → Sem Value} {g : Int → Int → Bool}
    (rule : ∀ (i j : Int) (t u : Tok) (s : Shared) (Q : Value → Shared → Prop) (E : Value → Shared → Prop), Q (.bool (g i j)) s → wpAny (model X.prog X.w) X.A (f (.int i t) (.int j u)) Q E s) :
    OpR X f (rI0 fun i j => .bl (g i j)) := by
  unfold OpR at *
  exact by
    intro pins s σ H x y v u Q I rx ry h
    obtain ⟨i, j, rfl, rfl, q⟩ := h
    obtain ⟨t, rfl⟩ := rx
    obtain ⟨t', rfl⟩ := ry
    exact rule i j t t' s _ _ ⟨.bl (g i j), H, I, rfl, q⟩

def CDiv (i j : Int) : Prop := 0 < j ∧ j < 1073741824
def CPow (i j : Int) : Prop := 0 ≤ j ∧ j ≤ 1000000 ∧ i.natAbs < 2 ^ 64
def CMul (i j : Int) : Prop := (-(2 ^ 64) < i ∧ i < 2 ^ 64) ∨ (-(2 ^ 64) < j ∧ j < 2 ^ 64)
theorem CMul.ok {i j : Int} (h : CMul i j) : IntMulOk i j := by
  rcases h with ⟨h1, h2⟩ | ⟨h1, h2⟩
  · exact .of_left (intBits_le_64 h1 h2)
  · exact .of_right (intBits_le_64 h1 h2)
theorem op_add : OpR X (binaryOp .Add) (rI0 fun i j => .int (i + j)) := by
  first
  | exact (opI0 fun _ _ _ _ _ _ _ q => add_int q)
  | (unfold OpR at *; exact (opI0 fun _ _ _ _ _ _ _ q => add_int q))

theorem op_mul : OpR X (binaryOp .Mult) (rI CMul fun i j => .int (i * j)) := by
  first
  | exact (opI fun _ _ _ _ _ _ _ hc q => mul_int q hc.ok)
  | (unfold OpR at *; exact (opI fun _ _ _ _ _ _ _ hc q => mul_int q hc.ok))

/-- // by a positive divisor -/
theorem op_fdiv : OpR X (binaryOp .FloorDiv) (rI CDiv fun i j => .int (i / j)) := opI fun i j _ _ _ _ _ hc q => by
  have h1 : (0 : Int) < j := hc.1
  have h2 : j < 1073741824 := hc.2
  exact floordiv_int (by omega) (by rw [Int.fdiv_eq_ediv_of_nonneg i (by omega)]; exact q) (.inl (PyProof.noPylong_small (by omega)))
/-- % by a positive divisor of any size -/
theorem op_mod : OpR X (binaryOp .Mod) (rI (fun _ j => 0 < j) fun i j => .int (i % j)) := opI fun i j _ _ _ _ _ hc q => by
  have h1 : (0 : Int) < j := hc
  exact mod_int' (by omega) (by rw [Int.fmod_eq_emod_of_nonneg i (by omega)]; exact q)
theorem op_pow : OpR X (binaryOp .Pow) (rI CPow fun i j => .int (i ^ j.toNat)) := by
  first
  | exact (opI fun _ _ _ _ _ _ _ hc q => pow_int_small hc.1 hc.2.1 hc.2.2 q)
  | (unfold OpR at *; exact (opI fun _ _ _ _ _ _ _ hc q => pow_int_small hc.1 hc.2.1 hc.2.2 q))

theorem unI {f : Value → Sem Value} {g : Int → Int}
    (rule : ∀ (i : Int) (t : Tok) (s : Shared) (Q : Value → Shared → Prop) (E : Value → Shared → Prop), Q (.int (g i) s.toks) { s with toks := s.toks + 1 } → wpAny (model X.prog X.w) X.A (f (.int i t)) Q E s) :
    UnR X f (rU fun i => .int (g i)) := by
  unfold UnR at *
  exact by
    intro pins s σ H x v Q I rx h
    obtain ⟨i, rfl, q⟩ := h
    obtain ⟨t, rfl⟩ := rx
    exact rule i t s _ _ ⟨.int (g i), H, I.tok _, ⟨_, rfl⟩, q⟩

theorem un_neg : UnR X (unaryOp .USub) (rU fun i => .int (-i)) := by
  first
  | exact (unI fun _ _ _ _ _ q => neg_int q)
  | (unfold UnR at *; exact (unI fun _ _ _ _ _ q => neg_int q))

/-! ### bools among ints: n += (a < b) -/
end

/-! ### comparisons -/
/-- the scalars that == tells apart as data does -/
def scal : V → V → Bool
  | .non, .non => true | .non, .int _ => true | .int _, .non => true | .non, .bl _ => true | .bl _, .non => true | .non, .str _ => true | .str _, .non => true
  | .int _, .int _ => true | .bl _, .bl _ => true | .str _, .str _ => true | .byt _, .byt _ => true
  | .int _, .str _ => true | .str _, .int _ => true | .bl _, .str _ => true | .str _, .bl _ => true
  | _, _ => false
def rEq : R2 := fun x y H Q => scal x y = true ∧ Q (.bl (decide (x = y))) H
def rNe : R2 := fun x y H Q => scal x y = true ∧ Q (.bl (!decide (x = y))) H

theorem dec_int {i j : Int} : decide (V.int i = V.int j) = (i == j) := by
  rw [Bool.eq_iff_iff]
  simp
theorem dec_bl {i j : Bool} : decide (V.bl i = V.bl j) = (i == j) := by
  rw [Bool.eq_iff_iff]
  simp
theorem dec_str {i j : Str} : decide (V.str i = V.str j) = (i == j) := by
  rw [Bool.eq_iff_iff]
  simp
theorem dec_byt {i j : Array UInt8} : decide (V.byt i = V.byt j) = (i.toList == j.toList) := by
  rw [Bool.eq_iff_iff]
  cases i
  cases j
  simp

section
variable {X : Cx} {a b c : Expr} {ta tb tc : TE} {pos : Pos}
theorem fin_bl {pins : List (Addr × Obj)} {σ : St} {H : Hp} {s : Shared} {Q : VK} {k k' : Bool} (I : Inv X pins σ H s) (q : Q (.bl k) H) (e : k = k') : EP X pins σ Q (.bool k') s := by
  subst e
  exact ⟨.bl k, H, I, rfl, q⟩
theorem op_eq : OpR X (compareOp .Eq) rEq := by
  unfold OpR at *
  exact by
    intro pins s σ H x y v u Q I rx ry h
    obtain ⟨hs, q⟩ := h
    cases x with
    | non =>
      cases rx
      cases y with
      | non => cases ry; exact PySem.EqNone.eq_none_none (fin_bl I q (by simp))
      | bl j => cases ry; exact PySem.EqNone.eq_none_bool (fin_bl I q (by simp))
      | int j => obtain ⟨t', rfl⟩ := ry; exact PySem.EqNone.eq_none_int (fin_bl I q (by simp))
      | str j => obtain ⟨t', rfl⟩ := ry; exact PySem.EqNone.eq_none_str (fin_bl I q (by simp))
      | _ => exact absurd (show false = true from hs) Bool.false_ne_true
    | bl i =>
      cases rx
      cases y with
      | non => cases ry; exact PySem.EqNone.eq_bool_none (fin_bl I q (by simp))
      | bl j => cases ry; exact eq_bool (fin_bl I q dec_bl)
      | str j => obtain ⟨t', rfl⟩ := ry; exact PySem.EqMixed.eq_bool_str (fin_bl I q (by simp))
      | _ => exact absurd (show false = true from hs) Bool.false_ne_true
    | int i =>
      obtain ⟨t, rfl⟩ := rx
      cases y with
      | non => cases ry; exact PySem.EqNone.eq_int_none (fin_bl I q (by simp))
      | int j => obtain ⟨t', rfl⟩ := ry; exact eq_int (fin_bl I q dec_int)
      | str j => obtain ⟨t', rfl⟩ := ry; exact PySem.EqMixed.eq_int_str (fin_bl I q (by simp))
      | _ => exact absurd (show false = true from hs) Bool.false_ne_true
    | str i =>
      obtain ⟨t, rfl⟩ := rx
      cases y with
      | non => cases ry; exact PySem.EqNone.eq_str_none (fin_bl I q (by simp))
      | bl j => cases ry; exact PySem.EqMixed.eq_str_bool (fin_bl I q (by simp))
      | int j => obtain ⟨t', rfl⟩ := ry; exact PySem.EqMixed.eq_str_int (fin_bl I q (by simp))
      | str j => obtain ⟨t', rfl⟩ := ry; exact eq_str (fin_bl I q dec_str)
      | _ => exact absurd (show false = true from hs) Bool.false_ne_true
    | byt i =>
      obtain ⟨t, rfl⟩ := rx
      cases y with
      | byt j => obtain ⟨t', rfl⟩ := ry; exact PySem.W.eq_bytes (fin_bl I q dec_byt)
      | _ => exact absurd (show false = true from hs) Bool.false_ne_true
    | _ => cases y <;> exact absurd (show false = true from hs) Bool.false_ne_true

theorem op_ne : OpR X (compareOp .NotEq) rNe := by
  unfold OpR at *
  exact by
    intro pins s σ H x y v u Q I rx ry h
    obtain ⟨hs, q⟩ := h
    cases x with
    | non =>
      cases rx
      cases y with
      | non => cases ry; exact PySem.EqNone.ne_none_none (fin_bl I q (by simp))
      | bl j => cases ry; exact PySem.EqNone.ne_none_bool (fin_bl I q (by simp))
      | int j => obtain ⟨t', rfl⟩ := ry; exact PySem.EqNone.ne_none_int (fin_bl I q (by simp))
      | str j => obtain ⟨t', rfl⟩ := ry; exact PySem.EqNone.ne_none_str (fin_bl I q (by simp))
      | _ => exact absurd (show false = true from hs) Bool.false_ne_true
    | bl i =>
      cases rx
      cases y with
      | non => cases ry; exact PySem.EqNone.ne_bool_none (fin_bl I q (by simp))
      | bl j => cases ry; exact ne_bool (fin_bl I q (congrArg not dec_bl))
      | str j => obtain ⟨t', rfl⟩ := ry; exact PySem.EqMixed.ne_bool_str (fin_bl I q (by simp))
      | _ => exact absurd (show false = true from hs) Bool.false_ne_true
    | int i =>
      obtain ⟨t, rfl⟩ := rx
      cases y with
      | non => cases ry; exact PySem.EqNone.ne_int_none (fin_bl I q (by simp))
      | int j => obtain ⟨t', rfl⟩ := ry; exact ne_int (fin_bl I q (congrArg not dec_int))
      | str j => obtain ⟨t', rfl⟩ := ry; exact PySem.EqMixed.ne_int_str (fin_bl I q (by simp))
      | _ => exact absurd (show false = true from hs) Bool.false_ne_true
    | str i =>
      obtain ⟨t, rfl⟩ := rx
      cases y with
      | non => cases ry; exact PySem.EqNone.ne_str_none (fin_bl I q (by simp))
      | bl j => cases ry; exact PySem.EqMixed.ne_str_bool (fin_bl I q (by simp))
      | int j => obtain ⟨t', rfl⟩ := ry; exact PySem.EqMixed.ne_str_int (fin_bl I q (by simp))
      | str j => obtain ⟨t', rfl⟩ := ry; exact ne_str (fin_bl I q (congrArg not dec_str))
      | _ => exact absurd (show false = true from hs) Bool.false_ne_true
    | byt i =>
      obtain ⟨t, rfl⟩ := rx
      cases y with
      | byt j => obtain ⟨t', rfl⟩ := ry; exact PySem.W.ne_bytes (fin_bl I q (congrArg not dec_byt))
      | _ => exact absurd (show false = true from hs) Bool.false_ne_true
    | _ => cases y <;> exact absurd (show false = true from hs) Bool.false_ne_true

theorem op_lt : OpR X (compareOp .Lt) (rI0 fun i j => .bl (decide (i < j))) := by
  first
  | exact (opB0 fun _ _ _ _ _ _ _ q => lt_int q)
  | (unfold OpR at *; exact (opB0 fun _ _ _ _ _ _ _ q => lt_int q))

theorem op_le : OpR X (compareOp .LtE) (rI0 fun i j => .bl (decide (i ≤ j))) := by
  first
  | exact (opB0 fun _ _ _ _ _ _ _ q => le_int q)
  | (unfold OpR at *; exact (opB0 fun _ _ _ _ _ _ _ q => le_int q))

theorem op_gt : OpR X (compareOp .Gt) (rI0 fun i j => .bl (decide (j < i))) := by
  first
  | exact (opB0 fun _ _ _ _ _ _ _ q => gt_int q)
  | (unfold OpR at *; exact (opB0 fun _ _ _ _ _ _ _ q => gt_int q))

theorem op_ge : OpR X (compareOp .GtE) (rI0 fun i j => .bl (decide (j ≤ i))) := by
  first
  | exact (opB0 fun _ _ _ _ _ _ _ q => ge_int q)
  | (unfold OpR at *; exact (opB0 fun _ _ _ _ _ _ _ q => ge_int q))

/-- two rules for one operation: by cases -/
theorem OpR.or {f : Value → Value → Sem Value} {r r' : R2} (h : OpR X f r) (h' : OpR X f r') : OpR X f (fun x y H Q => r x y H Q ∨ r' x y H Q) := by
  unfold OpR at *
  exact by
    intro pins s σ H x y v u Q I rx ry q
    rcases q with q | q
    · exact h pins s σ H x y v u Q I rx ry q
    · exact h' pins s σ H x y v u Q I rx ry q

theorem nomark (b : Expr) {op : CmpOp} (h : op ≠ .In := by decide) (h2 : op ≠ .NotIn := by decide) : behindInMarks op b = false := by
  have e1 : (op == CmpOp.In) = false := by cases op <;> first | rfl | exact absurd rfl h
  have e2 : (op == CmpOp.NotIn) = false := by cases op <;> first | rfl | exact absurd rfl h2
  cases b <;> simp [behindInMarks, e1, e2]
/-- a comparison as a value; hm: nomark b, or (for in, not in) by with_unfolding_all rfl -/
theorem pe_cmpR {op : CmpOp} {r : R2} (ho : OpR X (compareOp op) r) (ha : PE X a ta) (hb : PE X b tb) (hm : behindInMarks op b = false) : PE X (.Compare a [op] [b] pos) (tOp r ta tb) := by
  unfold PE; unfold OpR at ho
  exact by
    intro pins s σ H Q I h
    exact wpAny_Compare1 (binT ha hb I h fun v u s2 x y H2 I2 rx ry q => ho pins s2 σ H2 x y v u Q I2 rx ry q) hm

/-- a reading of a value as a test -/
def tTest (t : TE) : TT := fun σ H Q => t σ H fun x H' => ∃ k, x = .bl k ∧ Q k H'
theorem pt_cmpR {op : CmpOp} {r : R2} (ho : OpR X (compareOp op) r) (ha : PE X a ta) (hb : PE X b tb) (hm : behindInMarks op b = false) : PT X (.Compare a [op] [b] pos) (tTest (tOp r ta tb)) := by
  unfold PE at *; unfold PT at *; unfold OpR at *
  exact by
    intro pins s σ H Q I h
    refine wpAny_isTrue_Compare1 (thn (ha pins s σ H _ I h) fun v s1 ⟨x, H1, I1, r1, q1⟩ => thn (hb pins s1 σ H1 _ I1 q1) fun u s2 ⟨y, H2, I2, r2, q2⟩ =>
      thn (ho pins s2 σ H2 x y v u _ I2 r1 r2 q2) fun c s3 ⟨z, H3, I3, r3, k, e, q3⟩ => ?_) hm
    subst e
    cases r3
    exact wpAny_truthy_bool ⟨H3, I3, q3⟩

/-- a op1 b op2 c -/
def tChain (r r' : R2) (ta tb tc : TE) : TE := fun σ H Q => ta σ H fun x H1 => tb σ H1 fun y H2 => r x y H2 fun z H3 => ∃ k, z = .bl k ∧
  (if k = true then tc σ H3 fun w' H4 => r' y w' H4 Q else Q (.bl false) H3)
theorem pe_chain {op op' : CmpOp} {r r' : R2} (ho : OpR X (compareOp op) r) (ho' : OpR X (compareOp op') r') (ha : PE X a ta) (hb : PE X b tb) (hc : PE X c tc)
    (hm : lastMarks [op, op'] [b, c] = false := by with_unfolding_all rfl) : PE X (.Compare a [op, op'] [b, c] pos) (tChain r r' ta tb tc) := by
  unfold PE at *; unfold OpR at *
  exact by
    intro pins s σ H Q I h
    refine Compare_chain (thn (ha pins s σ H _ I h) fun v s1 ⟨x, H1, I1, r1, q1⟩ => chain_link (thn (hb pins s1 σ H1 _ I1 q1) fun u s2 ⟨y, H2, I2, r2, q2⟩ =>
      thn (ho pins s2 σ H2 x y v u _ I2 r1 r2 q2) fun d s3 ⟨z, H3, I3, r3, k, e, q3⟩ => ?_)) hm
    subst e
    cases r3
    refine wpAny_truthy_bool ?_
    cases k with
    | false => exact ite_ff ⟨.bl false, H3, I3, rfl, q3⟩
    | true => exact ite_tt (chain_last (thn (hc pins s3 σ H3 _ I3 q3) fun w' s4 ⟨z', H4, I4, r4, q4⟩ => ho' pins s4 σ H4 y z' u w' Q I4 r2 r4 q4))

theorem pt_chain {op op' : CmpOp} {r r' : R2} (ho : OpR X (compareOp op) r) (ho' : OpR X (compareOp op') r') (ha : PE X a ta) (hb : PE X b tb) (hc : PE X c tc)
    (hm : lastMarks [op, op'] [b, c] = false := by with_unfolding_all rfl) : PT X (.Compare a [op, op'] [b, c] pos) (tTest (tChain r r' ta tb tc)) := by
  unfold PE at *; unfold PT at *; unfold OpR at *
  exact by
    intro pins s σ H Q I h
    refine isTrue_chain (thn (ha pins s σ H _ I h) fun v s1 ⟨x, H1, I1, r1, q1⟩ => test_link (thn (hb pins s1 σ H1 _ I1 q1) fun u s2 ⟨y, H2, I2, r2, q2⟩ =>
      thn (ho pins s2 σ H2 x y v u _ I2 r1 r2 q2) fun d s3 ⟨z, H3, I3, r3, k, e, q3⟩ => ?_)) hm
    subst e
    cases r3
    refine wpAny_truthy_bool ?_
    cases k with
    | false =>
      obtain ⟨k', e', q'⟩ := q3
      cases e'
      exact ite_ff ⟨H3, I3, q'⟩
    | true =>
      refine ite_tt (test_last (thn (hc pins s3 σ H3 _ I3 q3) fun w' s4 ⟨z', H4, I4, r4, q4⟩ => thn (ho' pins s4 σ H4 y z' u w' _ I4 r2 r4 q4) fun d' s5 ⟨z2, H5, I5, r5, k2, e2, q5⟩ => ?_))
      subst e2
      cases r5
      exact wpAny_truthy_bool ⟨H5, I5, q5⟩

/-! ### truth -/
/-- a value's truth by the abstract heap -/
def TruV (K : PySem.W.Frag) (x : V) (H : Hp) (k : Bool) : Prop :=
  match x with
  | .non => k = false
  | .bl b => k = b
  | .int i => k = (i != 0)
  | .str y => y.length ≤ sizeLine ∧ k = ((y.length : Int) != 0)
  | .byt y => y.size ≤ sizeLine ∧ k = ((y.size : Int) != 0)
  | .ref p => (∃ xs, SqL K H p xs ∧ k = !xs.isEmpty) ∨ (∃ xs, SqT K H p xs ∧ k = !xs.isEmpty) ∨ ∃ kvs, H p = some (.dK kvs) ∧ k = !kvs.isEmpty
  | _ => False
theorem isEmpty_kv {κ : Type} {kvs : List (κ × V)} {vs : List (κ × Value)} (r : KV kvs vs) : (!vs.isEmpty) = !kvs.isEmpty := by
  cases r <;> rfl
theorem isEmpty_of {xs : List V} {its : List Value} (r : Vals xs its) : (!its.toArray.isEmpty) = !xs.isEmpty := by
  cases r <;> simp
theorem line63 : (sizeLine : Nat) < 2 ^ 63 := by rw [sizeLine_eq]; decide
theorem tru_ok : TruR X (fun x H Q => ∃ k, TruV X.K x H k ∧ Q k H) := by
  unfold TruR at *
  exact by
    intro pins s σ H x v Q I rx h
    obtain ⟨k, e, q⟩ := h
    have hl := line63
    have hs : sizeLine = 16777216 := sizeLine_eq
    cases x with
    | non =>
      cases rx
      have e' : k = false := e
      subst e'
      exact truthy_none ⟨H, I, q⟩
    | bl b =>
      cases rx
      have e' : k = b := e
      subst e'
      exact wpAny_truthy_bool ⟨H, I, q⟩
    | int i =>
      obtain ⟨t, rfl⟩ := rx
      have e' : k = (i != 0) := e
      subst e'
      exact PySem.P.truthy_int ⟨H, I, q⟩
    | str y =>
      obtain ⟨t, rfl⟩ := rx
      obtain ⟨hy, e'⟩ : y.length ≤ sizeLine ∧ k = ((y.length : Int) != 0) := e
      subst e'
      exact PySem.P.truthy_str (by omega) ⟨H, I.tok _, q⟩
    | byt y =>
      obtain ⟨t, rfl⟩ := rx
      obtain ⟨hy, e'⟩ : y.size ≤ sizeLine ∧ k = ((y.size : Int) != 0) := e
      subst e'
      exact PySem.W.truthy_bytes (by omega) ⟨H, I.tok _, q⟩
    | ref p =>
      cases rx
      have e' : (∃ xs, SqL X.K H p xs ∧ k = !xs.isEmpty) ∨ (∃ xs, SqT X.K H p xs ∧ k = !xs.isEmpty) ∨ ∃ kvs, H p = some (.dK kvs) ∧ k = !kvs.isEmpty := e
      rcases e' with ⟨xs, hx, e'⟩ | ⟨xs, hx, e'⟩ | ⟨kvs, hx, e'⟩
      · subst e'
        obtain ⟨its, r, pl, hz⟩ := I.list hx
        have hlen := r.length
        exact wpAny_truthy_list pl.isList (by simp only [List.size_toArray]; omega) ⟨H, I.tok _, by rw [isEmpty_of r]; exact q⟩
      · subst e'
        obtain ⟨its, r, pl, hz⟩ := I.tuple hx
        have hlen := r.length
        exact truthy_tuple pl (by simp only [List.size_toArray]; omega) ⟨H, I.tok _, by rw [isEmpty_of r]; exact q⟩
      · subst e'
        obtain ⟨hz, hS, vs, r, m⟩ : kvs.length ≤ sizeLine ∧ (p == sysModules) = false ∧ ∃ vs, KV kvs vs ∧ s.heap.DictOf (mixKind X.prog X.w) p vs := I.hok p _ hx
        have hlen : kvs.length = vs.length := Paired.length r
        exact wpAny_truthy_dict hS m (by omega) ⟨H, I.tok _, by rw [isEmpty_kv r]; exact q⟩
    | _ => exact (show False from e).elim

/-- any expression whose test is its value's truth (a name, a call, a subscript, a field ..: he by fun _ => rfl) -/
theorem pt_truth (ha : PE X a ta) (he : ∀ whole, isTrue a X.env whole = (do let v ← whole; standAt a.pos; holding [v] (truthy v))) :
    PT X a (fun σ H Q => ta σ H fun x H' => ∃ k, TruV X.K x H' k ∧ Q k H') := by
  unfold PE at *; unfold PT at *; have tru_ok := tru_ok (X := X); unfold TruR at tru_ok
  exact by
    intro pins s σ H Q I h
    exact isTrue_plain (thn (ha pins s σ H _ I h) fun v s1 ⟨x, H1, I1, r1, q1⟩ => tru_ok pins s1 σ H1 x v Q I1 r1 q1) (he _)

/-! ### strs and bytes -/
theorem op_add_str : OpR X (binaryOp .Add) (fun x y H Q => ∃ i j, x = .str i ∧ y = .str j ∧ i.length + j.length ≤ sizeLine ∧ Q (.str (i ++ j)) H) := by
  unfold OpR at *
  exact by
    intro pins s σ H x y v u Q I rx ry h
    obtain ⟨i, j, rfl, rfl, hz, q⟩ := h
    obtain ⟨t, rfl⟩ := rx
    obtain ⟨t', rfl⟩ := ry
    exact add_str (fun t' tk => ⟨.str (i ++ j), H, I.tok _, ⟨_, rfl⟩, q⟩) hz

/-! ### scalar builtins, by CallR -/
theorem vals1 {x : V} {us : List Value} (r : Vals [x] us) : ∃ u, us = [u] ∧ RelV x u := by
  cases r with
  | cons r1 r2 => cases r2; exact ⟨_, rfl, r1⟩
theorem vals2 {x y : V} {us : List Value} (r : Vals [x, y] us) : ∃ u w', us = [u, w'] ∧ RelV x u ∧ RelV y w' := by
  cases r with
  | cons r1 r2 =>
    cases r2 with
    | cons r3 r4 => cases r4; exact ⟨_, _, rfl, r1, r3⟩
theorem call_min2 (hc : X.calm = true) : CallR X (.builtin "min") (fun xs H Q => ∃ i j, xs = [.int i, .int j] ∧ Q (.int (if j < i then j else i)) H) := by
  unfold CallR at *
  exact by
    intro pins s σ H xs us Q I r h
    obtain ⟨i, j, rfl, q⟩ := h
    obtain ⟨u, w', rfl, ⟨t, rfl⟩, ⟨t', rfl⟩⟩ := vals2 r
    refine min_two_ints (I.ok.hd hc) fun h' tk k => ⟨_, H, I.kept k, ?_, q⟩
    by_cases hj : j < i
    · rw [if_pos hj, if_pos hj]; exact ⟨_, rfl⟩
    · rw [if_neg hj, if_neg hj]; exact ⟨_, rfl⟩

theorem call_int1 : CallR X (.type "int") (fun xs H Q => (∃ i, xs = [.int i] ∧ Q (.int i) H) ∨ ∃ k, xs = [.bl k] ∧ Q (.int (if k then 1 else 0)) H) := by
  unfold CallR at *
  exact by
    intro pins s σ H xs us Q I r h
    rcases h with ⟨i, rfl, q⟩ | ⟨k, rfl, q⟩
    · obtain ⟨u, rfl, t, rfl⟩ := vals1 r
      exact call_int_int ⟨.int i, H, I, ⟨_, rfl⟩, q⟩
    · obtain ⟨u, rfl, r1⟩ := vals1 r
      cases r1
      exact call_int_bool ⟨.int (if k then 1 else 0), H, I.tok _, ⟨_, rfl⟩, q⟩

end
end L2

namespace L2
open PySem PySem.Spec PyProof.Rows

/-! ### an instance, its attributes a map -/
structure ObjM (h : Heap) (x dx C : Addr) (mA : Str → Option Value) : Prop where
  obj : h.get? x = some (PySem.W.instObj C dx)
  ns : h.Ns1 dx mA
  ne : dx ≠ x

theorem lookIn_ns {h : Heap} {dx : Addr} {mA : Str → Option Value} (n : h.Ns1 dx mA) : ∃ od, h.get? dx = some od ∧ ∀ name, PySem.W.lookIn name od = some (mA name) := by
  obtain ⟨o, es, ep, ho, hd, hk, _, hm⟩ := n
  refine ⟨o, ho, fun name => ?_⟩
  have e := hm name
  unfold nsFind findBy at e
  rw [← Array.find?_toList] at e
  unfold PySem.W.lookIn
  rw [hd]
  dsimp only
  split
  · rename_i y q
    rw [q] at e
    exact congrArg some e
  · rename_i q
    rw [q] at e
    have a : es.toList.any (·.refKey) = false := by
      rw [List.any_eq_false]
      intro y hy
      obtain ⟨z, t, hkey⟩ := hk y (Array.mem_toList_iff.mp hy)
      simp [DictEntry.refKey, hkey]
    have a' : ¬ es.toList.any (·.refKey) = true := by rw [a]; exact Bool.false_ne_true
    rw [if_neg a']
    exact congrArg some e

theorem ObjM.look {h : Heap} {x dx C : Addr} {mA : Str → Option Value} (I : ObjM h x dx C mA) : ∃ od, PySem.W.InstAt h x (PySem.W.instObj C dx) C (some od) ∧ ∀ name, PySem.W.lookIn name od = some (mA name) :=
  let ⟨od, ho, hl⟩ := lookIn_ns I.ns
  ⟨od, ⟨I.obj, rfl, rfl, ho⟩, hl⟩

section
variable {prog : Program} {w : World} {A : Around} {E : Value → Shared → Prop} {s : Shared} {K : PySem.W.Frag} {x dx C f : Addr} {mA : Str → Option Value} {name : Str} {v : Value}

theorem get_map {expr : Bool} {Q : Value → Shared → Prop} (X : K.In s.heap) (I : ObjM s.heap x dx C mA) (hg : PySem.W.plainGet K C name = true) (hh : PySem.W.hasDictIn K C = true)
    (ha : PySem.W.findIn K (.ref C) name = some none) (hv : mA name = some v) (hv' : PySem.W.handedIn v = true) (h : Q v { s with toks := s.toks + 1 }) :
    wpAny (model prog w) A (getAttr (.ref x) name expr) Q E s := by
  obtain ⟨od, J, hl⟩ := I.look
  exact PySem.W.get_value X J (PySem.W.plainGet_of hg).1 (PySem.W.findObj_own hh ha rfl (by rw [hl, hv])) hv' h

theorem get_meth {pl : Sem Bool} {Q : Value × List Value → Shared → Prop} (X : K.In s.heap) (I : ObjM s.heap x dx C mA) (hg : PySem.W.plainGet K C name = true)
    (hf : PySem.W.findIn K (.ref C) name = some (some (.ref f))) (ht : PySem.W.isFn K (.ref f) = true) (hv : mA name = none) (h : Q (.ref f, [.ref x]) s) :
    wpAny (model prog w) A (getMethod (.ref x) name pl) Q E s := by
  obtain ⟨od, J, hl⟩ := I.look
  exact PySem.W.method_fn X J (PySem.W.plainGet_of hg).1 (PySem.W.plainGet_of hg).2 hf (beq_iff_eq.mp ht) (by show (PySem.W.lookIn name od).map (·.isSome) = some false; rw [hl, hv]; rfl) h

theorem set_map {ns : List Str} {Q : Unit → Shared → Prop} (X : K.In s.heap) (I : ObjM s.heap x dx C mA)
    (hs : PySem.W.findIn K (.ref C) "__setattr__" = some (some (.builtin "object.__setattr__"))) (hp : PySem.W.plainOver K C = true) (ht : PySem.W.takerIn K C name = some none) (hh : PySem.W.hasDictIn K C = true)
    (hw : PySem.Within mA ns) (hsz : ns.length ≤ sizeLine)
    (h : ∀ h', ObjM h' x dx C (fun y => if y = name then some v else mA y) → Heap.SameBut dx s.heap h' → Q () { s with heap := h', toks := s.toks + 2 }) :
    wpAny (model prog w) A (setAttr (.ref x) name v) Q E s := by
  obtain ⟨od, J, hl⟩ := I.look
  refine PySem.W.set_plain X J hs (PySem.W.osa_open (s := { s with toks := s.toks + 1 }) (r := none) X J hp ht fun b => ?_)
  obtain ⟨cd, hc, hd'⟩ := PySem.W.any_some hh
  have hx : s.heap.get? x = some ⟨.ref C, some dx, .plain, #[]⟩ := I.obj
  refine wpAny_bind (wpAny_pure (wpAny_bind (wpAny_bind (wpAny_loadPart hx (wpAny_bind (PySem.W.Looks.here (s := { s with toks := s.toks + 1 }) (PySem.W.looks_clsIn X hc) ?_))))))
  rw [hd']
  refine wpAny_pure (a := some dx) (wpAny_bind (wpAny_pure (wpAny_bind ?_)))
  refine wpAny_nsSet1 (s := { s with toks := s.toks + 1 }) I.ns fun h' hn2 hs2 => ?_
  obtain ⟨oD, esD, epD, hoD, hdD, hcD⟩ := hn2.count (PySem.Within.cons name v hw)
  refine wpAny_bind (wpAny_lookBehind hoD (by rw [hdD]; exact pastItsLine_dict (Nat.le_trans hcD (by rw [List.length_cons]; omega))) ?_)
  exact wpAny_pure (h _ ⟨(hs2.2 _ (Ne.symm I.ne)).trans I.obj, hn2, I.ne⟩ hs2)

/-- C(..): the dict at the heap's end, the instance behind it; then its __init__ -/
theorem make_map {R : Result → Shared → Prop} {vs : List Value} {kw : List (Str × Value)} (X : K.In s.heap) (hm : PySem.W.makesIn K C = true)
    (hi : PySem.W.findIn K (.ref C) "__init__" = some (some (.ref f))) (hf : PySem.W.typeIn K (.ref f) = some (.type "function"))
    (h : codeAny (model prog w) (A.under (.builtin "type.__call__" ⟨.ref C :: vs, kw⟩)) (.call (.ref f) ⟨.ref (s.heap.objs.size + 1) :: vs, kw⟩) (PySem.W.InitBack (s.heap.objs.size + 1) R)
      { s with heap := (s.heap.push PySem.W.emptyDict).push (PySem.W.instObj C s.heap.objs.size) }) :
    codeAny (model prog w) A (.call (.ref C) ⟨vs, kw⟩) R s := by
  obtain ⟨hh, g, d, t, os⟩ := s
  exact PySem.W.make_core (PySem.W.makes_of X hm) (PySem.W.looks_findIn X hi) (fun self => PySem.W.bind_fn X self hf) (.inl rfl) h
end

/-! ### the attributes as a list of pairs -/
def putF (f : Str) (v : V) : List (Str × V) → List (Str × V)
  | [] => [(f, v)]
  | (g, x) :: r => if g = f then (g, v) :: r else (g, x) :: putF f v r
theorem lookup_putF (f g : Str) (v : V) : ∀ fs : List (Str × V), (putF f v fs).lookup g = if g = f then some v else fs.lookup g
  | [] => by
    show List.lookup g [(f, v)] = _
    by_cases h : g = f
    · have hb : (g == f) = true := beq_iff_eq.mpr h
      simp only [List.lookup, hb, if_pos h]
    · have hb : (g == f) = false := beq_eq_false_iff_ne.mpr h
      simp only [List.lookup, hb, if_neg h]
  | (k, x) :: r => by
    have ih := lookup_putF f g v r
    rw [show putF f v ((k, x) :: r) = (if k = f then (k, v) :: r else (k, x) :: putF f v r) from rfl]
    by_cases hk : k = f
    · rw [if_pos hk]
      by_cases h : g = k
      · have hb : (g == k) = true := beq_iff_eq.mpr h
        simp only [List.lookup, hb, if_pos (h.trans hk)]
      · have hb : (g == k) = false := beq_eq_false_iff_ne.mpr h
        simp only [List.lookup, hb, if_neg (fun e : g = f => h (e.trans hk.symm))]
    · rw [if_neg hk]
      by_cases h : g = k
      · have hb : (g == k) = true := beq_iff_eq.mpr h
        simp only [List.lookup, hb, if_neg (fun e : g = f => hk (h.symm.trans e))]
      · have hb : (g == k) = false := beq_eq_false_iff_ne.mpr h
        simp only [List.lookup, hb]
        exact ih
theorem keys_putF (f : Str) (v : V) : ∀ fs : List (Str × V), f ∈ (putF f v fs).map (·.1) ∧ ∀ g, g ∈ fs.map (·.1) → g ∈ (putF f v fs).map (·.1)
  | [] => ⟨by simp [putF], fun g h => by simp at h⟩
  | (k, x) :: r => by
    obtain ⟨i1, i2⟩ := keys_putF f v r
    rw [show putF f v ((k, x) :: r) = (if k = f then (k, v) :: r else (k, x) :: putF f v r) from rfl]
    by_cases hk : k = f
    · rw [if_pos hk]
      subst hk
      exact ⟨by simp, fun g h => by simpa using h⟩
    · rw [if_neg hk]
      refine ⟨?_, fun g h => ?_⟩
      · rw [List.map_cons]
        exact List.mem_cons_of_mem _ i1
      · rw [List.map_cons] at h ⊢
        rcases List.mem_cons.mp h with e | e
        · exact List.mem_cons.mpr (.inl e)
        · exact List.mem_cons_of_mem _ (i2 g e)
theorem length_putF (f : Str) (v : V) : ∀ fs : List (Str × V), (putF f v fs).length ≤ fs.length + 1
  | [] => by simp [putF]
  | (k, x) :: r => by
    have ih := length_putF f v r
    rw [show putF f v ((k, x) :: r) = (if k = f then (k, v) :: r else (k, x) :: putF f v r) from rfl]
    by_cases hk : k = f
    · rw [if_pos hk, List.length_cons, List.length_cons]; omega
    · rw [if_neg hk, List.length_cons, List.length_cons]; omega

theorem RelO.some_of {v : V} {o : Option Value} (r : RelO (some v) o) : ∃ u, o = some u ∧ RelV v u := by
  cases o with
  | none => exact (show False from r).elim
  | some u => exact ⟨u, rfl, r⟩
theorem RelO.none_of {o : Option Value} (r : RelO none o) : o = none := by
  cases o with
  | none => rfl
  | some u => exact (show False from r).elim
theorem handed_of {v : V} {u : Value} (r : RelV v u) : PySem.W.handedIn u = true := by
  cases v with
  | non => cases (show u = Value.none from r); rfl
  | bl b => cases (show u = Value.bool b from r); rfl
  | int i => obtain ⟨t, e⟩ := (show ∃ t, u = Value.int i t from r); cases e; rfl
  | str x => obtain ⟨t, e⟩ := (show ∃ t, u = Value.str x t from r); cases e; rfl
  | byt b => obtain ⟨t, e⟩ := (show ∃ t, u = Value.bytes b t from r); cases e; rfl
  | flt b => obtain ⟨t, e⟩ := (show ∃ t, u = Value.float b t from r); cases e; rfl
  | ref a => cases (show u = Value.ref a from r); rfl
  | ty n => cases (show u = Value.type n from r); rfl

section
variable {P : Program} {w : World} {H H' : Hp} {h h' : Heap} {a C dx : Addr} {fs fs' : List (Str × V)}
theorem ins_get (hok : HOk P w H h) (e : H a = some (.ins C dx fs)) : ∃ mA, ObjM h a dx C mA ∧ (∀ f, RelO (fs.lookup f) (mA f)) ∧ PySem.Within mA (fs.map (·.1)) ∧ fs.length ≤ 1000 ∧ H dx = some (.own a) := by
  obtain ⟨d, z, ne, ob, mA, n, r, q⟩ := (show ObjOk P w H h a (.ins C dx fs) from hok a _ e)
  exact ⟨mA, ⟨ob, n, ne⟩, r, q, z, d⟩
end

/-! ### what of the text a class must have -/
structure Cls (K : PySem.W.Frag) (C : Addr) : Prop where
  pg : PySem.W.plainGet K C Str.empty = true
  hd : PySem.W.hasDictIn K C = true
  po : PySem.W.plainOver K C = true
  sa : PySem.W.findIn K (.ref C) "__setattr__" = some (some (.builtin "object.__setattr__"))
theorem Cls.get {K : PySem.W.Frag} {C : Addr} (c : Cls K C) (f : Str) : PySem.W.plainGet K C f = true := c.pg
/-- no class of it has the name -/
def NoAttr (K : PySem.W.Frag) (C : Addr) (f : Str) : Prop := PySem.W.findIn K (.ref C) f = some none
theorem NoAttr.taker {K : PySem.W.Frag} {C : Addr} {f : Str} (n : NoAttr K C f) : PySem.W.takerIn K C f = some none := by
  unfold PySem.W.takerIn
  rw [show PySem.W.findIn K (.ref C) f = some none from n]
  rfl
/-- a method: a plain def of the class or of one above it -/
structure Meth (K : PySem.W.Frag) (C : Addr) (m : Str) (f : Addr) : Prop where
  at_ : PySem.W.findIn K (.ref C) m = some (some (.ref f))
  fn : PySem.W.isFn K (.ref f) = true
  kp : PySem.W.keepIn K (.ref f) = true

section
variable {X : Cx} {pins : List (Addr × Obj)} {σ : St} {H : Hp} {s : Shared} {a C dx : Addr} {fs : List (Str × V)} {f : Str} {v : V} {A : Around} {E : Value → Shared → Prop}

theorem getattr_ok {b : Bool} {Q : Value → Shared → Prop} (I : Inv X pins σ H s) (e : H a = some (.ins C dx fs)) (c : Cls X.K C) (n : NoAttr X.K C f) (l : fs.lookup f = some v)
    (h : ∀ u s', Inv X pins σ H s' → RelV v u → Q u s') : wpAny (model X.prog X.w) A (getAttr (.ref a) f b) Q E s := by
  obtain ⟨mA, O, r, _, _, _⟩ := ins_get I.hok e
  obtain ⟨u, hu, ru⟩ := RelO.some_of (v := v) (o := mA f) (by rw [← l]; exact r f)
  exact get_map I.kIn O (c.get f) c.hd n hu (handed_of ru) (h u _ (I.tok _) ru)

theorem getmeth_ok {m : Str} {g : Addr} {pl : Sem Bool} {Q : Value × List Value → Shared → Prop} (I : Inv X pins σ H s) (e : H a = some (.ins C dx fs)) (c : Cls X.K C) (k : Meth X.K C m g) (l : fs.lookup m = none)
    (h : Q (.ref g, [.ref a]) s) : wpAny (model X.prog X.w) A (getMethod (.ref a) m pl) Q E s := by
  obtain ⟨mA, O, r, _, _, _⟩ := ins_get I.hok e
  have hn : mA m = none := RelO.none_of (by rw [← l]; exact r m)
  exact get_meth I.kIn O (c.get m) k.at_ k.fn hn h

theorem setattr_ok {y : V} {u : Value} {Q : Unit → Shared → Prop} (I : Inv X pins σ H s) (e : H a = some (.ins C dx fs)) (c : Cls X.K C) (n : NoAttr X.K C f) (hl : fs.length < 1000) (ry : RelV y u)
    (h : ∀ s', Inv X pins σ (upd H a (.ins C dx (putF f y fs))) s' → Q () s') : wpAny (model X.prog X.w) A (setAttr (.ref a) f u) Q E s := by
  obtain ⟨mA, O, r, wi, _, ho⟩ := ins_get I.hok e
  have hz : (fs.map (·.1)).length ≤ sizeLine := by rw [List.length_map, sizeLine_eq]; omega
  refine set_map I.kIn O c.sa c.po n.taker c.hd wi hz fun h' O' sb => h _ ?_
  have hd : ∃ o, h'.get? dx = some o := let ⟨o, _, _, e', _⟩ := O'.ns; ⟨o, e'⟩
  refine I.write (x := a) (e := dx) (by rw [e]; exact True.intro) (.inr ho) (fun b q hb z => (sb.2 b hb).trans z) hd ?_
  refine ⟨by rw [upd_ne O.ne]; exact ho, ?_, O.ne, O'.obj, _, O'.ns, fun g => ?_, fun g hg => ?_⟩
  · have := length_putF f y fs; omega
  · show RelO ((putF f y fs).lookup g) (if g = f then some u else mA g)
    rw [lookup_putF]
    by_cases q : g = f
    · rw [if_pos q, if_pos q]; exact ry
    · rw [if_neg q, if_neg q]; exact r g
  · by_cases q : g = f
    · rw [q]; exact (keys_putF f y fs).1
    · refine (keys_putF f y fs).2 g (wi g fun z => hg ?_)
      show (if g = f then some u else mA g) = none
      rw [if_neg q]; exact z

/-- a new instance, tracked, without attributes -/
theorem Inv.made (I : Inv X pins σ H s) : Inv X pins σ (upd (upd H s.heap.objs.size (.own (s.heap.objs.size + 1))) (s.heap.objs.size + 1) (.ins C s.heap.objs.size []))
    { s with heap := (s.heap.push PySem.W.emptyDict).push (PySem.W.instObj C s.heap.objs.size) } := by
  have e1 : (s.heap.push PySem.W.emptyDict).get? s.heap.objs.size = some PySem.W.emptyDict := Heap.get?_push_size s.heap rfl
  have e2 : ((s.heap.push PySem.W.emptyDict).push (PySem.W.instObj C s.heap.objs.size)).get? (s.heap.objs.size + 1) = some (PySem.W.instObj C s.heap.objs.size) := by
    have := Heap.get?_push_size (s.heap.push PySem.W.emptyDict) (o := PySem.W.instObj C s.heap.objs.size) rfl
    rwa [Heap.size_push] at this
  have e3 : (s.heap.push PySem.W.emptyDict).Ns s.heap.objs.size (fun _ => none) := ⟨PySem.W.emptyDict, #[], _, e1, rfl, (fun e he => absurd he (by simp)), fun _ => rfl⟩
  have I1 := I.laid (a := s.heap.objs.size) (o := .own (s.heap.objs.size + 1)) (h' := s.heap.push PySem.W.emptyDict) (t' := s.toks) (fun b u q => Heap.get?_push_of_some _ q) (Nat.le_refl _) ⟨_, e1⟩
  refine I1.laid (a := s.heap.objs.size + 1) (o := .ins C s.heap.objs.size []) (t' := s.toks) (fun b u q => Heap.get?_push_of_some _ q) (Nat.le_of_eq (Heap.size_push _ _)) ?_
  have ne : s.heap.objs.size ≠ s.heap.objs.size + 1 := Nat.ne_of_lt (Nat.lt_succ_self _)
  refine ⟨by rw [upd_ne ne, upd_same], Nat.zero_le _, ne, e2, fun _ => none, (Heap.Ns1.of_empty e3).at fun o q => Heap.get?_push_of_some _ q, fun _ => True.intro, fun y hy => absurd rfl hy⟩

/-- e.f where nothing but the object is asked: through attributeBase (super) and the last hold -/
theorem attr_of {prog : Program} {w : World} {env : Env} {e : Expr} {f : Str} {pos : Pos} {s : Shared} {Q : Value → Shared → Prop} (hb : attributeBase e f env (eval e env) = eval e env)
    (h : wpAny (model prog w) A (eval e env) (fun o s₁ => wpAny (model prog w) A (getAttr o f true) Q E s₁) E s) : wpAny (model prog w) A (eval (.Attribute e f pos) env) Q E s :=
  Attribute_any_ h (by rw [arm_eval_Attribute, hb])
end

/-! ### readings and rules -/
/-- e.f, an attribute of the instance -/
def tFld (K : PySem.W.Frag) (ta : TE) (f : Str) : TE := fun σ H Q => ta σ H fun x H1 => ∃ a C dx fs v, x = .ref a ∧ H1 a = some (.ins C dx fs) ∧ Cls K C ∧ NoAttr K C f ∧ fs.lookup f = some v ∧ Q v H1
/-- e.f = value -/
def sFld (K : PySem.W.Frag) (ta tv : TE) (f : Str) : TS := fun D σ H => tv σ H fun y H1 => ta σ H1 fun x H2 => ∃ a C dx fs, x = .ref a ∧ H2 a = some (.ins C dx fs) ∧ Cls K C ∧ NoAttr K C f ∧ fs.length < 1000 ∧
  D.nx σ (upd H2 a (.ins C dx (putF f y fs)))
section
variable {X : Cx} {o e value : Expr} {f : Str} {pos pos' tpos : Pos} {ta tv : TE}
theorem pe_fld (he : PE X e ta) (hb : attributeBase e f X.env (eval e X.env) = eval e X.env) : PE X (.Attribute e f pos) (tFld X.K ta f) := by
  unfold PE at *
  exact by
    intro pins s σ H Q I h
    refine attr_of hb (thn (he pins s σ H _ I h) fun u s1 ⟨x, H1, I1, rx, a, C, dx, fs, v, ex, ea, c, n, l, q⟩ => ?_)
    subst ex
    obtain rfl : u = Value.ref a := rx
    exact getattr_ok I1 ea c n l fun u' s2 I2 ru => ⟨v, H1, I2, ru, q⟩

theorem ps_fld (ha : PE X o ta) (hv : PE X value tv) (hs : swapsWith value (some (.Attribute o f pos')) pos.line X.env = pure false) : PS X (.Assign [.Attribute o f pos'] value pos) (sFld X.K ta tv f) := by
  unfold PE at *; unfold PS at *
  exact by
    intro pins s σ H D I h
    refine plainObj_wpAny_Assign_Attribute (thn (hv pins s σ H _ I h) fun u s1 ⟨y, H1, I1, ry, q⟩ => thn (ha pins s1 σ H1 _ I1 q) fun ov s2 ⟨x, H2, I2, rx, a, C, dx, fs, ex, ea, c, n, l, q2⟩ => ?_) hs
    subst ex
    obtain rfl : ov = Value.ref a := rx
    exact setattr_ok I2 ea c n l ry fun s3 I3 => ⟨σ, _, I3, q2⟩

end

/-! ### isinstance -/
section
variable {X : Cx} {pins : List (Addr × Obj)} {σ : St} {H : Hp} {s : Shared} {A : Around} {E : Value → Shared → Prop} {Q : Value → Shared → Prop} {c : Value} {b : Bool}
/-- the type of a value, as the fragment's deciders take it; for an instance its class -/
inductive TyOf (K : PySem.W.Frag) (H : Hp) : V → Value → Prop where
  | non : TyOf K H .non (.type "NoneType")
  | bl (x : Bool) : TyOf K H (.bl x) (.type "bool")
  | int (i : Int) : TyOf K H (.int i) (.type "int")
  | str (x : Str) : TyOf K H (.str x) (.type "str")
  | flt (x : UInt64) : TyOf K H (.flt x) (.type "float")
  | lst {a : Addr} {xs : List V} (e : H a = some (.lst xs)) : TyOf K H (.ref a) (.type "list")
  | frz {a : Addr} {o : Obj} {xs : List V} (e : H a = some (.frz o (.lst xs))) : TyOf K H (.ref a) (.type "list")
  | tup {a : Addr} {xs : List V} (e : H a = some (.tup xs)) : TyOf K H (.ref a) (.type "tuple")
  | dK {a : Addr} {kvs : List (Key × V)} (e : H a = some (.dK kvs)) : TyOf K H (.ref a) (.type "dict")
  | dT {a : Addr} {kvs : List (List Key × V)} (e : H a = some (.dT kvs)) : TyOf K H (.ref a) (.type "dict")
  | ins {a C dx : Addr} {fs : List (Str × V)} (e : H a = some (.ins C dx fs)) (cl : Cls K C) (ha : PySem.W.findIn K (.ref C) "__class__" = some (some (.builtin "object.__class__")))
      (hn : PySem.W.specialIn K (.builtin "object.__class__") "__get__" = some (some (.builtin "getset_descriptor.__get__"))) (htk : PySem.W.takesIn K (.builtin "object.__class__") = some true)
      (hm : PySem.W.mroIn K C (.type "object") = some true) : TyOf K H (.ref a) (.ref C)
/-- isinstance(x, c) for one class c, a built-in or an own one: kitOne's answer -/
theorem isinst_ok {x : V} {u t : Value} (I : Inv X pins σ H s) (rx : RelV x u) (ty : TyOf X.K H x t) (e : PySem.W.kitOne X.K t c = some b) (h : ∀ tk, Q (.bool b) { s with toks := tk }) :
    wpAny (model X.prog X.w) A (call (.builtin "isinstance") [u, c]) Q E s := by
  cases ty with
  | non => cases (show u = Value.none from rx); exact PySem.W.kia_one PySem.W.kitx_none I.kIn True.intro e (fun z => nomatch z) h
  | bl y => cases (show u = Value.bool y from rx); exact PySem.W.kia_one PySem.W.kitx_bool I.kIn True.intro e (fun z => nomatch z) h
  | int i => obtain ⟨t, q⟩ := (show ∃ t, u = Value.int i t from rx); cases q; exact PySem.W.kia_one PySem.W.kitx_int I.kIn True.intro e (fun z => nomatch z) h
  | str y => obtain ⟨t, q⟩ := (show ∃ t, u = Value.str y t from rx); cases q; exact PySem.W.kia_one PySem.W.kitx_str I.kIn True.intro e (fun z => nomatch z) h
  | flt y => obtain ⟨t, q⟩ := (show ∃ t, u = Value.float y t from rx); cases q; exact PySem.W.kia_one PySem.W.kitx_float I.kIn True.intro e (fun z => nomatch z) h
  | @lst a xs ea =>
    cases (show u = Value.ref a from rx)
    obtain ⟨_, _, n, _, h1⟩ := (show ObjOk X.prog X.w H s.heap a (.lst xs) from I.hok a _ ea)
    exact PySem.W.kia_one PySem.W.kitx_list I.kIn ⟨_, h1, rfl⟩ e (fun z => nomatch z) h
  | @frz a ob xs ea =>
    cases (show u = Value.ref a from rx)
    obtain ⟨_, _, _, n, _, h1⟩ := (show ObjOk X.prog X.w H s.heap a (.frz ob (.lst xs)) from I.hok a _ ea)
    exact PySem.W.kia_one PySem.W.kitx_list I.kIn ⟨_, h1, rfl⟩ e (fun z => nomatch z) h
  | @tup a xs ea =>
    cases (show u = Value.ref a from rx)
    obtain ⟨_, _, _, p⟩ := (show ObjOk X.prog X.w H s.heap a (.tup xs) from I.hok a _ ea)
    obtain ⟨o, h1, h2, _⟩ := p
    exact PySem.W.kia_one PySem.W.kitx_tuple I.kIn ⟨o, h1, h2⟩ e (fun z => nomatch z) h
  | @dK a kvs ea =>
    cases (show u = Value.ref a from rx)
    obtain ⟨_, _, vs, _, p⟩ := (show ObjOk X.prog X.w H s.heap a (.dK kvs) from I.hok a _ ea)
    obtain ⟨o, es, ep, h1, h2, _⟩ := p
    exact PySem.W.kia_one PySem.W.kitx_dict I.kIn ⟨o, h1, h2.1⟩ e (fun z => nomatch z) h
  | @dT a kvs ea =>
    cases (show u = Value.ref a from rx)
    obtain ⟨_, _, xs, _, o, es, ep, h1, h2, _⟩ := (show ObjOk X.prog X.w H s.heap a (.dT kvs) from I.hok a _ ea)
    exact PySem.W.kia_one PySem.W.kitx_dict I.kIn ⟨o, h1, h2.1⟩ e (fun z => nomatch z) h
  | @ins a C dx fs ea cl ha hn htk hm =>
    cases (show u = Value.ref a from rx)
    obtain ⟨mA, O, _⟩ := ins_get I.hok ea
    obtain ⟨od, J, _⟩ := O.look
    exact PySem.W.kia_one (PySem.W.kitx_own (cl.get _) cl.hd ha hn htk hm) I.kIn J e (fun z => nomatch z) h
end
end L2

namespace L2
open PySem PySem.Spec PyProof.Rows

/-! ### room -/
structure Room (k : Nat) (A : Around) : Prop where
  hd : A.handled = none
  dp : A.depth + 3 * k + 5 < recursionLimit
  un : A.units + 16 * k + 200 < cLine
theorem Room.mono {j k : Nat} {A : Around} (r : Room k A) (h : j ≤ k) : Room j A := ⟨r.hd, by have := r.dp; omega, by have := r.un; omega⟩
theorem Room.deeper {k : Nat} {A : Around} (r : Room (k + 1) A) (env : Env) : Room k (A.deeper env) :=
  ⟨r.hd, by have := r.dp; show A.depth + 1 + 3 * k + 5 < _; omega, by have := r.un; show A.units + 3 + 16 * k + 200 < _; omega⟩
theorem Room.in1 {k : Nat} {A : Around} (r : Room (k + 1) A) : Room k A.in1 :=
  ⟨r.hd, by have := r.dp; show A.depth + 3 * k + 5 < _; omega, by have := r.un; show A.units + 1 + 16 * k + 200 < _; omega⟩
theorem make_depth {A : Around} {C : Addr} {us : List Value} {kw : List (Str × Value)} : (A.under (.builtin "type.__call__" ⟨.ref C :: us, kw⟩)).depth = A.depth + 1 := by
  first | rfl | simp [Around.under, Code.weight, Code.isCreation, Code.isGuard, Code.isCaller, Code.frames, Code.isFrame, guardIds]
theorem make_units {A : Around} {C : Addr} {us : List Value} {kw : List (Str × Value)} : (A.under (.builtin "type.__call__" ⟨.ref C :: us, kw⟩)).units = A.units + 1 := by
  first | rfl | simp [Around.under, Code.cUnits, Code.frames, Code.isFrame]
theorem Room.make {k : Nat} {A : Around} (r : Room (k + 1) A) (C : Addr) (us : List Value) (kw : List (Str × Value)) : Room k (A.under (.builtin "type.__call__" ⟨.ref C :: us, kw⟩)) :=
  ⟨r.hd, by have := r.dp; rw [make_depth]; omega, by have := r.un; rw [make_units]; omega⟩
theorem Room.depth {k : Nat} {A : Around} (r : Room k A) : A.depth < recursionLimit := by have := r.dp; omega
theorem Room.units {k : Nat} {A : Around} (r : Room k A) : A.units + 64 < cLine := by have := r.un; omega
theorem Room.units0 {k : Nat} {A : Around} (r : Room k A) : A.units < cLine := by have := r.un; omega

/-! ### argument lists and displays -/
def tNil : TA := fun _ H Q => Q [] H
def tCons (ta : TE) (tr : TA) : TA := fun σ H Q => ta σ H fun x H1 => tr σ H1 fun xs H2 => Q (x :: xs) H2
section
variable {X : Cx} {e : Expr} {es : List Expr} {te : TE} {t : TA} {pos : Pos}
theorem pa_nil : PA X [] tNil := by
  first
  | exact (fun _ _ _ _ H Q I h => Calls.spliced_nil ⟨[], H, I, .nil, h⟩)
  | (unfold PA at *; exact (fun _ _ _ _ H Q I h => Calls.spliced_nil ⟨[], H, I, .nil, h⟩))

theorem pa_cons (ha : PE X e te) (hr : PA X es t) (hs : starEach (e :: es) X.env = (false, eval e X.env) :: starEach es X.env := by rfl) : PA X (e :: es) (tCons te t) := by
  unfold PE at *; unfold PA at *
  exact by
    intro pos pins s σ H Q I h
    rw [hs]
    show wpAny _ _ (spliced ((false, eval e X.env) :: backTo pos (starEach es X.env))) _ _ s
    refine Calls.spliced_cons (thn (ha pins s σ H _ I h) fun u s1 ⟨x, H1, I1, r1, q1⟩ => ?_)
    exact thn (hr pos pins s1 σ H1 _ I1 q1) fun us s2 ⟨xs, H2, I2, r2, q2⟩ => ⟨x :: xs, H2, I2, .cons r1 r2, q2⟩

/-- a tuple, a list of written items -/
def tTup (t : TA) : TE := fun σ H Q => t σ H fun xs H1 => xs.length ≤ sizeLine ∧ ∀ p, H1 p = none → Q (.ref p) (upd H1 p (.tup xs))
def tLst (t : TA) : TE := fun σ H Q => t σ H fun xs H1 => xs.length ≤ sizeLine ∧ ∀ p, H1 p = none → Q (.ref p) (upd H1 p (.lst xs))
theorem pe_tup {x1} (h : PA X es t) : PE X (.Tuple es x1 pos) (tTup t) := by
  unfold PE at *; unfold PA at *
  exact by
    intro pins s σ H Q I hq
    refine wpAny_Tuple_spliced (thn (h pos pins s σ H _ I hq) fun us s1 ⟨xs, H1, I1, r, z, q⟩ => ⟨by rw [← r.length]; exact z, ?_⟩)
    have hf : H1 s1.heap.objs.size = none := I1.hok.fresh (Nat.le_refl _)
    refine ⟨.ref s1.heap.objs.size, upd H1 s1.heap.objs.size (.tup xs), I1.laid (t' := s1.toks) (fun b u e => Heap.get?_push_of_some _ e) (Nat.le_refl _) ?_, rfl, q _ hf⟩
    exact ⟨z, us, r, ⟨_, Heap.get?_push_size _ rfl, rfl, _, rfl⟩⟩

theorem pe_lst (h : PA X es t) : PE X (.List es pos) (tLst t) := by
  unfold PE at *; unfold PA at *
  exact by
    intro pins s σ H Q I hq
    refine wpAny_List_spliced (thn (h pos pins s σ H _ I hq) fun us s1 ⟨xs, H1, I1, r, z, q⟩ => ⟨by rw [← r.length]; exact z, ?_⟩)
    have hf : H1 s1.heap.objs.size = none := I1.hok.fresh (Nat.le_refl _)
    refine ⟨.ref s1.heap.objs.size, upd H1 s1.heap.objs.size (.lst xs), I1.laid (t' := s1.toks) (fun b u e => Heap.get?_push_of_some _ e) (Nat.le_refl _) ?_, rfl, q _ hf⟩
    exact ⟨z, us, 0, r, Heap.get?_push_size _ rfl⟩

end

/-! ### what a def promises -/
/-- a def's promise: the bound arguments in the parameters' order, the heap, the wanted end, the wanted exception -/
abbrev Sp := List V → Hp → VK → XK → Prop
/-- how an exception lies behind a call (file 08 gives it): the callers' frames, abstract heap and state ahead of the call, the wish, the exception, the state -/
abbrev CXT := List Env → Hp → Shared → XK → Value → Shared → Prop

/-- the state at a call -/
structure Env0 (P : Program) (w : World) (K : PySem.W.Frag) (mg : Str → Option Value) (base : Heap) (A : Around) (outer : List Env) (s : Shared) (H : Hp) : Prop where
  frames : A.frames = some outer
  mod : Mod K mg base
  bs : ∀ b o, base.get? b = some o → s.heap.get? b = some o ∧ H b = none
  bsz : base.objs.size ≤ s.heap.objs.size
  funs : s.heap.FunFrames base outer
  frf : ∀ b ∈ frs outer, H b = none
  hok : HOk P w H s.heap
  bare : AllBare s.gens
/-- a call's end -/
def CE (outer : List Env) (P : Program) (w : World) (H : Hp) (s : Shared) (Q : VK) (u : Value) (s' : Shared) : Prop :=
  ∃ v H', s'.os = s.os ∧ AllBare s'.gens ∧ Un (frs outer) [] H H' s.heap s'.heap ∧ HOk P w H' s'.heap ∧ RelV v u ∧ Q v H'
def CR (CX : CXT) (outer : List Env) (P : Program) (w : World) (H : Hp) (s : Shared) (Q : VK) (E : XK) (r : Result) (s' : Shared) : Prop :=
  match r with
  | .ok (.ret u) => CE outer P w H s Q u s'
  | .ok _ => False
  | .error e => CX outer H s E e s'
structure FnOk (P : Program) (w : World) (K : PySem.W.Frag) (mg : Str → Option Value) (base : Heap) (CX : CXT) (k : Nat) (f : Addr) (fd : FuncData) (ps : List Str) (sp : Sp) : Prop where
  len : ∀ vs H Q E, sp vs H Q E → vs.length = ps.length
  run : ∀ (A : Around) (outer : List Env) (s : Shared) (H : Hp) (args : Args) (us : List Value) (vs : List V) (Q : VK) (E : XK), Room k A → Env0 P w K mg base A outer s H → BindsTo s fd args (ps.zip us) → Vals vs us → sp vs H Q E →
    codeAny (model P w) A (.call (.ref f) args) (CR CX outer P w H s Q E) s
theorem FnOk.mono {P : Program} {w : World} {K : PySem.W.Frag} {mg : Str → Option Value} {base : Heap} {CX : CXT} {j k : Nat} {f : Addr} {fd : FuncData} {ps : List Str} {sp : Sp} (F : FnOk P w K mg base CX j f fd ps sp) (h : j ≤ k) :
    FnOk P w K mg base CX k f fd ps sp := ⟨F.len, fun A outer s H args us vs Q E hr => F.run A outer s H args us vs Q E (hr.mono h)⟩
/-- a weaker promise -/
theorem FnOk.imp {P : Program} {w : World} {K : PySem.W.Frag} {mg : Str → Option Value} {base : Heap} {CX : CXT} {k : Nat} {f : Addr} {fd : FuncData} {ps : List Str} {sp sp' : Sp} (F : FnOk P w K mg base CX k f fd ps sp)
    (h : ∀ vs H Q E, sp' vs H Q E → sp vs H Q E) : FnOk P w K mg base CX k f fd ps sp' :=
  ⟨fun vs H Q E q => F.len vs H Q E (h _ _ _ _ q), fun A outer s H args us vs Q E hr he hb hv hs => F.run A outer s H args us vs Q E hr he hb hv (h _ _ _ _ hs)⟩

theorem Env0.make {P : Program} {w : World} {K : PySem.W.Frag} {mg : Str → Option Value} {base : Heap} {A : Around} {outer : List Env} {s : Shared} {H : Hp} (e : Env0 P w K mg base A outer s H) (C : Addr) (us : List Value) (kw : List (Str × Value)) :
    Env0 P w K mg base (A.under (.builtin "type.__call__" ⟨.ref C :: us, kw⟩)) outer s H := ⟨by first | exact e.frames | (simpa [Around.under, Code.envs, Code.isFrame, pushEnvs] using e.frames), e.mod, e.bs, e.bsz, e.funs, e.frf, e.hok, e.bare⟩
theorem Env0.in1 {P : Program} {w : World} {K : PySem.W.Frag} {mg : Str → Option Value} {base : Heap} {A : Around} {outer : List Env} {s : Shared} {H : Hp} (e : Env0 P w K mg base A outer s H) :
    Env0 P w K mg base A.in1 outer s H := ⟨e.frames, e.mod, e.bs, e.bsz, e.funs, e.frf, e.hok, e.bare⟩

section
variable {X : Cx} {pins : List (Addr × Obj)} {σ : St} {H : Hp} {s s' : Shared}
/-- from a body: what a callee wants -/
theorem Inv.env0 (I : Inv X pins σ H s) : Env0 X.prog X.w X.K X.mg X.base X.A X.stack s H :=
  ⟨I.ok.frames, I.ok.mod, I.bs, Nat.le_trans I.ok.bsz I.sz, I.stack, I.stkFree, I.hok, I.bare⟩
/-- behind a call -/
theorem Inv.after {Q : VK} {u : Value} (I : Inv X pins σ H s) (h : CE X.stack X.prog X.w H s Q u s') : EP X pins σ Q u s' := by
  obtain ⟨v, H', os, bare, un, hok, r, q⟩ := h
  obtain ⟨hh, g, d, t, os'⟩ := s'
  obtain rfl : os' = s.os := os
  exact ⟨v, H', I.call (h' := hh) (g' := g) (d' := d) (t' := t) (ch := []) un hok bare (fun b z => absurd z (by simp)), r, q⟩
end

/-! ### calls -/
/-- f(..): the written arguments, then the defaults dvs; E: what is wanted of an exception -/
def tCall (sp : Sp) (dvs : List V) (E : XK) (t : TA) : TE := fun σ H Q => t σ H fun vs H1 => sp (vs ++ dvs) H1 Q E
/-- o.m(..) of an instance of the class at C -/
def tMeth (C : Addr) (m : Str) (sp : Sp) (dvs : List V) (E : XK) (ta : TE) (t : TA) : TE := fun σ H Q => ta σ H fun x H1 => ∃ a dx fs, x = .ref a ∧ H1 a = some (.ins C dx fs) ∧ fs.lookup m = none ∧
  t σ H1 fun vs H2 => sp (x :: (vs ++ dvs)) H2 Q E
/-- C(..): a new instance and its dict, then __init__ -/
def tMake (C : Addr) (sp : Sp) (dvs : List V) (E : XK) (t : TA) : TE := fun σ H Q => t σ H fun vs H1 => ∀ x dx, H1 x = none → H1 dx = none → dx ≠ x →
  sp (.ref x :: (vs ++ dvs)) (upd (upd H1 dx (.own x)) x (.ins C dx [])) (fun v H2 => v = .non ∧ Q (.ref x) H2) E

/-- how the parameters are bound: us the positional arguments, kw the keywords' values by name, ds the defaults that fill up -/
def Binds (K : PySem.W.Frag) (fd : FuncData) (ps : List Str) (ds : List Value) : Prop :=
  ∀ (s : Shared) (us : List Value), K.In s.heap → (us ++ ds).length = ps.length → BindsTo s fd ⟨us, []⟩ (ps.zip (us ++ ds))
/-- every parameter is given -/
theorem Binds.all {K : PySem.W.Frag} {fd : FuncData} {ps : List Str} (h : ∀ us : List Value, us.length = ps.length → bindArgs fd ⟨us, []⟩ = pure (ps.zip us)) : Binds K fd ps [] := fun s us _ hl => by
  rw [List.append_nil] at hl ⊢
  exact .of_eq (h us hl)

/-- an exception of a callee reaches what this body wants of exceptions -/
def Passes (CX : CXT) (X : Cx) (E : XK) : Prop := ∀ (pins : List (Addr × Obj)) (σ : St) (H : Hp) (s : Shared) (e : Value) (s' : Shared), Inv X pins σ H s → CX X.stack H s E e s' → X.xe e s'

section
variable {X : Cx} {CX : CXT} {k : Nat} {f C : Addr} {fd : FuncData} {ps : List Str} {sp : Sp} {dvs : List V} {ds : List Value} {E : XK} {x m : Str} {p pos apos : Pos} {e o : Expr} {es : List Expr} {ta : TE} {t : TA}

/-- the callee runs -/
theorem run_fn {pins : List (Addr × Obj)} {σ : St} {H : Hp} {s : Shared} {Q : VK} {us : List Value} {vs : List V} (F : FnOk X.prog X.w X.K X.mg X.base CX k f fd ps sp) (hr : Room k X.A) (hb : Binds X.K fd ps ds) (hd : Vals dvs ds) (hx : Passes CX X E)
    (I : Inv X pins σ H s) (r : Vals vs us) (h : sp (vs ++ dvs) H Q E) : wpAny (model X.prog X.w) X.A (call (.ref f) us) (EP X pins σ Q) X.xe s := by
  have r2 : Vals (vs ++ dvs) (us ++ ds) := r.append hd
  have hl : (us ++ ds).length = ps.length := by rw [← r2.length]; exact F.len _ _ _ _ h
  refine wpAny_call (codeAny_mono (F.run X.A X.stack s H ⟨us, []⟩ (us ++ ds) (vs ++ dvs) Q E hr I.env0 (hb s us I.kIn hl) r2 h) fun r s' hq => ?_)
  cases r with
  | error e => exact hx pins σ H s e s' I hq
  | ok fl =>
    cases fl with
    | ret u => exact I.after hq
    | next => exact False.elim hq
    | brk => exact False.elim hq
    | cont => exact False.elim hq

theorem pe_call (F : FnOk X.prog X.w X.K X.mg X.base CX k f fd ps sp) (hr : Room k X.A) (hg : Gl X x) (hm : X.mg x = some (.ref f)) (hk : PySem.W.keepIn X.K (.ref f) = true) (hb : Binds X.K fd ps ds) (hd : Vals dvs ds) (hx : Passes CX X E)
    (ha : PA X (e :: es) t) (hdb : (x == ("__debug__" : Str)) = false := by decide) (he : starEach (e :: es) X.env = (false, eval e X.env) :: starEach es X.env := by rfl) (hpl : (backTo pos (starEach es X.env)).any (·.1) = false := by rfl) :
    PE X (.Call (.Name x p) (e :: es) [] pos) (tCall sp dvs E t) := by
  unfold PE at *; unfold PA at *
  exact by
    intro pins s σ H Q I h
    refine wpAny_Call_Name_kw (ld_glob I hg hm ?_ hdb)
    refine PySem.W.callWith_K (h₀ := X.base) I.ok.mod.kin hk (thn (ha pos pins s σ H _ I h) fun us s1 ⟨vs, H1, I1, r, q⟩ => ⟨I1.kIn, ?_⟩) he hpl
    exact run_fn F hr hb hd hx I1 r q

/-- o.m(e, ..) -/
theorem pe_meth {pl : Sem Bool} (he : PE X o ta) (c : Cls X.K C) (hm : Meth X.K C m f) (F : FnOk X.prog X.w X.K X.mg X.base CX k f fd ps sp) (hr : Room k X.A) (hb : Binds X.K fd ps ds) (hd : Vals dvs ds) (hx : Passes CX X E) (ha : PA X (e :: es) t)
    (hst : starEach (e :: es) X.env = (false, eval e X.env) :: starEach es X.env := by rfl) (hpl : (backTo pos (starEach es X.env)).any (·.1) = false := by rfl)
    (ht : eval (.Call (.Attribute o m apos) (e :: es) [] pos) X.env = (do
      let ov ← eval o X.env
      standAt apos.atName
      let (f, first) ← holding [ov] (getMethod ov m pl)
      callWith pos f first (backTo pos (starEach (e :: es) X.env)) (backToKw pos (keywordEach [] X.env))) := by rfl) :
    PE X (.Call (.Attribute o m apos) (e :: es) [] pos) (tMeth C m sp dvs E ta t) := by
  unfold PE at *; unfold PA at *
  exact by
    intro pins s σ H Q I h
    refine PySem.W.methodCall_KW (pl := pl) (thn (he pins s σ H _ I h) fun u s1 ⟨x, H1, I1, rx, a, dx, fs, ex, ea, l, q⟩ => ?_) ht
    subst ex
    obtain rfl : u = Value.ref a := rx
    refine getmeth_ok I1 ea c hm l ?_
    refine PySem.W.callWith_K (first := [.ref a]) (h₀ := X.base) I.ok.mod.kin hm.kp (thn (ha pos pins s1 σ H1 _ I1 q) fun us s2 ⟨vs, H2, I2, r, q2⟩ => ⟨I2.kIn, ?_⟩) hst hpl
    exact run_fn (us := .ref a :: us) (vs := .ref a :: vs) F hr hb hd hx I2 (.cons rfl r) q2

/-- o.m() -/
theorem pe_meth0 {pl : Sem Bool} (he : PE X o ta) (c : Cls X.K C) (hm : Meth X.K C m f) (F : FnOk X.prog X.w X.K X.mg X.base CX k f fd ps sp) (hr : Room k X.A) (hb : Binds X.K fd ps ds) (hd : Vals dvs ds) (hx : Passes CX X E)
    (ht : eval (.Call (.Attribute o m apos) [] [] pos) X.env = (do
      let ov ← eval o X.env
      standAt apos.atName
      let (f, first) ← holding [ov] (getMethod ov m pl)
      callWith pos f first (backTo pos (starEach [] X.env)) (backToKw pos (keywordEach [] X.env))) := by rfl) :
    PE X (.Call (.Attribute o m apos) [] [] pos) (tMeth C m sp dvs E ta tNil) := by
  unfold PE at *
  exact by
    intro pins s σ H Q I h
    refine PySem.W.methodCall_KW (pl := pl) (thn (he pins s σ H _ I h) fun u s1 ⟨x, H1, I1, rx, a, dx, fs, ex, ea, l, q⟩ => ?_) ht
    subst ex
    obtain rfl : u = Value.ref a := rx
    refine getmeth_ok I1 ea c hm l ?_
    exact PySem.W.callWith_K0 (first := [.ref a]) I1.kIn hm.kp (run_fn (us := [.ref a]) (vs := [.ref a]) F hr hb hd hx I1 (.cons rfl .nil) q)

/-- what a class must have to be made -/
structure Mk (K : PySem.W.Frag) (C f : Addr) : Prop where
  makes : PySem.W.makesIn K C = true
  init : PySem.W.findIn K (.ref C) "__init__" = some (some (.ref f))
  fn : PySem.W.isFn K (.ref f) = true
  kp : PySem.W.keepIn K (.ref C) = true

theorem run_make {pins : List (Addr × Obj)} {σ : St} {H : Hp} {s : Shared} {Q : VK} {us : List Value} {vs : List V} (M : Mk X.K C f) (F : FnOk X.prog X.w X.K X.mg X.base CX k f fd ps sp) (hr : Room (k + 1) X.A) (hb : Binds X.K fd ps ds) (hd : Vals dvs ds)
    (hx : Passes CX X E) (I : Inv X pins σ H s) (r : Vals vs us)
    (h : ∀ x dx, H x = none → H dx = none → dx ≠ x → sp (.ref x :: (vs ++ dvs)) (upd (upd H dx (.own x)) x (.ins C dx [])) (fun v H2 => v = .non ∧ Q (.ref x) H2) E) :
    wpAny (model X.prog X.w) X.A (call (.ref C) us) (EP X pins σ Q) X.xe s := by
  have hq := h (s.heap.objs.size + 1) s.heap.objs.size (I.hok.fresh (Nat.le_succ _)) (I.hok.fresh (Nat.le_refl _)) (Nat.ne_of_lt (Nat.lt_succ_self _))
  have I2 := Inv.made (C := C) I
  have r2 : Vals (V.ref (s.heap.objs.size + 1) :: (vs ++ dvs)) (Value.ref (s.heap.objs.size + 1) :: (us ++ ds)) := .cons rfl (r.append hd)
  have hl : (Value.ref (s.heap.objs.size + 1) :: us ++ ds).length = ps.length := by
    have e := r2.length
    rw [F.len _ _ _ _ hq] at e
    exact e.symm
  refine wpAny_call (make_map (f := f) I.kIn M.makes M.init (beq_iff_eq.mp M.fn) (codeAny_mono (F.run _ X.stack _ _ ⟨Value.ref (s.heap.objs.size + 1) :: us, []⟩ (Value.ref (s.heap.objs.size + 1) :: (us ++ ds)) _ _ E (hr.make C us [])
    (I2.env0.make C us []) (hb _ (Value.ref (s.heap.objs.size + 1) :: us) I2.kIn hl) r2 hq) fun r s' hq' => ?_))
  cases r with
  | error e => exact hx pins σ _ _ e s' I2 hq'
  | ok fl =>
    cases fl with
    | ret u =>
      obtain ⟨v, H', I3, rv, ev, q3⟩ := I2.after hq'
      subst ev
      exact ⟨rv, ⟨V.ref (s.heap.objs.size + 1), H', I3, rfl, q3⟩⟩
    | next => exact False.elim hq'
    | brk => exact False.elim hq'
    | cont => exact False.elim hq'
theorem pe_make0 (M : Mk X.K C f) (F : FnOk X.prog X.w X.K X.mg X.base CX k f fd ps sp) (hr : Room (k + 1) X.A) (hg : Gl X x) (hm : X.mg x = some (.ref C)) (hb : Binds X.K fd ps ds) (hd : Vals dvs ds) (hx : Passes CX X E)
    (hdb : (x == ("__debug__" : Str)) = false := by decide) : PE X (.Call (.Name x p) [] [] pos) (tMake C sp dvs E tNil) := by
  unfold PE at *
  exact by
    intro pins s σ H Q I h
    refine wpAny_Call_Name_kw (ld_glob I hg hm ?_ hdb)
    exact PySem.W.callWith_K0 I.kIn M.kp (run_make (us := []) M F hr hb hd hx I .nil h)

end

/-! ### keywords -/
/-- the values of the keywords, from the left -/
@[irreducible] def PK (X : Cx) (kws : List Keyword) (t : TA) : Prop :=
  ∀ (pos : Pos) (pins : List (Addr × Obj)) (s : Shared) (σ : St) (H : Hp) (Q : List V → Hp → Prop), Inv X pins σ H s → t σ H Q → wpAny (model X.prog X.w) X.A (evalAll ((backToKw pos (keywordEach kws X.env)).map (·.2))) (AP X pins σ Q) X.xe s
section
variable {X : Cx} {CX : CXT} {k : Nat} {f C : Addr} {fd : FuncData} {ps ks : List Str} {sp : Sp} {E : XK} {x m : Str} {p pos apos kpos : Pos} {e o : Expr} {es : List Expr} {kws : List Keyword} {te ta : TE} {t tk : TA} {nm : Option Str}
theorem pk_nil : PK X [] tNil := by
  first
  | exact (fun _ _ _ _ H Q I h => wpAny_evalAll_nil ⟨[], H, I, .nil, h⟩)
  | (unfold PK at *; exact (fun _ _ _ _ H Q I h => wpAny_evalAll_nil ⟨[], H, I, .nil, h⟩))

variable {g : List Value → List Value → List Value} {gV : List V → List V → List V}
end

/-! ### a def's body keeps its promise -/
/-- names: the parameters first -/
structure FnScope (N P : List Str) (sc : Scope) : Prop where
  kind : sc.kind = .function
  co : sc.isCoroutine = false
  gen : sc.isGenerator = false
  nd : N.Nodup
  pre : N.take P.length = P
  par : ∀ x ∈ P, sc.names.lookup x = some .local ∨ sc.names.lookup x = some .cell
  nofree : ∀ y ∈ sc.names, y.2 ≠ .free

theorem bindL_out {kindOf : Str → Option NameKind} {x : Str} : ∀ {binds : List (Str × Value)} {m : Str → Option Value}, (∀ v, (x, v) ∉ binds) → bindL kindOf binds m x = m x
  | [], _, _ => rfl
  | (n, v) :: r, m, h => by
    unfold bindL
    rw [bindL_out fun w hw => h w (List.mem_cons_of_mem _ hw)]
    split
    · have : x ≠ n := by rintro rfl; exact h v List.mem_cons_self
      simp [this]
    · rfl
theorem bindC_out {kindOf : Str → Option NameKind} {x : Str} : ∀ {binds : List (Str × Value)} {m : Str → Option Value}, (∀ v, (x, v) ∉ binds) → bindC kindOf binds m x = m x
  | [], _, _ => rfl
  | (n, v) :: r, m, h => by
    unfold bindC
    rw [bindC_out fun w hw => h w (List.mem_cons_of_mem _ hw)]
    split
    · rfl
    · have : x ≠ n := by rintro rfl; exact h v List.mem_cons_self
      simp [this]
theorem bindL_get {kindOf : Str → Option NameKind} {x : Str} {v : Value} : ∀ {P : List Str} {vs : List Value} {i : Nat} {m : Str → Option Value}, P.Nodup → P[i]? = some x → vs[i]? = some v → kindOf x = some .local →
    bindL kindOf (P.zip vs) m x = some v
  | [], _, _, _, _, h, _, _ => by simp at h
  | _ :: _, [], _, _, _, _, h, _ => by simp at h
  | p :: P, w :: vs, 0, m, nd, h1, h2, hk => by
    simp at h1 h2; subst h1; subst h2
    show bindL kindOf ((p, w) :: P.zip vs) m p = _
    unfold bindL
    rw [bindL_out fun v hv => (List.nodup_cons.mp nd).1 (List.of_mem_zip hv).1, if_pos hk]
    simp
  | p :: P, w :: vs, i + 1, m, nd, h1, h2, hk => by
    show bindL kindOf ((p, w) :: P.zip vs) m x = _
    unfold bindL
    exact bindL_get (i := i) (List.nodup_cons.mp nd).2 (by simpa using h1) (by simpa using h2) hk
theorem bindC_get {kindOf : Str → Option NameKind} {x : Str} {v : Value} : ∀ {P : List Str} {vs : List Value} {i : Nat} {m : Str → Option Value}, P.Nodup → P[i]? = some x → vs[i]? = some v → kindOf x ≠ some .local →
    bindC kindOf (P.zip vs) m x = some v
  | [], _, _, _, _, h, _, _ => by simp at h
  | _ :: _, [], _, _, _, _, h, _ => by simp at h
  | p :: P, w :: vs, 0, m, nd, h1, h2, hk => by
    simp at h1 h2; subst h1; subst h2
    show bindC kindOf ((p, w) :: P.zip vs) m p = _
    unfold bindC
    rw [bindC_out fun v hv => (List.nodup_cons.mp nd).1 (List.of_mem_zip hv).1, if_neg hk]
    simp
  | p :: P, w :: vs, i + 1, m, nd, h1, h2, hk => by
    show bindC kindOf ((p, w) :: P.zip vs) m x = _
    unfold bindC
    exact bindC_get (i := i) (List.nodup_cons.mp nd).2 (by simpa using h1) (by simpa using h2) hk

/-- the names' values at the entry -/
def start (N : List Str) (vs : List V) : St := vs.map some ++ List.replicate (N.length - vs.length) none

/-- the context of a def's body, at its entry; an exception leaves the frame, then lies as CX says -/
def cxOf (CX : CXT) (P : Program) (w : World) (K : PySem.W.Frag) (mg : Str → Option Value) (base : Heap) (N : List Str) (qual : Str) (scope : Scope) (f : Addr) (cd : Value) (A : Around) (outer : List Env) (s : Shared) (H : Hp) (E : XK) : Cx where
  prog := P
  w := w
  K := K
  mg := mg
  base := base
  A := A.deeper (envOfC qual scope s.heap.objs.size f cd)
  N := N
  s₀ := s
  H₀ := H
  env := envOfC qual scope s.heap.objs.size f cd
  outer := outer
  stack := envOfC qual scope s.heap.objs.size f cd :: outer
  ex := []
  calm := true
  fn := fun _ => true
  pn := []
  xe := fun e s' => wpAny (model P w) (A.deeper (envOfC qual scope s.heap.objs.size f cd)) (leaving (envOfC qual scope s.heap.objs.size f cd) e) (fun _ s'' => CX outer H s E e s'') (fun e' s'' => CX outer H s E e' s'') s'

theorem cell_has {sc : Scope} {n : Nat} {x : Str} (h : sc.names.lookup x = some .cell) : ∃ c, (cellsFrom n sc.names []).lookup x = some c := by
  have q := PySem.W.cellsFrom_some sc.names n [] (.inl h)
  exact Option.isSome_iff_exists.mp q

theorem inv_start {CX : CXT} {P : Program} {w : World} {K : PySem.W.Frag} {mg : Str → Option Value} {base : Heap} {N ps : List Str} {qual : Str} {scope : Scope} {f : Addr} {cd : Value} {A : Around} {outer : List Env} {s s1 : Shared} {H : Hp} {E : XK} {us : List Value} {vs : List V}
    (S : FnScope N ps scope) (hd : A.handled = none) (e0 : Env0 P w K mg base A outer s H) (hl : vs.length = ps.length) (r : Vals vs us)
    (x : InCallC s s.heap.objs.size (bindL (envOfC qual scope s.heap.objs.size f cd).kindOf (ps.zip us) fun _ => none) (cellsFrom (s.heap.objs.size + 1) scope.names []) (bindC (envOfC qual scope s.heap.objs.size f cd).kindOf (ps.zip us) fun _ => none) s1) :
    Inv (cxOf CX P w K mg base N qual scope f cd A outer s H E) [] (start N vs) H s1 := by
  have hpl : ps.length ≤ N.length := by have := congrArg List.length S.pre; rw [List.length_take] at this; omega
  obtain ⟨h1, tk, rfl, hk⟩ := x.done
  have noA : ∀ b : Addr, b ∉ (cxOf CX P w K mg base N qual scope f cd A outer s H E).ex := fun b z => absurd (show b ∈ ([] : List Addr) from z) (by simp)
  refine ⟨⟨e0.mod, S.kind, rfl, rfl, Nat.le_refl _, fun y z c h1 h2 => ?_, fun y hy => ?_, fun y c _ h => ?_, fun _ => hd, Around.frames_deeper e0.frames, .inr ⟨rfl, rfl⟩, fun b z => absurd z (noA b), e0.bs, e0.bsz, fun b _ _ => noA b, fun b z => absurd z (noA b), e0.funs, e0.frf⟩,
    rfl, e0.bare, Un.kept hk, ⟨_, x.toInCall.ns, fun i y v h1 h2 h3 => ?_⟩, fun y c h => ⟨_, x.cell y c h⟩, e0.hok.fresh (Nat.le_refl _), fun y c h => ?_, fun p hp => absurd (show p ∈ ([] : List (Addr × Obj)) from hp) (by simp), e0.hok.kept hk, ?_⟩
  · exact name_of_addr x.apart (PySem.mem_of_lookup h1) (PySem.mem_of_lookup h2)
  · have hy : scope.names.lookup y = some .cell ∨ scope.names.lookup y = some .free := hy
    rcases hy with hy | hy
    · exact cell_has hy
    · exact absurd rfl (S.nofree _ (PySem.mem_of_lookup hy))
  · exact Nat.le_of_lt (x.above y c (PySem.mem_of_lookup h))
  · have hi : i < vs.length := by
      unfold start at h2
      by_cases hi : i < vs.length
      · exact hi
      · rw [List.getElem?_append_right (by simpa using hi)] at h2
        rw [List.getElem?_replicate] at h2
        split at h2 <;> cases h2
    have ha : vs[i]? = some v := by
      unfold start at h2
      rw [List.getElem?_append_left (by simpa using hi), List.getElem?_map] at h2
      cases e : vs[i]? with
      | none => rw [e] at h2; cases h2
      | some a => rw [e] at h2; cases h2; rfl
    obtain ⟨u, hu, rv⟩ := r.get ha
    have hp : ps[i]? = some y := by
      rw [← S.pre, List.getElem?_take_of_lt (by omega)]; exact h1
    have ndP : ps.Nodup := by rw [← S.pre]; exact S.nd.sublist (List.take_sublist _ _)
    refine ⟨u, rv, ?_⟩
    rcases S.par y (List.mem_of_getElem? hp) with k | k
    · exact .inl ⟨k, bindL_get ndP hp hu k⟩
    · obtain ⟨c, e⟩ := cell_has (n := s.heap.objs.size + 1) k
      refine .inr ⟨.inl k, c, e, ?_⟩
      have q := x.cell y c e
      rw [bindC_get ndP hp hu (by show scope.names.lookup y ≠ _; rw [k]; decide)] at q
      exact q
  · exact e0.hok.fresh (Nat.le_of_lt (x.above y c (PySem.mem_of_lookup h)))
  · unfold start
    show _ = N.length
    rw [List.length_append, List.length_map, List.length_replicate]
    omega

/-- THE RULE: a def (or a method) of the text, by its body. The body's reading t is chosen for each entry; it is run at the parameters' values -/
theorem fn_of {CX : CXT} {P : Program} {w : World} {K : PySem.W.Frag} {mg : Str → Option Value} {base : Heap} {k : Nat} {f : Addr} {name qual : Str} {params : Arguments} {body : List Stmt} {scope : Scope} {dV kV doc pm cdv ct oc : Value} {an od : Option Addr}
    {osl : Array (Option Value)} {N ps : List Str} {sp : Sp} (lk : K.lookup f = some ⟨oc, od, .func (PySem.W.fnOf name qual params body scope dV kV doc pm an cdv ct), osl⟩) (hcd : PySem.W.codeIn K cdv qual = true) (S : FnScope N ps scope)
    (len : ∀ vs H Q E, sp vs H Q E → vs.length = ps.length)
    (hbody : ∀ (A : Around) (outer : List Env) (s : Shared) (H : Hp) (vs : List V) (Q : VK) (E : XK), Room k (A.deeper (envOfC qual scope s.heap.objs.size f cdv)) → sp vs H Q E →
      ∃ t, PSs (cxOf CX P w K mg base N qual scope f cdv A outer s H E) body t ∧ t { nx := fun _ H' => Q .non H', rt := Q } (start N vs) H) :
    FnOk P w K mg base CX (k + 1) f (PySem.W.fnOf name qual params body scope dV kV doc pm an cdv ct) ps sp := by
  unfold PSs at *
  exact by
    refine ⟨len, fun A outer s H args us vs Q E hr e0 hb r hsp => ?_⟩
    have hl := len _ _ _ _ hsp
    have KX : K.In s.heap := e0.mod.kin.keeps fun b o e => (e0.bs b o e).1
    have lim : s.heap.NoLimit := e0.mod.nolimit.keeps fun b o e => (e0.bs b o e).1
    have hkind : ∀ y ∈ ps.zip us, scope.names.lookup y.1 = some .local ∨ (scope.names.lookup y.1 = some .cell ∧ ((cellsFrom (s.heap.objs.size + 1) scope.names []).lookup y.1).isSome = true) := fun ⟨n, v⟩ hy => by
      rcases S.par n (List.of_mem_zip hy).1 with q | q
      · exact .inl q
      · exact .inr ⟨q, PySem.W.cellsFrom_some _ _ _ (.inl q)⟩
    refine codeAny_call_function hr.depth (KX _ _ lk) rfl S.co S.gen rfl (PySem.W.codeRec_of KX hcd) (hb _ _ _ _ ?_)
    refine wpAny_newFunctionEnv_cells S.kind hkind fun env he s1 x => ?_
    subst he
    refine ⟨lim.keeps x.toInCall.keep, codeAny_func ?_⟩
    obtain ⟨t, ht, hq⟩ := hbody A outer s H vs Q E (hr.deeper _) hsp
    have I : Inv (cxOf CX P w K mg base N qual scope f cdv A outer s H E) [] (start N vs) H s1 := inv_start S hr.hd e0 hl r x
    refine wpAny_mono (ht [] s1 (start N vs) H _ I hq) (fun fl s' hs => ?_) fun e s' hs => hs
    have fin : ∀ {σ' : St} {H' : Hp} {v : V} {u : Value}, Inv (cxOf CX P w K mg base N qual scope f cdv A outer s H E) [] σ' H' s' → RelV v u → Q v H' → CE outer P w H s Q u s' :=
      fun {σ' H' v u} J rv q => ⟨v, H', J.os, J.bare, J.base, J.hok, rv, q⟩
    cases fl with
    | ret u =>
      obtain ⟨v, σ', H', J, rv, q⟩ := hs
      exact fin J rv q
    | next =>
      obtain ⟨σ', H', J, q⟩ := hs
      exact fin (v := V.non) (u := Value.none) J rfl q
    | brk =>
      obtain ⟨_, _, _, q⟩ := hs
      exact False.elim q
    | cont =>
      obtain ⟨_, _, _, q⟩ := hs
      exact False.elim q

end L2

namespace L2
open PySem PySem.Spec PyProof.Rows
section
variable {X : Cx} {x : Str} {p pos : Pos} {e : Expr} {es : List Expr} {t : TA} {id T : String} {r : List V → Hp → VK → Prop}

def tCB (r : List V → Hp → VK → Prop) (t : TA) : TE := fun σ H Q => t σ H fun vs H1 => r vs H1 Q
/-- f(e, ..), f a built-in function -/
theorem pe_callB (hc : CallR X (.builtin id) r) (hg : Gl X x) (hm : X.mg x = none) (hv : bootBuiltins x = some (.builtin id)) (ha : PA X (e :: es) t) (hn : x ≠ "__name__" := by decide) (hdb : (x == ("__debug__" : Str)) = false := by decide)
    (he : starEach (e :: es) X.env = (false, eval e X.env) :: starEach es X.env := by rfl) (hpl : (backTo pos (starEach es X.env)).any (·.1) = false := by rfl) : PE X (.Call (.Name x p) (e :: es) [] pos) (tCB r t) := by
  unfold PE at *; unfold PA at *; unfold CallR at *
  exact by
    intro pins s σ H Q I h
    refine wpAny_Call_Name_kw (ld_blt I hg hm hv ?_ hn hdb)
    exact PyProof.Rows.callWith_builtin1 (thn (ha pos pins s σ H _ I h) fun us s1 ⟨vs, H1, I1, r1, q1⟩ => hc pins s1 σ H1 vs us Q I1 r1 q1) he hpl

/-- T(e, ..), T a built-in type -/
theorem pe_callTy (hc : CallR X (.type T) r) (hg : Gl X x) (hm : X.mg x = none) (hv : bootBuiltins x = some (.type T)) (ha : PA X (e :: es) t) (hn : x ≠ "__name__" := by decide) (hdb : (x == ("__debug__" : Str)) = false := by decide)
    (he : starEach (e :: es) X.env = (false, eval e X.env) :: starEach es X.env := by rfl) (hpl : (backTo pos (starEach es X.env)).any (·.1) = false := by rfl) : PE X (.Call (.Name x p) (e :: es) [] pos) (tCB r t) := by
  unfold PE at *; unfold PA at *; unfold CallR at *
  exact by
    intro pins s σ H Q I h
    refine wpAny_Call_Name_kw (ld_blt I hg hm hv ?_ hn hdb)
    exact PyProof.Rows.callWith_type1 (thn (ha pos pins s σ H _ I h) fun us s1 ⟨vs, H1, I1, r1, q1⟩ => hc pins s1 σ H1 vs us Q I1 r1 q1) he hpl

end
end L2

namespace HT
open PySem PyProof.Rows

/-- t < u of tuples of ints -/
def lexLt : List Int → List Int → Bool
  | [], [] => false
  | [], _ :: _ => true
  | _ :: _, [] => false
  | x :: xs, y :: ys => if x = y then lexLt xs ys else decide (x < y)
theorem lexLt_cons (x y : Int) (xs ys : List Int) : lexLt (x :: xs) (y :: ys) = if x = y then lexLt xs ys else decide (x < y) := rfl
theorem lexLt_nil_nil : lexLt [] [] = false := rfl
theorem lexLt_nil_cons (y : Int) (ys : List Int) : lexLt [] (y :: ys) = true := rfl
theorem lexLt_cons_nil (x : Int) (xs : List Int) : lexLt (x :: xs) [] = false := rfl

theorem eqAt_int (A : Around) (s : Shared) (a : Int) (t : Tok) (c : Int) (u : Tok) : ∃ e, SeqAt.EqAt A s (.int a t) (.int c u) e ∧ (e = true ↔ a = c) :=
  ⟨(a == c), SeqAt.EqAt.int_int a t c u, by simp⟩
theorem rcLt_int (A : Around) (s : Shared) (a : Int) (t : Tok) (c : Int) (u : Tok) (prog : Program) (w : World) (E : Value → Shared → Prop) (Q : Value → Shared → Prop) (h : Q (.bool (decide (a < c))) s) :
    wpAny (model prog w) A (richCompare .Lt (.int a t) (.int c u)) Q E s :=
  (PyProof.Rows.lt_int h : wpAny (model prog w) A (compareOp .Lt (.int a t) (.int c u)) Q E s)

section
open PySem.SeqAt
open PySem.AutoSeq1 (wpAny_loadPart')
open PySem.MeetsSeq PySem.MeetsSeq2 PySem.MeetsSeq3

theorem tuple_lt_ints (l b : Addr) (items items2 : Array Value) (n n2 : Nat) (dd dd2 : Option Addr) (sl sl2 : Array (Option Value)) (ns ms : List Int) (hi : IntsAre items.toList ns) (hj : IntsAre items2.toList ms) :
    Meets (Builtin.«tuple.__lt__» ⟨[.ref l, .ref b], []⟩)
      (fun _ R s => s.heap.get? l = some { cls := .type "tuple", dict := dd, data := .seq items n, slots := sl } ∧ s.heap.get? b = some { cls := .type "tuple", dict := dd2, data := .seq items2 n2, slots := sl2 } ∧
        R (.ok (.ret (.bool (lexLt ns ms)))) s) :=
  .of_wp fun prog w A R s h => by
    obtain ⟨hp, g, d, tk, os⟩ := s; obtain ⟨hl, hb, h⟩ := h
    have f2 := AutoSeq1.sub_tuple_tuple
    have z1 : items.size = ns.length := by rw [← hi.length]; simp
    have z2 : items2.size = ms.length := by rw [← hj.length]; simp
    wp_walk using wpAny_loadPart' hl, wpAny_loadPart' hb, wpAny_forIn_list _ (fun rest b s' => b.1 = none ∧ s' = ⟨hp, g, d, tk, os⟩ ∧ ∃ (vs ws : List Value) (ns' ms' : List Int), rest = vs.zip ws ∧
      IntsAre vs ns' ∧ IntsAre ws ms' ∧ ns'.length + items2.size = ms'.length + items.size ∧ R (.ok (.ret (.bool (lexLt ns' ms')))) ⟨hp, g, d, tk, os⟩) _
    case turn =>
      rintro ⟨y, x⟩ rest b s' ⟨hb', rfl, vs, ws, ns', ms', hz, hvi, hwi, hlen, hR⟩
      cases hvi with
      | nil => rw [List.zip_nil_left] at hz; cases hz
      | cons a t hvi' =>
        cases hwi with
        | nil => rw [List.zip_nil_right] at hz; cases hz
        | cons c u hwi' =>
          rw [List.zip_cons_cons] at hz
          injection hz with hyx hrest
          injection hyx with hy hx
          subst hy hx
          rw [lexLt_cons] at hR
          simp only [List.length_cons] at hlen
          obtain ⟨e, he, hiff⟩ := eqAt_int A.in1 ⟨hp, g, d, tk, os⟩ a t c u
          refine wpAny_bind (he prog w _ _ ?_)
          cases e with
          | true =>
            rw [if_pos (hiff.mp rfl)] at hR
            wp_walk
            exact ⟨rfl, rfl, _, _, _, _, hrest, hvi', hwi', by omega, hR⟩
          | false =>
            rw [if_neg (fun q => absurd (hiff.mpr q) Bool.false_ne_true)] at hR
            have hri := rcLt_int A.in1 ⟨hp, g, d, tk, os⟩ a t c u prog w
            wp_walk using hri
            exact ⟨_, rfl, by simpa using hR⟩
    case fin =>
      rintro ⟨b1, b2⟩ s' ⟨hb', rfl, vs, ws, ns', ms', hz, hvi, hwi, hlen, hR⟩
      simp only at hb'
      subst hb'
      have hv : lexLt ns' ms' = decide (items.size < items2.size) := by
        cases hvi with
        | nil =>
          cases hwi with
          | nil =>
            simp only [List.length_nil] at hlen
            rw [lexLt_nil_nil]
            exact (decide_eq_false (by omega)).symm
          | cons c u hw =>
            simp only [List.length_nil, List.length_cons] at hlen
            rw [lexLt_nil_cons]
            exact (decide_eq_true (by omega)).symm
        | cons a t hv =>
          cases hwi with
          | nil =>
            simp only [List.length_nil, List.length_cons] at hlen
            rw [lexLt_cons_nil]
            exact (decide_eq_false (by omega)).symm
          | cons c u hw =>
            rw [List.zip_cons_cons] at hz
            cases hz
      rw [hv] at hR
      wp_walk
      exact ⟨_, rfl, by simpa [Builtin.Tuple.tupleCompareSizes] using hR⟩
    case h =>
      exact ⟨rfl, rfl, items.toList, items2.toList, ns, ms, rfl, hi, hj, by omega, h⟩
end

section
variable {prog : Program} {w : World} {A : Around} {E : Value → Shared → Prop} {s : Shared}

theorem lt_tupInts {l b : Addr} {items items2 : Array Value} {ns ms : List Int} {Q : Value → Shared → Prop} (hl : IsTup s.heap l items) (hb : IsTup s.heap b items2) (hi : IntsAre items.toList ns) (hj : IntsAre items2.toList ms)
    (hu : A.units < cLine) (h : Q (.bool (lexLt ns ms)) s) : wpAny (model prog w) A (compareOp .Lt (.ref l) (.ref b)) Q E s := by
  obtain ⟨⟨cls, dd, data, sl⟩, ho, hc, n, hd⟩ := id hl
  obtain ⟨⟨cls2, dd2, data2, sl2⟩, ho2, hc2, n2, hd2⟩ := id hb
  simp only at hc hd hc2 hd2
  subst hc hd hc2 hd2
  exact richCompare_meets_room (op := .Lt) ⟨_, ho, rfl⟩ ⟨_, ho2, rfl⟩ PySem.F.slot_tuple_lt PySem.F.entry_tuple_lt (PySem.F.args_tuple_lt_2 _ _) (tuple_lt_ints l b items items2 n n2 dd dd2 sl sl2 ns ms hi hj)
    ⟨ho, ho2, show Value.bool (lexLt ns ms) ≠ Value.notImplemented ∧ Q (.bool (lexLt ns ms)) s from ⟨(fun x => nomatch x), h⟩⟩ hu

/-- t + u, t not empty -/
theorem cat_tup {t b : Addr} {vs ws : List Value} {Q : Value → Shared → Prop} (ht : IsTup s.heap t vs.toArray) (hb : IsTup s.heap b ws.toArray) (hv : vs ≠ [])
    (h1 : ws = [] → Q (.ref t) s) (h2 : ws ≠ [] → Q (.ref s.heap.objs.size) { s with heap := s.heap.push { cls := .type "tuple", data := .seq (vs ++ ws).toArray } })
    (hsz : vs.length + ws.length ≤ sizeLine) : wpAny (model prog w) A (binaryOp .Add (.ref t) (.ref b)) Q E s := by
  obtain ⟨⟨cls, dd, data, sl⟩, ho, hc, n, hd⟩ := id ht
  obtain ⟨⟨cls2, dd2, data2, sl2⟩, ho2, hc2, n2, hd2⟩ := id hb
  simp only at hc hd hc2 hd2
  subst hc hd hc2 hd2
  have e : vs.toArray ++ ws.toArray = (vs ++ ws).toArray := by simp
  by_cases hw : ws = []
  · exact concat_meets ⟨_, ho, rfl⟩ ⟨_, ho2, rfl⟩ noFill_tuple_add seq_tuple_add PySem.F.slot_tuple_add PySem.F.entry_tuple_add (PySem.F.args_tuple_add_2 _ _)
      (tuple_addW1 t b vs.toArray ws.toArray n n2 dd dd2 sl sl2 (by simpa using hv) (by simp [hw])) ⟨ho, ho2, h1 hw⟩
  · refine concat_meets ⟨_, ho, rfl⟩ ⟨_, ho2, rfl⟩ noFill_tuple_add seq_tuple_add PySem.F.slot_tuple_add PySem.F.entry_tuple_add (PySem.F.args_tuple_add_2 _ _)
      (tuple_addW2 t b vs.toArray ws.toArray n n2 dd dd2 sl sl2 (by simpa using hv) (by simpa using hw) (by rw [List.size_toArray, List.size_toArray]; exact hsz)) ⟨ho, ho2, ?_⟩
    rw [e]
    exact h2 hw

/-! ### t[a:b], not the whole -/
/-- a slice's bound as a place among n (d where it is left out) -/
def sIx (n d : Nat) : Option Int → Nat
  | none => d
  | some v => if v < 0 then (v + (n : Int)).toNat else min v.toNat n
theorem sIx_none (n d : Nat) : sIx n d none = d := rfl
theorem sIx_nat (n d k : Nat) : sIx n d (some (k : Int)) = min k n := by
  show (if (k : Int) < 0 then ((k : Int) + (n : Int)).toNat else min (k : Int).toNat n) = min k n
  rw [if_neg (by omega), Int.toNat_natCast]
end
end HT

namespace L2
open PySem PySem.Spec PyProof.Rows

/-! ### the parts of a slice -/
abbrev TO := St → Hp → (Option Int → Hp → Prop) → Prop
/-- a slice's part (left out, or an int) -/
@[irreducible] def PO (X : Cx) (e : Option Expr) (t : TO) : Prop :=
  ∀ (pins : List (Addr × Obj)) (s : Shared) (σ : St) (H : Hp) (Q : Option Int → Hp → Prop), Inv X pins σ H s → t σ H Q →
    wpAny (model X.prog X.w) X.A (evalPart e X.env) (fun u s' => ∃ o H', Inv X pins σ H' s' ∧ IsPart u o ∧ Q o H') X.xe s
def tNoPart : TO := fun _ H Q => Q none H
def tPart (t : TE) : TO := fun σ H Q => t σ H fun x H1 => ∃ i, x = .int i ∧ Q (some i) H1

theorem intsAre_of {ns : List Int} : ∀ {us : List Value}, Vals (ns.map V.int) us → IntsAre us ns := by
  induction ns with
  | nil => intro us r; rw [List.map_nil] at r; cases r; exact .nil
  | cons n ns ih =>
    intro us r
    rw [List.map_cons] at r
    cases r with
    | cons r1 r2 =>
      obtain ⟨t, e⟩ := r1
      subst e
      exact .cons n t (ih r2)

section
variable {X : Cx} {e : Expr} {te : TE} {lo hi : Option Expr} {tl th : TO} {pos p2 : Pos}

theorem po_none : PO X none tNoPart := by
  unfold PO at *
  exact by
    intro pins s σ H Q I h
    rw [evalPart_none]
    exact wpAny_pure ⟨none, H, I, .none, h⟩

theorem po_some (h : PE X e te) : PO X (some e) (tPart te) := by
  unfold PE at *; unfold PO at *
  exact by
    intro pins s σ H Q I hw
    rw [evalPart_some]
    refine thn (h pins s σ H _ I hw) fun u s1 ⟨x, H1, I1, r1, q1⟩ => ?_
    obtain ⟨i, rfl, q⟩ := q1
    obtain ⟨t, rfl⟩ := r1
    exact ⟨some i, H1, I1, .int i t, q⟩

/-- what a slice of a value is, by values: the slice object stands at sl -/
@[irreducible] def SlR (X : Cx) (r : V → Option Int → Option Int → Hp → VK → Prop) : Prop :=
  ∀ (pins : List (Addr × Obj)) (s : Shared) (σ : St) (H : Hp) (x : V) (v vl vu : Value) (lo hi : Option Int) (sl : Addr) (Q : VK), Inv X pins σ H s → RelV x v → s.heap.IsSliceOf sl vl vu .none → IsPart vl lo → IsPart vu hi → r x lo hi H Q →
    ∃ T id, typeLookup (.type T) "__getitem__" = pure (some (.builtin id)) ∧ s.TypeIs v T ∧ wpAny (model X.prog X.w) X.A (getItem v (.ref sl)) (EP X pins σ Q) X.xe s
theorem SlR.or {r r' : V → Option Int → Option Int → Hp → VK → Prop} (h : SlR X r) (h' : SlR X r') : SlR X (fun x lo hi H Q => r x lo hi H Q ∨ r' x lo hi H Q) := by
  unfold SlR at *
  exact by
    intro pins s σ H x v vl vu lo hi sl Q I rx hs pl pu q
    rcases q with q | q
    · exact h pins s σ H x v vl vu lo hi sl Q I rx hs pl pu q
    · exact h' pins s σ H x v vl vu lo hi sl Q I rx hs pl pu q

def tSl (r : V → Option Int → Option Int → Hp → VK → Prop) (te : TE) (tl th : TO) : TE := fun σ H Q => te σ H fun x H1 => tl σ H1 fun l H2 => th σ H2 fun u H3 => r x l u H3 Q
/-- a[lo:hi], any a -/
theorem pe_slice {r : V → Option Int → Option Int → Hp → VK → Prop} (hr : SlR X r) (he : PE X e te) (hl : PO X lo tl) (hu : PO X hi th) : PE X (.Subscript e (.Slice lo hi none p2) pos) (tSl r te tl th) := by
  unfold PE at *; unfold PO at *; unfold SlR at *
  exact by
    intro pins s σ H Q I h
    refine Subscript_ (thn (he pins s σ H _ I h) fun v s1 ⟨x, H1, I1, r1, q1⟩ => ?_)
    refine wpAny_Slice (thn (hl pins s1 σ H1 _ I1 q1) fun vl s2 ⟨l, H2, I2, pl, q2⟩ => thn (hu pins s2 σ H2 _ I2 q2) fun vu s3 ⟨u, H3, I3, pu, q3⟩ => ?_)
    rw [evalPart_none]
    refine wpAny_pure ?_
    have I4 : Inv X pins σ H3 { s3 with heap := s3.heap.push { cls := .type "slice", data := .fields #[vl, vu, .none] } } := I3.kept (t' := s3.toks) fun b ob q => Heap.get?_push_of_some _ q
    obtain ⟨T, id, hT, ht, hg⟩ := hr pins { s3 with heap := s3.heap.push { cls := .type "slice", data := .fields #[vl, vu, .none] } } σ H3 x v vl vu l u s3.heap.objs.size Q I4 r1 (Heap.IsSliceOf.new ..) pl pu q3
    show wpAny (model X.prog X.w) X.A (subscriptTail e (.Slice lo hi none p2) v (.ref s3.heap.objs.size)) (EP X pins σ Q) X.xe { s3 with heap := s3.heap.push { cls := .type "slice", data := .fields #[vl, vu, .none] } }
    exact tail_any (ops := [.ref s3.heap.objs.size, v]) ht hT hg (by with_unfolding_all rfl)

/-- the items of xs[lo:hi] -/
def cutV (xs : List V) (lo hi : Option Int) : List V := (xs.drop (HT.sIx xs.length 0 lo)).take (HT.sIx xs.length xs.length hi - HT.sIx xs.length 0 lo)
theorem cutV_length (xs : List V) (lo hi : Option Int) : (cutV xs lo hi).length ≤ xs.length := by
  unfold cutV
  rw [List.length_take, List.length_drop]
  omega
/-! ### t < u, t + u -/
def rLtT (K : PySem.W.Frag) : R2 := fun x y H Q => ∃ a b ns ms, x = .ref a ∧ y = .ref b ∧ SqT K H a (ns.map V.int) ∧ SqT K H b (ms.map V.int) ∧ Q (.bl (HT.lexLt ns ms)) H
theorem op_ltT (hu : X.A.units < cLine) : OpR X (compareOp .Lt) (rLtT X.K) := by
  unfold OpR at *
  exact by
    intro pins s σ H x y v u Q I rx ry h
    obtain ⟨a, b, ns, ms, rfl, rfl, ha, hb, q⟩ := h
    cases rx
    cases ry
    obtain ⟨its, r1, p1, _⟩ := I.tuple ha
    obtain ⟨its2, r2, p2, _⟩ := I.tuple hb
    have i1 : IntsAre its.toArray.toList ns := intsAre_of r1
    have i2 : IntsAre its2.toArray.toList ms := intsAre_of r2
    exact HT.lt_tupInts p1 p2 i1 i2 hu ⟨.bl (HT.lexLt ns ms), H, I, rfl, q⟩

/-- t + u, t not empty: u empty gives t itself -/
def rCatT (K : PySem.W.Frag) : R2 := fun x y H Q => ∃ a b xs ys, x = .ref a ∧ y = .ref b ∧ SqT K H a xs ∧ SqT K H b ys ∧ xs ≠ [] ∧ xs.length + ys.length ≤ sizeLine ∧
  (ys = [] → Q (.ref a) H) ∧ (ys ≠ [] → ∀ p, H p = none → Q (.ref p) (upd H p (.tup (xs ++ ys))))
theorem Vals.nil_iff {xs : List V} {us : List Value} (r : Vals xs us) : us = [] ↔ xs = [] := by
  cases r with
  | nil => simp
  | cons _ _ => simp
theorem op_catT : OpR X (binaryOp .Add) (rCatT X.K) := by
  unfold OpR at *
  exact by
    intro pins s σ H x y v u Q I rx ry h
    obtain ⟨a, b, xs, ys, rfl, rfl, ha, hb, hx, hz, q1, q2⟩ := h
    cases rx
    cases ry
    obtain ⟨its, r1, p1, _⟩ := I.tuple ha
    obtain ⟨its2, r2, p2, _⟩ := I.tuple hb
    refine HT.cat_tup p1 p2 (fun z => hx (r1.nil_iff.mp z)) (fun z => ⟨.ref a, H, I, rfl, q1 (r2.nil_iff.mp z)⟩) (fun z => ?_) (by rw [← r1.length, ← r2.length]; exact hz)
    refine ⟨.ref s.heap.objs.size, _, I.laid (t' := s.toks) (o := .tup (xs ++ ys)) (fun b ob q => Heap.get?_push_of_some _ q) (Nat.le_refl _) ?_, rfl, q2 (fun w => z (r2.nil_iff.mpr w)) _ (I.hok.fresh (Nat.le_refl _))⟩
    exact ⟨by rw [List.length_append]; exact hz, _, r1.append r2, IsTup.new _ _⟩

end
end L2

namespace L2
open PySem PySem.Spec PyProof.Rows

/-! ### places -/
/-- the place that an index of any sign means -/
def ixN (n : Nat) (i : Int) : Option Nat := if 0 ≤ i then (if i < n then some i.toNat else none) else if -(n : Int) ≤ i then some (i + n).toNat else none
def atI {α : Type} (xs : List α) (i : Int) : Option α := (ixN xs.length i).bind fun j => xs[j]?
theorem ixN_seq {n : Nat} {i : Int} {j : Nat} (h : ixN n i = some j) : seqIndex? i n = some j ∧ j < n ∧ -(n : Int) ≤ i ∧ i < n := by
  unfold ixN at h
  by_cases h0 : 0 ≤ i
  · rw [if_pos h0] at h
    by_cases h1 : i < n
    · rw [if_pos h1] at h
      have e : i.toNat = j := Option.some.inj h
      exact ⟨by rw [seqIndex_of h0 h1, e], by omega, by omega, h1⟩
    · rw [if_neg h1] at h; cases h
  · rw [if_neg h0] at h
    by_cases h1 : -(n : Int) ≤ i
    · rw [if_pos h1] at h
      have e : (i + n).toNat = j := Option.some.inj h
      exact ⟨by rw [seqIndex_neg (by omega) h1, e], by omega, h1, by omega⟩
    · rw [if_neg h1] at h; cases h
theorem atI_get {α : Type} {xs : List α} {i : Int} {v : α} (h : atI xs i = some v) : ∃ j, seqIndex? i xs.length = some j ∧ xs[j]? = some v ∧ j < xs.length ∧ -(xs.length : Int) ≤ i ∧ i < xs.length := by
  unfold atI at h
  cases e : ixN xs.length i with
  | none => rw [e] at h; cases h
  | some j =>
    rw [e] at h
    obtain ⟨h1, h2, h3, h4⟩ := ixN_seq e
    exact ⟨j, h1, h, h2, h3, h4⟩
theorem atI_nat {α : Type} {xs : List α} {j : Nat} {v : α} (h : xs[j]? = some v) : atI xs (j : Int) = some v := by
  have hj : j < xs.length := (List.getElem?_eq_some_iff.mp h).1
  have e : ixN xs.length (j : Int) = some j := by
    unfold ixN
    rw [if_pos (by omega), if_pos (by omega)]; simp
  unfold atI; rw [e]; exact h
theorem atI_last {α : Type} (xs : List α) (v : α) : atI (xs ++ [v]) (-1) = some v := by
  have hl : (xs ++ [v]).length = xs.length + 1 := by simp
  have e : ixN (xs ++ [v]).length (-1) = some xs.length := by
    unfold ixN
    rw [hl, if_neg (by decide), if_pos (by omega)]
    congr 1
    omega
  unfold atI
  rw [e]
  show (xs ++ [v])[xs.length]? = some v
  simp

/-! ### what may be subscripted -/
/-- what stands as an index of a plain subscript -/
def PlainIx (b : Expr) : Prop := ∀ o i, subscripted b false o i = operate [o, i] (getItem o i)
/-- a subscript by values -/
@[irreducible] def IxR (X : Cx) (r : R2) : Prop :=
  ∀ (value slice : Expr) (pins : List (Addr × Obj)) (s : Shared) (σ : St) (H : Hp) (x y : V) (v u : Value) (Q : VK), Inv X pins σ H s → RelV x v → RelV y u → r x y H Q →
    subscripted slice false v u = operate [v, u] (getItem v u) → wpAny (model X.prog X.w) X.A (subscriptTail value slice v u) (EP X pins σ Q) X.xe s
/-- a call of a builtin's method by values: the receiver, the arguments -/
@[irreducible] def MtR (X : Cx) (id : String) (r : V → List V → Hp → VK → Prop) : Prop :=
  ∀ (pins : List (Addr × Obj)) (s : Shared) (σ : St) (H : Hp) (x : V) (xs : List V) (v : Value) (us : List Value) (Q : VK), Inv X pins σ H s → RelV x v → Vals xs us → r x xs H Q →
    wpAny (model X.prog X.w) X.A (call (.builtin id) (v :: us)) (EP X pins σ Q) X.xe s
section
variable {X : Cx} {a b : Expr} {ta tb : TE} {pos : Pos}
theorem IxR.or {r r' : R2} (h : IxR X r) (h' : IxR X r') : IxR X (fun x y H Q => r x y H Q ∨ r' x y H Q) := by
  unfold IxR at *
  exact by
    intro value slice pins s σ H x y v u Q I rx ry q hs
    rcases q with q | q
    · exact h value slice pins s σ H x y v u Q I rx ry q hs
    · exact h' value slice pins s σ H x y v u Q I rx ry q hs

theorem MtR.or {id : String} {r r' : V → List V → Hp → VK → Prop} (h : MtR X id r) (h' : MtR X id r') : MtR X id (fun x xs H Q => r x xs H Q ∨ r' x xs H Q) := by
  unfold MtR at *
  exact by
    intro pins s σ H x xs v us Q I rx rs q
    rcases q with q | q
    · exact h pins s σ H x xs v us Q I rx rs q
    · exact h' pins s σ H x xs v us Q I rx rs q

/-- a[b] -/
theorem pe_ix {r : R2} (hr : IxR X r) (ha : PE X a ta) (hb : PE X b tb) (hs : PlainIx b) : PE X (.Subscript a b pos) (tOp r ta tb) := by
  unfold PE; unfold IxR at hr
  exact by
    intro pins s σ H Q I h
    exact Subscript_ (binT ha hb I h fun v u s2 x y H2 I2 rx ry q => hr a b pins s2 σ H2 x y v u Q I2 rx ry q (hs _ _))

def rIxL (K : PySem.W.Frag) : R2 := fun x y H Q => ∃ p xs i v, x = .ref p ∧ y = .int i ∧ SqL K H p xs ∧ atI xs i = some v ∧ Q v H
def rIxT (K : PySem.W.Frag) : R2 := fun x y H Q => ∃ p xs i v, x = .ref p ∧ y = .int i ∧ SqT K H p xs ∧ atI xs i = some v ∧ Q v H
def rIxS : R2 := fun x y H Q => ∃ z i c, x = .str z ∧ y = .int i ∧ z.length ≤ sizeLine ∧ atI z.cps.toList i = some c ∧ Q (.str ⟨#[c]⟩) H
theorem ix_list : IxR X (rIxL X.K) := by
  unfold IxR at *
  exact by
    intro value slice pins s σ H x y v u Q I rx ry h hs
    obtain ⟨p, xs, i, z, rfl, rfl, hq, he, q⟩ := h
    cases rx
    obtain ⟨t, rfl⟩ := ry
    obtain ⟨its, r, pl, hz⟩ := I.list hq
    obtain ⟨j, h1, h2, h3, h4, h5⟩ := atI_get he
    obtain ⟨w, ew, rw'⟩ := r.get h2
    have hl := r.length
    have hn := line63
    have fin : EP X pins σ Q w s := ⟨z, H, I, rw', q⟩
    by_cases h0 : 0 ≤ i
    · have hj : i.toNat = j := by
        rw [seqIndex_of h0 h5] at h1
        exact Option.some.inj h1
      exact item_listR pl.isList h0 (by omega) (by rw [hj]; simpa using ew) fin hs
    · have hj : (i + (its.toArray.size : Int)).toNat = j := by
        rw [seqIndex_neg (by omega) h4] at h1
        rw [List.size_toArray, ← hl]
        exact Option.some.inj h1
      exact subscriptTail_builtinR (x := w) pl.isList.typeIs slot_list_getitem.lookup
        (wpAny_getItem_list_neg (Q := fun r s' => r = w ∧ EP X pins σ Q r s') pl.isList (by omega) (by rw [List.size_toArray] <;> omega) (by omega) (by rw [hj]; simpa using ew) ⟨rfl, fin⟩) hs

theorem ix_tup : IxR X (rIxT X.K) := by
  unfold IxR at *
  exact by
    intro value slice pins s σ H x y v u Q I rx ry h hs
    obtain ⟨p, xs, i, z, rfl, rfl, hq, he, q⟩ := h
    cases rx
    obtain ⟨t, rfl⟩ := ry
    obtain ⟨its, r, pl, hz⟩ := I.tuple hq
    obtain ⟨j, h1, h2, h3, h4, h5⟩ := atI_get he
    obtain ⟨w, ew, rw'⟩ := r.get h2
    have hl := r.length
    have hn := line63
    have fin : EP X pins σ Q w s := ⟨z, H, I, rw', q⟩
    exact subscriptTail_builtinR (x := w) pl.typeIs slot_tuple_getitem.lookup
      (getItem_tuple (j := j) (Q := fun r s' => r = w ∧ EP X pins σ Q r s') pl (by omega) (by omega) (by rw [List.size_toArray, ← hl]; exact h1) (by simpa using ew) ⟨rfl, fin⟩) hs

theorem ix_str : IxR X rIxS := by
  unfold IxR at *
  exact by
    intro value slice pins s σ H x y v u Q I rx ry h hs
    obtain ⟨z, i, c, rfl, rfl, hz, he, q⟩ := h
    obtain ⟨t, rfl⟩ := rx
    obtain ⟨t', rfl⟩ := ry
    obtain ⟨j, h1, h2, h3, h4, h5⟩ := atI_get he
    have hl : z.cps.toList.length = z.length := by simp [Str.length]
    rw [hl] at h1 h4 h5
    have hn := line63
    exact tail_any (typeIs_str s z t) slot_str_getitem.lookup (getItem_str (c := c) (by
      have e1 : decide (i < -(2 ^ 63 : Int)) = false := decide_eq_false (by omega)
      have e2 : decide (i ≥ 2 ^ 63) = false := decide_eq_false (by omega)
      rw [e1, e2, Bool.or_false]) (by rw [h1]; simpa using h2) ⟨.str ⟨#[c]⟩, H, I.tok _, ⟨_, rfl⟩, q⟩) hs

/-! ### xs[i] = v, any sign -/
theorem Inv.lst {pins : List (Addr × Obj)} {σ : St} {H : Hp} {s : Shared} {p : Addr} {xs : List V} (I : Inv X pins σ H s) (h : H p = some (.lst xs)) :
    ∃ (its : List Value) (n : Nat), Vals xs its ∧ s.heap.get? p = some { cls := .type "list", data := .seq its.toArray n } ∧ xs.length ≤ sizeLine := by
  obtain ⟨z, its, n, r, e⟩ := I.hok p _ h
  exact ⟨its, n, r, e, z⟩
/-! ### slices -/
theorem slice_bounds (lo hi : Option Int) (n : Nat) : (sliceBounds lo hi none n).1 = ((HT.sIx n 0 lo : Nat) : Int) ∧ (sliceBounds lo hi none n).2.1 = ((HT.sIx n n hi : Nat) : Int) ∧ (sliceBounds lo hi none n).2.2 = 1 := by
  refine ⟨?_, ?_, rfl⟩
  · cases lo with
    | none => simp [sliceBounds, HT.sIx]
    | some i =>
      simp only [sliceBounds, HT.sIx, Option.getD_none, show (1 : Int) > 0 by decide, if_true]
      by_cases h : i < 0
      · simp only [h, if_true] <;> omega
      · simp only [h, if_false] <;> omega
  · cases hi with
    | none => simp [sliceBounds, HT.sIx]
    | some i =>
      simp only [sliceBounds, HT.sIx, Option.getD_none, show (1 : Int) > 0 by decide, if_true]
      by_cases h : i < 0
      · simp only [h, if_true] <;> omega
      · simp only [h, if_false] <;> omega
theorem slicePick_cut (its : List Value) (lo hi : Option Int) : slicePick its.toArray lo hi none = ((its.drop (HT.sIx its.length 0 lo)).take (HT.sIx its.length its.length hi - HT.sIx its.length 0 lo)).toArray := by
  obtain ⟨h1, h2, h3⟩ := slice_bounds lo hi its.toArray.size
  unfold slicePick
  rw [h1, h2, h3]
  simp only [sliceRange_one, pick_run, List.size_toArray] <;> rfl
/-- xs[lo:hi] of a list: a new list -/
def rSlL (K : PySem.W.Frag) : V → Option Int → Option Int → Hp → VK → Prop := fun x lo hi H Q => ∃ a xs, x = .ref a ∧ SqL K H a xs ∧ ∀ p, H p = none → Q (.ref p) (upd H p (.lst (cutV xs lo hi)))
theorem sl_list : SlR X (rSlL X.K) := by
  unfold SlR at *
  exact by
    intro pins s σ H x v vl vu lo hi sl Q I rx hs pl pu h
    obtain ⟨a, xs, rfl, hx, q⟩ := h
    cases rx
    obtain ⟨its, r, ht, hz⟩ := I.list hx
    have hlen := r.length
    refine ⟨"list", _, slot_list_getitem.lookup, ht.isList.typeIs, ?_⟩
    refine wpAny_getItem_list_slice ht.isList hs pl pu .none (by simp) ?_ (by rw [List.size_toArray] <;> omega)
    rw [slicePick_cut, ← hlen]
    refine ⟨.ref s.heap.objs.size, _, I.laid (t' := s.toks) (o := .lst (cutV xs lo hi)) (fun b ob q => Heap.get?_push_of_some _ q) (Nat.le_refl _) ?_, rfl, q _ (I.hok.fresh (Nat.le_refl _))⟩
    exact ⟨Nat.le_trans (cutV_length xs lo hi) hz, _, 0, (r.drop (HT.sIx xs.length 0 lo)).take (HT.sIx xs.length xs.length hi - HT.sIx xs.length 0 lo), Heap.get?_push_size _ rfl⟩

/-! ### in, not in: flat items -/
def flatV : V → Bool
  | .non => true
  | .bl _ => true
  | .int _ => true
  | .str _ => true
  | _ => false
/-- == of flat values -/
def eqV : V → V → Bool
  | .non, .non => true
  | .bl a, .bl b => a == b
  | .bl a, .int b => (if a then 1 else 0) == b
  | .int a, .bl b => a == (if b then 1 else 0)
  | .int a, .int b => a == b
  | .str a, .str b => a == b
  | _, _ => false
theorem eqAt_V {A : Around} {s : Shared} {y x : V} {u v : Value} (ry : RelV y u) (rx : RelV x v) (fy : flatV y = true) (fx : flatV x = true) : SeqAt.EqAt A s u v (eqV y x) := by
  cases y with
  | non =>
    cases ry
    cases x with
    | non => cases rx; exact SeqAt.EqAt.same _
    | bl b => cases rx; exact SeqAt.EqAt.none_bool b
    | int b => obtain ⟨t, rfl⟩ := rx; exact SeqAt.EqAt.none_int b t
    | str b => obtain ⟨t, rfl⟩ := rx; exact SeqAt.EqAt.none_str b t
    | _ => exact absurd (show false = true from fx) Bool.false_ne_true
  | bl a =>
    cases ry
    cases x with
    | non => cases rx; exact SeqAt.EqAt.bool_none a
    | bl b => cases rx; exact SeqAt.EqAt.bool_bool a b
    | int b => obtain ⟨t, rfl⟩ := rx; exact SeqAt.EqAt.bool_int a b t
    | str b => obtain ⟨t, rfl⟩ := rx; exact SeqAt.EqAt.bool_str a b t
    | _ => exact absurd (show false = true from fx) Bool.false_ne_true
  | int a =>
    obtain ⟨t', rfl⟩ := ry
    cases x with
    | non => cases rx; exact SeqAt.EqAt.int_none a t'
    | bl b => cases rx; exact SeqAt.EqAt.int_bool a t' b
    | int b => obtain ⟨t, rfl⟩ := rx; exact SeqAt.EqAt.int_int a t' b t
    | str b => obtain ⟨t, rfl⟩ := rx; exact SeqAt.EqAt.int_str a t' b t
    | _ => exact absurd (show false = true from fx) Bool.false_ne_true
  | str a =>
    obtain ⟨t', rfl⟩ := ry
    cases x with
    | non => cases rx; exact SeqAt.EqAt.str_none a t'
    | bl b => cases rx; exact SeqAt.EqAt.str_bool a t' b
    | int b => obtain ⟨t, rfl⟩ := rx; exact SeqAt.EqAt.str_int a t' b t
    | str b => obtain ⟨t, rfl⟩ := rx; exact SeqAt.EqAt.str_str a t' b t
    | _ => exact absurd (show false = true from fx) Bool.false_ne_true
  | _ => exact absurd (show false = true from fy) Bool.false_ne_true
/-- the items' answers, read off the values (a value's own answer does not lean on its token) -/
def eqU (x : V) (u : Value) : Bool := match u with
  | .none => eqV .non x
  | .bool b => eqV (.bl b) x
  | .int i _ => eqV (.int i) x
  | .str z _ => eqV (.str z) x
  | _ => false
theorem eqU_of {x y : V} {u : Value} (r : RelV y u) (f : flatV y = true) : eqU x u = eqV y x := by
  cases y with
  | non => cases r; rfl
  | bl b => cases r; rfl
  | int i => obtain ⟨t, rfl⟩ := r; rfl
  | str z => obtain ⟨t, rfl⟩ := r; rfl
  | _ => exact absurd (show false = true from f) Bool.false_ne_true
theorem any_eqU {x : V} : ∀ {xs : List V} {us : List Value}, Vals xs us → xs.all flatV = true → us.any (eqU x) = xs.any fun y => eqV y x
  | _, _, .nil, _ => rfl
  | y :: xs, u :: us, .cons r t, f => by
    rw [List.all_cons, Bool.and_eq_true] at f
    rw [List.any_cons, List.any_cons, eqU_of r f.1, any_eqU t f.2]
theorem mem_eqAt {A : Around} {s : Shared} {x : V} {v : Value} (rx : RelV x v) (fx : flatV x = true) : ∀ {xs : List V} {us : List Value}, Vals xs us → xs.all flatV = true → ∀ u ∈ us, SeqAt.EqAt A s u v (eqU x u)
  | _, _, .nil, _ => fun u hu => by cases hu
  | y :: xs, u :: us, .cons r t, f => fun u' hu => by
    rw [List.all_cons, Bool.and_eq_true] at f
    rcases List.mem_cons.mp hu with rfl | hu
    · rw [eqU_of r f.1]; exact eqAt_V r rx f.1 fx
    · exact mem_eqAt rx fx t f.2 u' hu
def inV (x : V) (xs : List V) : Bool := xs.any fun y => eqV y x
/-- x in a list or tuple of flat items -/
def rIn (K : PySem.W.Frag) (neg : Bool) : R2 := fun x y H Q => ∃ p xs, y = .ref p ∧ (SqL K H p xs ∨ SqT K H p xs) ∧ flatV x = true ∧ xs.all flatV = true ∧ Q (.bl (if neg then !inV x xs else inV x xs)) H
theorem op_in_seq : OpR X (compareOp .In) (rIn X.K false) := by
  unfold OpR at *
  exact by
    intro pins s σ H x y v u Q I rx ry h
    obtain ⟨p, xs, rfl, hq, fx, fs, q⟩ := h
    cases ry
    rcases hq with hq | hq
    · obtain ⟨its, r, pl, hz⟩ := I.list hq
      refine SeqAt.in_listAt (eqU x) pl.isList (fun w hw => mem_eqAt rx fx r fs w (by simpa using hw)) ⟨.bl _, H, I, rfl, ?_⟩
      rw [show its.toArray.any (eqU x) = its.any (eqU x) by simp, any_eqU r fs]
      exact q
    · obtain ⟨its, r, pl, hz⟩ := I.tuple hq
      refine SeqAt.in_tupleAt (eqU x) pl (fun w hw => mem_eqAt rx fx r fs w (by simpa using hw)) ⟨.bl _, H, I, rfl, ?_⟩
      rw [show its.toArray.any (eqU x) = its.any (eqU x) by simp, any_eqU r fs]
      exact q

/-! ### len, list(x), tuple(x) of any list or tuple that is read -/
theorem call_len_seq : CallR X (.builtin "len") (fun xs H Q => ∃ p ys, xs = [.ref p] ∧ (SqL X.K H p ys ∨ SqT X.K H p ys) ∧ Q (.int ys.length) H) := by
  unfold CallR at *
  exact by
    intro pins s σ H xs us Q I r h
    obtain ⟨p, ys, rfl, hq, q⟩ := h
    obtain ⟨u, rfl, rx⟩ := vals1 r
    cases rx
    have hn := line63
    rcases hq with hq | hq
    · obtain ⟨its, r', pl, hz⟩ := I.list hq
      have hlen := r'.length
      exact Calls.call_len_list pl.isList (by simp only [List.size_toArray] <;> omega) ⟨.int ys.length, H, I.tok _, ⟨s.toks + 1, by rw [List.size_toArray, hlen]⟩, q⟩
    · obtain ⟨its, r', pl, hz⟩ := I.tuple hq
      have hlen := r'.length
      exact len_tuple pl (by simp only [List.size_toArray] <;> omega) ⟨.int ys.length, H, I.tok _, ⟨s.toks + 1, by rw [List.size_toArray, hlen]⟩, q⟩

theorem call_len_str : CallR X (.builtin "len") (fun xs H Q => ∃ z, xs = [.str z] ∧ z.length ≤ sizeLine ∧ Q (.int z.length) H) := by
  unfold CallR at *
  exact by
    intro pins s σ H xs us Q I r h
    obtain ⟨z, rfl, hz, q⟩ := h
    obtain ⟨u, rfl, t, rfl⟩ := vals1 r
    have hn := line63
    exact len_str (by omega) ⟨.int z.length, H, I.tok _, ⟨_, rfl⟩, q⟩

theorem CallR.or {f : Value} {r r' : List V → Hp → VK → Prop} (h : CallR X f r) (h' : CallR X f r') : CallR X f (fun xs H Q => r xs H Q ∨ r' xs H Q) := by
  unfold CallR at *
  exact by
    intro pins s σ H xs us Q I rs q
    rcases q with q | q
    · exact h pins s σ H xs us Q I rs q
    · exact h' pins s σ H xs us Q I rs q

theorem call_list_of : CallR X (.type "list") (fun xs H Q => ∃ p ys, xs = [.ref p] ∧ (SqL X.K H p ys ∨ SqT X.K H p ys) ∧ ∀ l, H l = none → Q (.ref l) (upd H l (.lst ys))) := by
  unfold CallR at *
  exact by
    intro pins s σ H xs us Q I r h
    obtain ⟨p, ys, rfl, hq, q⟩ := h
    obtain ⟨u, rfl, rx⟩ := vals1 r
    cases rx
    have fin : ∀ (its : List Value), Vals ys its → ys.length ≤ sizeLine → ∀ (h' : Heap) (c' : Nat), (∀ b o', s.heap.get? b = some o' → h'.get? b = some o') →
        h'.get? s.heap.objs.size = some { cls := .type "list", dict := none, data := .seq its.toArray c', slots := #[] } → EP X pins σ Q (.ref s.heap.objs.size) { s with heap := h' } := fun its r' hz h' c' kp e =>
      ⟨.ref s.heap.objs.size, _, I.laid (t' := s.toks) kp (Nat.le_refl _) (show ObjOk X.prog X.w _ h' _ (.lst ys) from ⟨hz, its, c', r', e⟩), rfl, q _ (I.hok.fresh (Nat.le_refl _))⟩
    rcases hq with hq | hq
    · obtain ⟨its, r', pl, hz⟩ := I.list hq
      have hlen := r'.length
      obtain ⟨o, ho, hc, n, hd⟩ := pl.isList
      exact call_list_seq p (.inl rfl) ho hc hd (fun h' c' kp e => fin its r' hz h' c' kp e) (by simp only [List.size_toArray] <;> omega)
    · obtain ⟨its, r', pl, hz⟩ := I.tuple hq
      have hlen := r'.length
      obtain ⟨o, ho, hc, n, hd⟩ := pl
      exact call_list_seq p (.inr rfl) ho hc hd (fun h' c' kp e => fin its r' hz h' c' kp e) (by simp only [List.size_toArray] <;> omega)

/-! ### the call of a builtin's method: o.m(..) -/
/-- the value is of that builtin type -/
def tyV (K : PySem.W.Frag) (T : String) (x : V) (H : Hp) : Prop := match x with
  | .str _ => T = "str"
  | .int _ => T = "int"
  | .ref p => (T = "list" ∧ ∃ xs, SqL K H p xs) ∨ (T = "tuple" ∧ ∃ o, K.lookup p = some o ∧ o.cls = .type "tuple" ∧ o.dict = none) ∨
      (T = "dict" ∧ ((∃ kvs, H p = some (.dK kvs)) ∨ ∃ kvs, H p = some (.dT kvs))) ∨ (T = "set" ∧ ∃ S n, H p = some (.set S n))
  | _ => False
theorem tyV_is {pins : List (Addr × Obj)} {σ : St} {H : Hp} {s : Shared} {T : String} {x : V} {v : Value} (I : Inv X pins σ H s) (r : RelV x v) (ty : tyV X.K T x H) :
    s.TypeIs v T ∧ ∀ a, v = .ref a → ∃ ob, s.heap.get? a = some ob ∧ ob.dict = none := by
  cases x with
  | str z =>
    obtain ⟨t, rfl⟩ := r
    cases (show T = "str" from ty)
    exact ⟨typeIs_str s z t, fun _ e => nomatch e⟩
  | int i =>
    obtain ⟨t, rfl⟩ := r
    cases (show T = "int" from ty)
    exact ⟨typeIs_int s i t, fun _ e => nomatch e⟩
  | ref p =>
    cases r
    rcases ty with ⟨rfl, xs, hq⟩ | ⟨rfl, o, hk, hc, hd⟩ | ⟨rfl, hk⟩ | ⟨rfl, S, n, hk⟩
    · obtain ⟨its, _, pl, _⟩ := I.list hq
      refine ⟨pl.isList.typeIs, fun a e => ?_⟩
      cases e
      obtain ⟨o, n, e, c, hd, _⟩ := pl
      exact ⟨o, e, hd⟩
    · refine ⟨⟨o, I.kIn p o hk, hc⟩, fun a e => ?_⟩
      cases e
      exact ⟨o, I.kIn _ o hk, hd⟩
    · have z : ∃ o, s.heap.get? p = some o ∧ o.ExactDict := by
        rcases hk with ⟨kvs, hk⟩ | ⟨kvs, hk⟩
        · obtain ⟨_, _, _, _, o, _, _, e, ex, _⟩ := I.hok p _ hk
          exact ⟨o, e, ex⟩
        · obtain ⟨_, _, _, _, o, _, _, e, ex, _⟩ := I.hok p _ hk
          exact ⟨o, e, ex⟩
      obtain ⟨o, e, ex⟩ := z
      refine ⟨⟨o, e, ex.1⟩, fun a e2 => ?_⟩
      cases e2
      exact ⟨o, e, ex.2.1⟩
    · obtain ⟨o, _, _, _, e, ex, _⟩ := I.hok p _ hk
      refine ⟨⟨o, e, ex.1⟩, fun a e2 => ?_⟩
      cases e2
      exact ⟨o, e, ex.2.1⟩
  | _ => exact False.elim ty
def tBM0 (K : PySem.W.Frag) (T : String) (r : V → List V → Hp → VK → Prop) (to : TE) : TE := fun σ H Q => to σ H fun x H1 => tyV K T x H1 ∧ r x [] H1 Q
def tBM (K : PySem.W.Frag) (T : String) (r : V → List V → Hp → VK → Prop) (to : TE) (t : TA) : TE := fun σ H Q => to σ H fun x H1 => tyV K T x H1 ∧ t σ H1 fun xs H2 => r x xs H2 Q
variable {o e : Expr} {es : List Expr} {to : TE} {t : TA} {name : Str} {apos cpos : Pos} {T id : String} {r : V → List V → Hp → VK → Prop}
theorem pe_bm0 (pa : PlainAttrs T) (slot : Slot T name id) (hty : typeOf (.builtin id) = pure (.type "method_descriptor")) (hm : MtR X id r) (ho : PE X o to)
    (hbase : attributeBase o name X.env (eval o X.env) = eval o X.env := by rfl) (hline : (apos.endLine == cpos.line) = true := by rfl) : PE X (.Call (.Attribute o name apos) [] [] cpos) (tBM0 X.K T r to) := by
  unfold PE at *; unfold MtR at *
  exact by
    intro pins s σ H Q I h
    refine wpAny_Call_method0_late hbase hline (thn (ho pins s σ H _ I h) fun v s1 ⟨x, H1, I1, r1, ty, q1⟩ => ?_)
    obtain ⟨h1, h2⟩ := tyV_is I1 r1 ty
    exact ⟨T, id, pa, slot, hty, h1, h2, Calls.callWith_builtin rfl (PySem.evalArgs_none (hm pins s1 σ H1 x [] v [] Q I1 r1 .nil q1))⟩

theorem pe_bm (pa : PlainAttrs T) (slot : Slot T name id) (hty : typeOf (.builtin id) = pure (.type "method_descriptor")) (hm : MtR X id r) (ho : PE X o to) (ha : PA X (e :: es) t)
    (hbase : attributeBase o name X.env (eval o X.env) = eval o X.env := by rfl)
    (hfew : ((backTo cpos (starEach (e :: es) X.env)).all (fun x => !x.1) && (backToKw cpos (keywordEach [] X.env)).all (fun x => x.1.isSome)
      && decide ((e :: es).length + ([] : List Keyword).length + (if ([] : List Keyword).isEmpty then 0 else 1) < 30)) = true := by rfl)
    (hline : (apos.endLine == cpos.line) = true := by rfl) (hs : starEach (e :: es) X.env = (false, eval e X.env) :: starEach es X.env := by rfl) (hplain : (backTo cpos (starEach es X.env)).any (·.1) = false := by rfl) :
    PE X (.Call (.Attribute o name apos) (e :: es) [] cpos) (tBM X.K T r to t) := by
  unfold PE at *; unfold PA at *; unfold MtR at *
  exact by
    intro pins s σ H Q I h
    refine wpAny_Call_method_late hbase hfew hline rfl (thn (ho pins s σ H _ I h) fun v s1 ⟨x, H1, I1, r1, ty, q1⟩ => ?_)
    obtain ⟨h1, h2⟩ := tyV_is I1 r1 ty
    refine ⟨T, id, pa, slot, hty, h1, h2, ?_⟩
    have hA := ha cpos pins s1 σ H1 _ I1 q1
    rw [hs] at hA ⊢
    refine Calls.callWith_builtin (by show (false || (backTo cpos (starEach es X.env)).any (·.1)) = false; rw [hplain] <;> rfl) (Calls.evalArgs_plain ?_)
    exact thn hA fun us s2 ⟨vs, H2, I2, r2, q2⟩ => hm pins s2 σ H2 x vs v us Q I2 r1 r2 q2

/- xs.append(e), list.index on a module's tuple .. are MtR facts of 06m -/
end
end L2

namespace L2
open PySem PySem.Spec PyProof.Rows

@[irreducible] def MtM (X : Cx) (id : String) (r : V → List V → Hp → VK → Prop) : Prop :=
  ∀ (pins : List (Addr × Obj)) (s : Shared) (σ : St) (H : Hp) (x : V) (xs : List V) (v : Value) (us : List Value) (Q : VK), Inv X pins σ H s → RelV x v → Vals xs us → r x xs H Q →
    wpAny (model X.prog X.w) X.A (call (.builtin id) (v :: us)) (EP X pins σ Q) X.xe s

/-! ### lists of values -/
theorem Vals.one : ∀ {x : V} {us : List Value}, Vals [x] us → ∃ u, us = [u] ∧ RelV x u
  | _, _, .cons r .nil => ⟨_, rfl, r⟩
theorem Vals.two : ∀ {x y : V} {us : List Value}, Vals [x, y] us → ∃ u v, us = [u, v] ∧ RelV x u ∧ RelV y v
  | _, _, _, .cons r (.cons q .nil) => ⟨_, _, rfl, r, q⟩
theorem Vals.reverse {xs : List V} {us : List Value} (h : Vals xs us) : Vals xs.reverse us.reverse := by
  induction h with
  | nil => exact .nil
  | cons r t ih => rw [List.reverse_cons, List.reverse_cons]; exact Vals.append ih (.cons r .nil)
section
variable {X : Cx} {pins : List (Addr × Obj)} {σ : St} {H : Hp} {s : Shared} {l b : Addr} {xs ys zs : List V}

/-! ### the two steps: a tracked list is rewritten, a new list is laid -/
theorem Inv.lset {its its' : List Value} {n : Nat} {f : Array Value → Array Value} {t' : Nat} (I : Inv X pins σ H s) (hH : H l = some (.lst xs))
    (e : s.heap.get? l = some { cls := .type "list", data := .seq its.toArray n }) (hf : f its.toArray = its'.toArray) (hv : Vals ys its') (hz : ys.length ≤ sizeLine) :
    Inv X pins σ (upd H l (.lst ys)) { s with heap := s.heap.update l (Obj.mapSeq f), toks := t' } := by
  have q := PySem.IsL.update e f
  rw [hf] at q
  refine I.write (x := l) (e := l) (by rw [hH]; exact trivial) (.inl rfl) (fun b' u hb hu => (Heap.get?_update_other s.heap (Obj.mapSeq f) (Ne.symm hb)).trans hu) ⟨_, q⟩ ?_
  exact ⟨hz, its', _, hv, q⟩
theorem Inv.lnew {its : List Value} {t' : Nat} (I : Inv X pins σ H s) (hv : Vals ys its) (hz : ys.length ≤ sizeLine) :
    Inv X pins σ (upd H s.heap.objs.size (.lst ys)) { s with heap := s.heap.push { cls := .type "list", data := .seq its.toArray }, toks := t' } :=
  I.laid (fun _ _ q => Heap.get?_push_of_some _ q) (Nat.le_refl _) ⟨hz, its, 0, hv, Heap.get?_push_size _ rfl⟩
theorem Inv.fresh (I : Inv X pins σ H s) : H s.heap.objs.size = none := I.hok.fresh (Nat.le_refl _)
theorem Inv.lstM (I : Inv X pins σ H s) (hH : H l = some (.lst xs)) : xs.length ≤ sizeLine ∧ ∃ (its : List Value) (n : Nat), Vals xs its ∧ xs.length = its.length ∧ s.heap.get? l = some { cls := .type "list", data := .seq its.toArray n } := by
  obtain ⟨z, its, n, r, e⟩ := I.hok l _ hH
  exact ⟨z, its, n, r, r.length, e⟩

end

section
variable {X : Cx}

/-! ### methods -/
def rAppend : V → List V → Hp → VK → Prop := fun x vs H Q => ∃ l xs y, x = .ref l ∧ vs = [y] ∧ H l = some (.lst xs) ∧ xs.length < sizeLine ∧ Q .non (upd H l (.lst (xs ++ [y])))
theorem mt_append : MtM X "list.append" rAppend := by
  unfold MtM at *
  exact by
    intro pins s σ H x vs v us Q I rx rv h
    obtain ⟨l, xs, y, rfl, rfl, hH, hz, q⟩ := h
    cases rx
    obtain ⟨u, rfl, ru⟩ := rv.one
    obtain ⟨z, its, n, r, hl, e⟩ := I.lstM hH
    refine call_meets F.slot_list_append ⟨_, e, rfl⟩ F.entry_list_append (F.args_list_append_2 _ _) (PySem.list_append l its.toArray n u (by rw [List.size_toArray]; omega)) ⟨e, ?_⟩
    refine ⟨.non, _, I.lset (its' := its ++ [u]) hH e (by simp) (r.append (.cons ru .nil)) ?_, rfl, q⟩
    rw [List.length_append, List.length_singleton]
    omega

/-! ### list + list, list += list, list * int -/
def rCat : R2 := fun x y H Q => ∃ l b xs zs, x = .ref l ∧ y = .ref b ∧ H l = some (.lst xs) ∧ H b = some (.lst zs) ∧ xs.length + zs.length ≤ sizeLine ∧ ∀ p, H p = none → Q (.ref p) (upd H p (.lst (xs ++ zs)))
theorem op_cat : OpR X (binaryOp .Add) rCat := by
  unfold OpR at *
  exact by
    intro pins s σ H x y v u Q I rx ry h
    obtain ⟨l, b, xs, zs, rfl, rfl, hH, hB, hz, q⟩ := h
    cases rx
    cases ry
    obtain ⟨z, its, n, r, hl, e⟩ := I.lstM hH
    obtain ⟨z2, its2, n2, r2, hl2, e2⟩ := I.lstM hB
    refine PySem.P.add_list e e2 ?_ (by rw [List.size_toArray, List.size_toArray]; omega)
    have ea : its.toArray ++ its2.toArray = (its ++ its2).toArray := by simp
    rw [ea]
    exact ⟨.ref _, _, I.lnew (t' := s.toks) (r.append r2) (by rw [List.length_append]; omega), rfl, q _ I.fresh⟩

/-! ### del xs[i] -/
end

/-! ### xs[a:b] = ys -/
section
variable {prog : Program} {w : World} {A : Around} {E : Value → Shared → Prop} {s : Shared}
set_option maxRecDepth 100000 in
end

section
variable {X : Cx}
end
end L2


namespace L2
open PySem PySem.Spec PyProof.Rows

/-! ### lists of pairs as tables -/
section
variable {κ : Type} [DecidableEq κ]
def valV (kvs : List (κ × V)) (k : κ) : Option V := (kvs.find? fun kv => decide (kv.1 = k)).map (·.2)
/-- in its place, or at the end -/
def putK (kvs : List (κ × V)) (k : κ) (v : V) : List (κ × V) :=
  if (kvs.any fun kv => decide (kv.1 = k)) = true then kvs.map (fun kv => if kv.1 = k then (kv.1, v) else kv) else kvs ++ [(k, v)]
def dropK (kvs : List (κ × V)) (k : κ) : List (κ × V) := kvs.filter fun kv => decide (kv.1 ≠ k)

theorem valV_pos {p : κ × V} {r : List (κ × V)} {k : κ} (e : p.1 = k) : valV (p :: r) k = some p.2 := by simp [valV, List.find?_cons, e]
theorem valV_neg {p : κ × V} {r : List (κ × V)} {k : κ} (e : ¬ p.1 = k) : valV (p :: r) k = valV r k := by simp [valV, List.find?_cons, e]
theorem valV_any (k : κ) : ∀ kvs : List (κ × V), (kvs.any fun kv => decide (kv.1 = k)) = (valV kvs k).isSome
  | [] => rfl
  | p :: r => by
    rw [List.any_cons]
    by_cases e : p.1 = k
    · simp only [valV_pos e, decide_eq_true e, Bool.true_or, Option.isSome_some]
    · rw [valV_neg e, decide_eq_false e, Bool.false_or]; exact valV_any k r
theorem valV_snoc (k j : κ) (y : V) : ∀ kvs : List (κ × V), valV kvs k = none → valV (kvs ++ [(k, y)]) j = if j = k then some y else valV kvs j
  | [], _ => by
    by_cases e : k = j
    · rw [if_pos e.symm]; exact valV_pos (p := (k, y)) e
    · rw [if_neg (fun z => e z.symm)]; exact valV_neg (p := (k, y)) e
  | p :: r, hn => by
    rw [List.cons_append]
    have hk : ¬ p.1 = k := fun z => by rw [valV_pos z] at hn; cases hn
    rw [valV_neg hk] at hn
    have ih := valV_snoc k j y r hn
    by_cases e : p.1 = j
    · rw [valV_pos e, valV_pos e, if_neg (fun z => hk (e.trans z))]
    · rw [valV_neg e, valV_neg e, ih]
theorem length_putK (kvs : List (κ × V)) (k : κ) (v : V) : (putK kvs k v).length ≤ kvs.length + 1 := by
  unfold putK
  split
  · rw [List.length_map]; omega
  · rw [List.length_append, List.length_cons, List.length_nil]; omega
theorem putK_new {kvs : List (κ × V)} {k : κ} (v : V) (h : valV kvs k = none) : putK kvs k v = kvs ++ [(k, v)] := by
  unfold putK
  rw [valV_any, h]
  exact if_neg (by decide)

theorem RelO.isSome_eq {o : Option V} {u : Option Value} (r : RelO o u) : o.isSome = u.isSome := by
  cases o with
  | none => cases u with
    | none => rfl
    | some _ => exact (show False from r).elim
  | some _ => cases u with
    | none => exact (show False from r).elim
    | some _ => rfl
theorem RelO.getD {o : Option V} {u : Option Value} {d : V} {d' : Value} (r : RelO o u) (rd : RelV d d') : RelV (o.getD d) (u.getD d') := by
  cases o with
  | none => cases u with
    | none => exact rd
    | some _ => exact (show False from r).elim
  | some _ => cases u with
    | none => exact (show False from r).elim
    | some _ => exact r

/-- raw tables of the same keys -/
theorem KV.val {kvs : List (κ × V)} {vs : List (κ × Value)} (r : KV kvs vs) (k : κ) : RelO (valV kvs k) (valueAt vs k) := by
  unfold KV at r
  induction r with
  | nil => exact True.intro
  | @cons p q ps qs h t ih =>
    obtain ⟨h1, h2⟩ := h
    by_cases e : p.1 = k
    · have e' : q.1 = k := h1.symm.trans e
      have b : valueAt (q :: qs) k = some q.2 := by simp [valueAt, List.find?_cons, e']
      rw [valV_pos e, b]; exact h2
    · have e' : ¬ q.1 = k := fun z => e (h1.trans z)
      have b : valueAt (q :: qs) k = valueAt qs k := by simp [valueAt, List.find?_cons, e']
      rw [valV_neg e, b]; exact ih
theorem KV.any {kvs : List (κ × V)} {vs : List (κ × Value)} (r : KV kvs vs) (k : κ) : (kvs.any fun kv => decide (kv.1 = k)) = vs.any fun kv => decide (kv.1 = k) := by
  unfold KV at r
  induction r with
  | nil => rfl
  | cons h t ih => rw [List.any_cons, List.any_cons, ih, h.1]
theorem KV.repl {kvs : List (κ × V)} {vs : List (κ × Value)} (r : KV kvs vs) (k : κ) {y : V} {u : Value} (ry : RelV y u) :
    KV (kvs.map fun kv => if kv.1 = k then (kv.1, y) else kv) (vs.map fun kv => if kv.1 = k then (kv.1, u) else kv) := by
  unfold KV at r ⊢
  induction r with
  | nil => exact .nil
  | @cons p q ps qs h t ih =>
    rw [List.map_cons, List.map_cons]
    refine .cons ?_ ih
    obtain ⟨h1, h2⟩ := h
    by_cases e : p.1 = k
    · rw [if_pos e, if_pos (h1.symm.trans e)]; exact ⟨h1, ry⟩
    · rw [if_neg e, if_neg (fun z => e (h1.trans z))]; exact ⟨h1, h2⟩
theorem KV.put {kvs : List (κ × V)} {vs : List (κ × Value)} (r : KV kvs vs) (k : κ) {y : V} {u : Value} (ry : RelV y u) : KV (putK kvs k y) (stored vs k u) := by
  unfold putK stored
  rw [r.any k]
  by_cases e : (vs.any fun kv => decide (kv.1 = k)) = true
  · rw [if_pos e, if_pos e]; exact r.repl k ry
  · rw [if_neg e, if_neg e]; exact Paired.snoc r ⟨rfl, ry⟩
theorem KV.drop {kvs : List (κ × V)} {vs : List (κ × Value)} (r : KV kvs vs) (k : κ) : KV (dropK kvs k) (without vs k) := by
  unfold KV at r ⊢
  unfold dropK without
  induction r with
  | nil => exact .nil
  | @cons p q ps qs h t ih =>
    obtain ⟨h1, h2⟩ := h
    rw [List.filter_cons, List.filter_cons]
    by_cases e : p.1 = k
    · have a : ¬ decide (p.1 ≠ k) = true := by simp [e]
      have b : ¬ decide (q.1 ≠ k) = true := by simp [h1.symm.trans e]
      rw [if_neg a, if_neg b]; exact ih
    · have e' : ¬ q.1 = k := fun z => e (h1.trans z)
      have a : decide (p.1 ≠ k) = true := by simp [e]
      have b : decide (q.1 ≠ k) = true := by simp [e']
      rw [if_pos a, if_pos b]; exact .cons ⟨h1, h2⟩ ih
theorem KV.length {kvs : List (κ × V)} {vs : List (κ × Value)} (r : KV kvs vs) : kvs.length = vs.length := Paired.length r
end


/-! ### a tracked dict, its keys ints and texts or tuples of these -/
theorem kV_is {P : Program} {w : World} {k : Key} {u : Value} (r : RelV (kV k) u) : (mixKind P w).is k u = true := by
  cases k with
  | inl i => obtain ⟨t, e⟩ := (show ∃ t, u = Value.int i t from r); subst e; exact mixKind_int P w i t
  | inr x => obtain ⟨t, e⟩ := (show ∃ t, u = Value.str x t from r); subst e; exact mixKind_str P w x t
theorem items_are {P : Program} {w : World} : ∀ {ks : List Key} {us : List Value}, Vals (ks.map kV) us → ItemsAre (mixKind P w) ks us
  | [], _, r => by rw [List.map_nil] at r; cases r; exact .nil
  | k :: ks, _, r => by
    rw [List.map_cons] at r
    cases r with
    | cons h t => exact .cons (kV_is h) (items_are t)

/-- raw entries of a dict with tuple keys -/
abbrev KT (H : Hp) : List (List Key × V) → List (List Key × Addr × Value) → Prop := Paired fun p q => p.1 = q.1 ∧ H q.2.1 = some (.tup (p.1.map kV)) ∧ RelV p.2 q.2.2
theorem KT.val {H : Hp} {kvs : List (List Key × V)} {xs : List (List Key × Addr × Value)} (r : KT H kvs xs) (k : List Key) : RelO (valV kvs k) ((atKey xs k).map (·.2)) := by
  induction r with
  | nil => exact True.intro
  | @cons p q ps qs h t ih =>
    obtain ⟨h1, _, h2⟩ := h
    by_cases e : p.1 = k
    · have e' : q.1 = k := h1.symm.trans e
      have b : atKey (q :: qs) k = some q.2 := by simp [atKey, List.find?_cons, e']
      rw [valV_pos e, b]; exact h2
    · have e' : ¬ q.1 = k := fun z => e (h1.trans z)
      have b : atKey (q :: qs) k = atKey qs k := by simp [atKey, List.find?_cons, e']
      rw [valV_neg e, b]; exact ih
theorem KT.repl {H : Hp} {kvs : List (List Key × V)} {xs : List (List Key × Addr × Value)} (r : KT H kvs xs) (k : List Key) {y : V} {u : Value} (ry : RelV y u) :
    KT H (kvs.map fun kv => if kv.1 = k then (kv.1, y) else kv) (xs.map (putAt k u)) := by
  induction r with
  | nil => exact .nil
  | @cons p q ps qs h t ih =>
    rw [List.map_cons, List.map_cons]
    refine .cons ?_ ih
    obtain ⟨h1, h2, h3⟩ := h
    unfold putAt
    by_cases e : p.1 = k
    · rw [if_pos e, if_pos (h1.symm.trans e)]; exact ⟨h1, h2, ry⟩
    · rw [if_neg e, if_neg (fun z => e (h1.trans z))]; exact ⟨h1, h2, h3⟩
theorem KT.put {H : Hp} {kvs : List (List Key × V)} {xs : List (List Key × Addr × Value)} (r : KT H kvs xs) (k : List Key) {b : Addr} {y : V} {u : Value} (hb : H b = some (.tup (k.map kV))) (ry : RelV y u) :
    KT H (putK kvs k y) (storedH xs k b u) := by
  have e : (kvs.any fun kv => decide (kv.1 = k)) = (atKey xs k).isSome := by
    rw [valV_any, (r.val k).isSome_eq, Option.isSome_map]
  unfold putK storedH
  rw [e]
  by_cases q : (atKey xs k).isSome = true
  · rw [if_pos q, if_pos q]; exact r.repl k ry
  · rw [if_neg q, if_neg q]; exact Paired.snoc r ⟨rfl, hb, ry⟩
theorem KT.keeps {H H' : Hp} {kvs : List (List Key × V)} {xs : List (List Key × Addr × Value)} (r : KT H kvs xs) (ht : ∀ b ys, H b = some (.tup ys) → H' b = some (.tup ys)) : KT H' kvs xs :=
  Paired.mapP r fun _ _ z => ⟨z.1, ht _ _ z.2.1, z.2.2⟩

section
variable {P : Program} {w : World} {H : Hp} {h : Heap} {a : Addr}
theorem rd_of {u : HO} (ok : HOk P w H h) (e : Rd H a u) : ObjOk P w H h a u := e.ok ok
theorem dk_rd {kvs : List (Key × V)} (ok : HOk P w H h) (e : Rd H a (.dK kvs)) : kvs.length ≤ sizeLine ∧ (a == sysModules) = false ∧ ∃ vs, KV kvs vs ∧ h.DictOf (mixKind P w) a vs :=
  show ObjOk P w H h a (.dK kvs) from rd_of ok e
theorem dk_of {kvs : List (Key × V)} (ok : HOk P w H h) (e : H a = some (.dK kvs)) : kvs.length ≤ sizeLine ∧ (a == sysModules) = false ∧ ∃ vs, KV kvs vs ∧ h.DictOf (mixKind P w) a vs := dk_rd ok (.inl e)
/-- a tracked tuple of ints and texts is a key -/
theorem key_of {ks : List Key} (ok : HOk P w H h) (e : H a = some (.tup (ks.map kV))) : (tupleKind (mixKind P w)).is h ks a := by
  obtain ⟨_, its, r, o, h1, h2, n, h3⟩ := (show ObjOk P w H h a (.tup (ks.map kV)) from ok a _ e)
  exact ⟨o, its.toArray, n, h1, h2, h3, by simpa using items_are r⟩
theorem dt_rd {kvs : List (List Key × V)} (ok : HOk P w H h) (e : Rd H a (.dT kvs)) : kvs.length ≤ sizeLine ∧ (a == sysModules) = false ∧
    ∃ xs, KT H kvs xs ∧ h.DictOfH (tupleKind (mixKind P w)) a xs := by
  obtain ⟨z, y, xs, r, o, es, ep, h1, h2, h3, h4, h5⟩ := (show ObjOk P w H h a (.dT kvs) from rd_of ok e)
  refine ⟨z, y, xs, r, o, es, ep, h1, h2, h3, h4, fun x hx => ?_, h5⟩
  have all : ∀ {l : List (List Key × V)} {m : List (List Key × Addr × Value)}, KT H l m → ∀ x ∈ m, (tupleKind (mixKind P w)).is h x.1 x.2.1 := by
    intro l m q
    induction q with
    | nil => intro x hx; exact nomatch hx
    | @cons p q ps qs hq t ih =>
      intro x hx
      rcases List.mem_cons.mp hx with e | hx
      · subst e
        exact key_of ok (by rw [← hq.1]; exact hq.2.1)
      · exact ih x hx
  exact all r x hx
theorem dt_of {kvs : List (List Key × V)} (ok : HOk P w H h) (e : H a = some (.dT kvs)) : kvs.length ≤ sizeLine ∧ (a == sysModules) = false ∧
    ∃ xs, KT H kvs xs ∧ h.DictOfH (tupleKind (mixKind P w)) a xs := dt_rd ok (.inl e)
end

/-- what the dict at a holds at the key y -/
def DGet (H : Hp) (a : Addr) (y : V) (r : Option V) : Prop :=
  (∃ kvs k, Rd H a (.dK kvs) ∧ y = kV k ∧ r = valV kvs k) ∨ ∃ kvs k b, Rd H a (.dT kvs) ∧ y = .ref b ∧ H b = some (.tup (k.map kV)) ∧ r = valV kvs k
/-- the heap behind a[y] = v -/
def DPut (H : Hp) (a : Addr) (y v : V) (H' : Hp) : Prop :=
  (∃ kvs k, H a = some (.dK kvs) ∧ y = kV k ∧ kvs.length < sizeLine ∧ H' = upd H a (.dK (putK kvs k v))) ∨
  ∃ kvs k b, H a = some (.dT kvs) ∧ y = .ref b ∧ H b = some (.tup (k.map kV)) ∧ kvs.length < sizeLine ∧ H' = upd H a (.dT (putK kvs k v))
theorem DGet.k {H : Hp} {a : Addr} {kvs : List (Key × V)} {k : Key} (e : H a = some (.dK kvs)) : DGet H a (kV k) (valV kvs k) := .inl ⟨kvs, k, .inl e, rfl, rfl⟩
theorem DGet.t {H : Hp} {a b : Addr} {kvs : List (List Key × V)} {k : List Key} (e : H a = some (.dT kvs)) (eb : H b = some (.tup (k.map kV))) : DGet H a (.ref b) (valV kvs k) := .inr ⟨kvs, k, b, .inl e, rfl, eb, rfl⟩
theorem DPut.k {H : Hp} {a : Addr} {kvs : List (Key × V)} {k : Key} {v : V} (e : H a = some (.dK kvs)) (hl : kvs.length < sizeLine) : DPut H a (kV k) v (upd H a (.dK (putK kvs k v))) := .inl ⟨kvs, k, e, rfl, hl, rfl⟩
theorem DPut.t {H : Hp} {a b : Addr} {kvs : List (List Key × V)} {k : List Key} {v : V} (e : H a = some (.dT kvs)) (eb : H b = some (.tup (k.map kV))) (hl : kvs.length < sizeLine) :
    DPut H a (.ref b) v (upd H a (.dT (putK kvs k v))) := .inr ⟨kvs, k, b, e, rfl, eb, hl, rfl⟩


section
variable {X : Cx} {pins : List (Addr × Obj)} {σ : St} {H : Hp} {s : Shared} {a : Addr} {y v : V} {u r : Value} {o : Option V} {A : Around} {E : Value → Shared → Prop}

theorem Inv.big (I : Inv X pins σ H s) : sysModules < s.heap.objs.size := by
  have h : mainGlobals < s.heap.objs.size := (I.mod.glob.keeps I.bk).lt
  exact Nat.lt_trans (by decide) h

/-- d[y], there -/
theorem d_getItem {Q : Value → Shared → Prop} (hu : A.units + 1 < cLine) (I : Inv X pins σ H s) (g : DGet H a y (some v)) (ry : RelV y u) (h : ∀ w' s', Inv X pins σ H s' → RelV v w' → Q w' s') :
    wpAny (model X.prog X.w) A (getItem (.ref a) u) Q E s := by
  rcases g with ⟨kvs, k, e, ey, l⟩ | ⟨kvs, k, b, e, ey, eb, l⟩
  · subst ey
    obtain ⟨z, hd, vs, rel, dd⟩ := dk_rd I.hok e
    obtain ⟨w', hw, rw'⟩ := RelO.some_of (v := v) (o := valueAt vs k) (by rw [l]; exact rel.val k)
    exact wpAny_getItem_of (kV_is ry) dd.mapOf hw (h w' _ (I.tok _) rw')
  · subst ey
    cases (show u = Value.ref b from ry)
    obtain ⟨z, hd, xs, rel, dd⟩ := dt_rd I.hok e
    obtain ⟨w', hw, rw'⟩ := RelO.some_of (v := v) (o := (atKey xs k).map (·.2)) (by rw [l]; exact rel.val k)
    obtain ⟨p, hp, hp2⟩ := Option.map_eq_some_iff.mp hw
    refine wpAny_getItem_heap (tupleKind_room_in1 hu) (key_of I.hok eb) dd hp ?_
    rw [hp2]
    exact h w' _ (I.tok _) rw'
/-- y in d -/
theorem d_in {Q : Value → Shared → Prop} (hu : A.units + 1 < cLine) (I : Inv X pins σ H s) (g : DGet H a y o) (ry : RelV y u) (h : ∀ s', Inv X pins σ H s' → Q (.bool o.isSome) s') :
    wpAny (model X.prog X.w) A (compareOp .In u (.ref a)) Q E s := by
  rcases g with ⟨kvs, k, e, ey, l⟩ | ⟨kvs, k, b, e, ey, eb, l⟩
  · subst ey
    obtain ⟨z, hd, vs, rel, dd⟩ := dk_rd I.hok e
    refine wpAny_in_of (kV_is ry) hd dd.mapOf ?_
    rw [← (rel.val k).isSome_eq, ← l]
    exact h _ (I.tok _)
  · subst ey
    cases (show u = Value.ref b from ry)
    obtain ⟨z, hd, xs, rel, dd⟩ := dt_rd I.hok e
    refine wpAny_in_heap (tupleKind_room_in1 hu) (key_of I.hok eb) hd dd ?_
    have q := (rel.val k).isSome_eq
    rw [Option.isSome_map] at q
    rw [← q, ← l]
    exact h _ (I.tok _)
/-- a dict's object is replaced -/
theorem d_write {h' : Heap} {t' : Nat} {ob : HO} (I : Inv X pins σ H s) (mu : Mut (H a)) (hs : Heap.SameBut a s.heap h') (he : ∃ q, h'.get? a = some q) (new : ObjOk X.prog X.w (upd H a ob) h' a ob) :
    Inv X pins σ (upd H a ob) { s with heap := h', toks := t' } :=
  I.write (x := a) (e := a) mu (.inl rfl) (fun b q hb z => (hs.2 b hb).trans z) he new
theorem dk_new {P : Program} {w : World} {H' : Hp} {h' : Heap} {kvs : List (Key × V)} {vs : List (Key × Value)} (z : kvs.length ≤ sizeLine) (hd : (a == sysModules) = false) (rel : KV kvs vs) (dd : h'.DictOf (mixKind P w) a vs) :
    ObjOk P w H' h' a (.dK kvs) := ⟨z, hd, vs, rel, dd⟩
/-- d[y] = v -/
theorem d_setItem {H' : Hp} {Q : Unit → Shared → Prop} (hu : A.units + 1 < cLine) (I : Inv X pins σ H s) (g : DPut H a y v H') (ry : RelV y u) (rv : RelV v r) (h : ∀ s', Inv X pins σ H' s' → Q () s') :
    wpAny (model X.prog X.w) A (setItem (.ref a) u r) Q E s := by
  rcases g with ⟨kvs, k, e, ey, l, eH⟩ | ⟨kvs, k, b, e, ey, eb, l, eH⟩
  · subst ey eH
    obtain ⟨z, hd, vs, rel, dd⟩ := dk_of I.hok e
    have hz : vs.length ≤ sizeLine := by rw [← rel.length]; exact z
    have hl : (putK kvs k v).length ≤ sizeLine := by have := length_putK kvs k v; omega
    refine wpAny_setItem_pairs (hsz := hz) (kV_is ry) dd fun h' dd' hs => h _ ?_
    have he : ∃ q, h'.get? a = some q := let ⟨q, _, _, hq, _⟩ := dd'; ⟨q, hq⟩
    exact d_write I (by rw [e]; exact True.intro) hs he (dk_new hl hd (rel.put k rv) dd')
  · subst ey eH
    cases (show u = Value.ref b from ry)
    obtain ⟨z, hd, xs, rel, dd⟩ := dt_of I.hok e
    have hz : xs.length ≤ sizeLine := by rw [← Paired.length rel]; exact z
    have hl : (putK kvs k v).length ≤ sizeLine := by have := length_putK kvs k v; omega
    refine wpAny_setItem_heap (hsz := hz) (tupleKind_room_in1 hu) (key_of I.hok eb) dd fun h' dd' hs => h _ ?_
    obtain ⟨q, es, ep, hq, h2, h3, h4, _, h5⟩ := dd'
    refine d_write I (by rw [e]; exact True.intro) hs ⟨q, hq⟩ ⟨hl, hd, _, (rel.put k eb rv).keeps fun c ys ec => ?_, q, es, ep, hq, h2, h3, h4, h5⟩
    rw [upd_ne (ne_of ec e (fun z => nomatch z))]
    exact ec
end

section
variable {X : Cx} {pins : List (Addr × Obj)} {σ : St} {H : Hp} {s : Shared} {a : Addr} {kvs : List (Key × V)} {k : Key} {u : Value} {A : Around} {E : Value → Shared → Prop}
end


/-! ### readings and rules -/
/-- the element of a subscription, not a slice -/
def NoSl (i : Expr) : Prop := ∀ ov iv, subscripted i false ov iv = operate [ov, iv] (getItem ov iv)
theorem subD_of {prog : Program} {w : World} {A : Around} {E : Value → Shared → Prop} {s : Shared} {env : Env} {value slice : Expr} {pos : Pos} {T id : String} {Q : Value → Shared → Prop}
    (hl : typeLookup (.type T) "__getitem__" = pure (some (.builtin id))) (hs : NoSl slice)
    (h : wpAny (model prog w) A (eval value env) (fun o s₁ => wpAny (model prog w) A (eval slice env) (fun i s₂ => s₂.TypeIs o T ∧ wpAny (model prog w) A (getItem o i) Q E s₂) E s₁) E s) :
    wpAny (model prog w) A (eval (.Subscript value slice pos) env) Q E s := by
  refine Subscript_ (wpAny_mono h (fun o s₁ h₁ => wpAny_mono h₁ (fun i s₂ h₂ => ?_) fun _ _ x => x) fun _ _ x => x)
  obtain ⟨hT, h₂⟩ := h₂
  unfold subscriptTail
  refine wpAny_bind ?_
  rw [getitemInPython_of_ne hT.not_modules]
  refine wpAny_bind (wpAny_specialOf hT hl ?_)
  have fin : wpAny (model prog w) A (subscripted slice false o i) (fun r s₃ => wpAny (model prog w) A (letTemporaryGo value o r >>= fun _ => pure r) Q E s₃) E s₂ := by
    rw [hs o i]
    exact wpAny_operating (wpAny_mono h₂ (fun r s₃ h₃ => wpAny_bind (wpAny_letTemporaryGo (wpAny_pure h₃))) fun _ _ x => x)
  first
    | exact wpAny_pure (wpAny_bind fin)
    | exact wpAny_bind (wpAny_pure (wpAny_bind fin))
    | exact wpAny_bind fin

theorem dict_typeIs {X : Cx} {pins : List (Addr × Obj)} {σ : St} {H : Hp} {s : Shared} {a : Addr} {y : V} {o : Option V} (I : Inv X pins σ H s) (g : DGet H a y o) : s.TypeIs (.ref a) "dict" := by
  rcases g with ⟨kvs, k, e, _, _⟩ | ⟨kvs, k, b, e, _, _, _⟩
  · obtain ⟨_, _, vs, _, dd⟩ := dk_rd I.hok e
    exact dd.typeIs
  · obtain ⟨_, _, xs, _, dd⟩ := dt_rd I.hok e
    exact dd.typeIs
/-- d[y] -/
def tDGet (td ty : TE) : TE := fun σ H Q => td σ H fun x H1 => ty σ H1 fun y H2 => ∃ a v, x = .ref a ∧ DGet H2 a y (some v) ∧ Q v H2
/-- y in d, y not in d -/
def tDIn (ty td : TE) : TE := fun σ H Q => ty σ H fun y H1 => td σ H1 fun x H2 => ∃ a o, x = .ref a ∧ DGet H2 a y o ∧ Q (.bl o.isSome) H2
/-- d[y] = v -/
def sDPut (td ty tv : TE) : TS := fun D σ H => tv σ H fun v H1 => td σ H1 fun x H2 => ty σ H2 fun y H3 => ∃ a H4, x = .ref a ∧ DPut H3 a y v H4 ∧ D.nx σ H4
section
variable {X : Cx} {o i e value : Expr} {pos pos' tpos : Pos} {td ty tv : TE}
theorem pe_dget (hu : X.A.units + 1 < cLine) (ho : PE X o td) (hi : PE X i ty) (hs : NoSl i) : PE X (.Subscript o i pos) (tDGet td ty) := by
  unfold PE at *
  exact by
    intro pins s σ H Q I h
    refine subD_of PySem.F.slot_dict_getitem.lookup hs (thn (ho pins s σ H _ I h) fun u s1 ⟨x, H1, I1, rx, q1⟩ => thn (hi pins s1 σ H1 _ I1 q1) fun iv s2 ⟨y, H2, I2, ry, a, v, ex, g, q2⟩ => ?_)
    subst ex
    obtain rfl : u = Value.ref a := rx
    exact ⟨dict_typeIs I2 g, d_getItem hu I2 g ry fun w' s3 I3 rw' => ⟨v, H2, I3, rw', q2⟩⟩

theorem pc_din (hu : X.A.units + 1 < cLine) (hi : PE X i ty) (ho : PE X o td) : PC X .In i o (tDIn ty td) := by
  unfold PE at *; unfold PC at *
  exact by
    intro pins s σ H Q I h
    refine thn (hi pins s σ H _ I h) fun iv s1 ⟨y, H1, I1, ry, q1⟩ => thn (ho pins s1 σ H1 _ I1 q1) fun u s2 ⟨x, H2, I2, rx, a, ov, ex, g, q2⟩ => ?_
    subst ex
    obtain rfl : u = Value.ref a := rx
    exact d_in hu I2 g ry fun s3 I3 => ⟨.bl ov.isSome, H2, I3, rfl, q2⟩

theorem ps_dput (hu : X.A.units + 1 < cLine) (ho : PE X o td) (hi : PE X i ty) (hv : PE X value tv) (hs : swapsWith value (some (.Subscript o i pos')) pos.line X.env = pure false) :
    PS X (.Assign [.Subscript o i pos'] value pos) (sDPut td ty tv) := by
  unfold PE at *; unfold PS at *
  exact by
    intro pins s σ H D I h
    refine wpAny_Assign_Subscript (thn (hv pins s σ H _ I h) fun r s1 ⟨v, H1, I1, rv, q1⟩ => thn (ho pins s1 σ H1 _ I1 q1) fun u s2 ⟨x, H2, I2, rx, q2⟩ => thn (hi pins s2 σ H2 _ I2 q2) fun iv s3 ⟨y, H3, I3, ry, a, H4, ex, g, q3⟩ => ?_) hs
    subst ex
    obtain rfl : u = Value.ref a := rx
    exact d_setItem hu I3 g ry rv fun s4 I4 => ⟨σ, H4, I4, q3⟩

end


/-! ### displays -/
theorem dk_empty {P : Program} {w : World} {H : Hp} (h : Heap) (hb : sysModules < h.objs.size) : ObjOk P w H (h.push { cls := .type "dict", data := .dict #[] }) h.objs.size (.dK []) :=
  ⟨Nat.zero_le _, beq_eq_false_iff_ne.mpr (Ne.symm (Nat.ne_of_lt hb)), [], .nil, Heap.DictOf.new h⟩
theorem dt_empty {P : Program} {w : World} {H : Hp} (h : Heap) (hb : sysModules < h.objs.size) : ObjOk P w H (h.push { cls := .type "dict", data := .dict #[] }) h.objs.size (.dT []) :=
  ⟨Nat.zero_le _, beq_eq_false_iff_ne.mpr (Ne.symm (Nat.ne_of_lt hb)), [], .nil, _, #[], 0, Heap.get?_push_size _ rfl, ⟨rfl, rfl, rfl⟩, rfl, rfl, List.nodup_nil⟩
/-- {}, to be a dict of the kind that is wanted -/
def tDNewK : TE := fun _ H Q => ∀ p, H p = none → Q (.ref p) (upd H p (.dK []))
def tDNewT : TE := fun _ H Q => ∀ p, H p = none → Q (.ref p) (upd H p (.dT []))
section
variable {X : Cx} {pos : Pos}
theorem pe_dnewK : PE X (.Dict [] [] pos) tDNewK := by
  unfold PE at *
  exact (fun pins s σ H Q I h =>
    wpAny_Dict_empty ⟨.ref s.heap.objs.size, _, I.laid (a := s.heap.objs.size) (o := .dK []) (t' := s.toks) (fun _ _ q => Heap.get?_push_of_some _ q) (Nat.le_refl _) (dk_empty s.heap I.big), rfl, h _ (I.hok.fresh (Nat.le_refl _))⟩)

theorem pe_dnewT : PE X (.Dict [] [] pos) tDNewT := by
  unfold PE at *
  exact (fun pins s σ H Q I h =>
    wpAny_Dict_empty ⟨.ref s.heap.objs.size, _, I.laid (a := s.heap.objs.size) (o := .dT []) (t' := s.toks) (fun _ _ q => Heap.get?_push_of_some _ q) (Nat.le_refl _) (dt_empty s.heap I.big), rfl, h _ (I.hok.fresh (Nat.le_refl _))⟩)

end

/-- the pairs of a display, from the left -/
def tPairs : List (TE × TE) → St → Hp → (List (V × V) → Hp → Prop) → Prop
  | [], _, H, Q => Q [] H
  | (tk, tv) :: r, σ, H, Q => tk σ H fun x H1 => tv σ H1 fun y H2 => tPairs r σ H2 fun ps H3 => Q ((x, y) :: ps) H3
abbrev VV : List (V × V) → List (Value × Value) → Prop := Paired fun p q => RelV p.1 q.1 ∧ RelV p.2 q.2
def PPs (X : Cx) (pos : Pos) (keys : List (Option Expr)) (values : List Expr) (trs : List (TE × TE)) : Prop :=
  ∀ (pins : List (Addr × Obj)) (s : Shared) (σ : St) (H : Hp) (Q : List (V × V) → Hp → Prop), Inv X pins σ H s → tPairs trs σ H Q →
    wpAny (model X.prog X.w) X.A (evalPairs (pairTrees keys values X.env pos)) (fun vs s' => ∃ ps H', Inv X pins σ H' s' ∧ VV ps vs ∧ Q ps H') X.xe s
theorem pps_nil {X : Cx} {pos : Pos} : PPs X pos [] [] [] := fun pins s σ H Q I h => pairTrees_nil_walk ⟨[], H, I, .nil, h⟩
theorem pps_cons {X : Cx} {pos : Pos} {k v : Expr} {ks : List (Option Expr)} {vs : List Expr} {tk tv : TE} {trs : List (TE × TE)} (hk : PE X k tk) (hv : PE X v tv) (hr : PPs X pos ks vs trs) :
    PPs X pos (some k :: ks) (v :: vs) ((tk, tv) :: trs) := by
  unfold PE at *
  exact (fun pins s σ H Q I h =>
    pairTrees_cons_walk (thn (hk pins s σ H _ I h) fun u s1 ⟨x, H1, I1, rx, q1⟩ => thn (hv pins s1 σ H1 _ I1 q1) fun w2 s2 ⟨y, H2, I2, ry, q2⟩ =>
      thn (hr pins s2 σ H2 _ I2 q2) fun ws s3 ⟨ps, H3, I3, rel, q3⟩ => ⟨(x, y) :: ps, H3, I3, .cons ⟨rx, ry⟩ rel, q3⟩))

def mergeK (kvs more : List (Key × V)) : List (Key × V) := more.foldl (fun acc kv => putK acc kv.1 kv.2) kvs
theorem KV.merge : ∀ {more : List (Key × V)} {rs : List (Key × Value)} {kvs : List (Key × V)} {vs : List (Key × Value)}, KV more rs → KV kvs vs → KV (mergeK kvs more) (merged vs rs) := by
  intro more rs kvs vs r
  unfold KV at r
  induction r generalizing kvs vs with
  | nil => intro q; exact q
  | @cons p q ps qs h t ih =>
    intro r0
    have e : KV (putK kvs p.1 p.2) (stored vs q.1 q.2) := by
      have := r0.put p.1 h.2
      rw [← h.1]; exact this
    exact ih e
theorem length_mergeK : ∀ (more kvs : List (Key × V)), (mergeK kvs more).length ≤ kvs.length + more.length
  | [], kvs => by show kvs.length ≤ kvs.length + 0; omega
  | p :: r, kvs => by
    have h1 := length_mergeK r (putK kvs p.1 p.2)
    have h2 := length_putK kvs p.1 p.2
    show (mergeK (putK kvs p.1 p.2) r).length ≤ _
    rw [List.length_cons]; omega
theorem carries_of {P : Program} {w : World} : ∀ {kvs : List (Key × V)} {ws : List (Value × Value)}, VV (kvs.map fun kv => (kV kv.1, kv.2)) ws → ∃ rs, Carries (mixKind P w) ws rs ∧ KV kvs rs
  | [], _, r => by rw [List.map_nil] at r; cases r; exact ⟨[], True.intro, .nil⟩
  | p :: kvs, _, r => by
    rw [List.map_cons] at r
    cases r with
    | @cons a b as bs h t =>
      obtain ⟨rs, c, q⟩ := carries_of (P := P) (w := w) t
      obtain ⟨b1, b2⟩ := b
      exact ⟨(p.1, b2) :: rs, ⟨kV_is h.1, rfl, c⟩, .cons ⟨rfl, h.2⟩ q⟩
/-- {k: v, ..} with keys ints and texts; the new dict stands empty while the pairs are made -/
def tDisp (trs : List (TE × TE)) : TE := fun σ H Q => ∀ p, H p = none → tPairs trs σ (upd H p (.dK [])) fun ps H2 => H2 p = some (.dK []) ∧ ∃ kvs : List (Key × V), ps = kvs.map (fun kv => (kV kv.1, kv.2)) ∧ kvs.length ≤ 15 ∧ Q (.ref p) (upd H2 p (.dK (mergeK [] kvs)))
theorem pe_disp {X : Cx} {pos : Pos} {keys : List (Option Expr)} {values : List Expr} {trs : List (TE × TE)} (h : PPs X pos keys values trs) (hall : keys.all (·.isSome) = true) (hl : keys.length = values.length) (h0 : keys ≠ [])
    (h15 : keys.length ≤ 15) : PE X (.Dict keys values pos) (tDisp trs) := by
  unfold PE at *
  exact by
    intro pins s σ H Q I q
    have hn := I.hok.fresh (Nat.le_refl s.heap.objs.size)
    have I1 := I.laid (a := s.heap.objs.size) (o := .dK []) (h' := s.heap.push { cls := .type "dict", data := .dict #[] }) (t' := s.toks) (fun _ _ q => Heap.get?_push_of_some _ q) (Nat.le_refl _) (dk_empty s.heap I.big)
    refine wpAny_Dict_walk (knd := mixKind X.prog X.w) hall hl h0 h15 (thn (h pins _ σ _ _ I1 (q _ hn)) fun ws s2 ⟨ps, H2, I2, rel, e, kvs, ep, lk, q2⟩ => ?_)
    subst ep
    obtain ⟨rs, c, rk⟩ := carries_of (P := X.prog) (w := X.w) rel
    obtain ⟨z, hd, vs0, r0, dd⟩ := dk_of I2.hok e
    cases r0
    refine ⟨rs, c, dd, fun h' dd' hs => ⟨.ref s.heap.objs.size, _, ?_, rfl, q2⟩⟩
    have hz : (mergeK [] kvs).length ≤ sizeLine := by
      have h1 := length_mergeK kvs []
      rw [List.length_nil] at h1
      rw [sizeLine_eq]; omega
    have he : ∃ q, h'.get? s.heap.objs.size = some q := let ⟨q, _, _, hq, _⟩ := dd'; ⟨q, hq⟩
    exact d_write I2 (by rw [e]; exact True.intro) hs he (dk_new hz hd (rk.merge .nil) dd')

/-! ### methods -/
/-- a method call o.m(e) of a built-in, with one argument: what must be seen of the text -/
structure M1 (X : Cx) (o : Expr) (m : Str) (apos : Pos) (e : Expr) (cpos : Pos) : Prop where
  base : attributeBase o m X.env (eval o X.env) = eval o X.env
  few : ((backTo cpos (starEach [e] X.env)).all (fun x => !x.1) && (backToKw cpos (keywordEach [] X.env)).all (fun x => x.1.isSome)
    && decide (([e] : List Expr).length + ([] : List Keyword).length + (if ([] : List Keyword).isEmpty then 0 else 1) < 30)) = true
  line : (apos.endLine == cpos.line) = true
  trees : backTo cpos (starEach [e] X.env) = [(false, eval e X.env)]
/-- a is a dict, whatever its keys -/
def IsD (H : Hp) (a : Addr) : Prop := (∃ kvs, Rd H a (.dK kvs)) ∨ ∃ kvs, Rd H a (.dT kvs)
theorem isD_at {X : Cx} {pins : List (Addr × Obj)} {σ : St} {H : Hp} {s : Shared} {a : Addr} (I : Inv X pins σ H s) (d : IsD H a) :
    s.TypeIs (.ref a) "dict" ∧ (∀ b, Value.ref a = .ref b → ∃ ob, s.heap.get? b = some ob ∧ ob.dict = none) ∧ (a == sysModules) = false := by
  rcases d with ⟨kvs, e⟩ | ⟨kvs, e⟩
  · obtain ⟨_, hd, vs, _, dd⟩ := dk_rd I.hok e
    refine ⟨dd.typeIs, fun b q => ?_, hd⟩
    cases q
    obtain ⟨ob, _, _, h1, h2, _⟩ := dd
    exact ⟨ob, h1, h2.2.1⟩
  · obtain ⟨_, hd, xs, _, dd⟩ := dt_rd I.hok e
    refine ⟨dd.typeIs, fun b q => ?_, hd⟩
    cases q
    obtain ⟨ob, _, _, h1, h2, _⟩ := dd
    exact ⟨ob, h1, h2.2.1⟩

section
variable {X : Cx} {pins : List (Addr × Obj)} {σ : St} {H : Hp} {s : Shared} {a : Addr} {y d : V} {u r : Value} {o : Option V} {A : Around} {E : Value → Shared → Prop}
/-- d.get(y) -/
theorem d_get1 {Q : Value → Shared → Prop} (hu : A.units + 1 < cLine) (I : Inv X pins σ H s) (g : DGet H a y o) (ry : RelV y u) (h : ∀ w' s', Inv X pins σ H s' → RelV (o.getD .non) w' → Q w' s') :
    wpAny (model X.prog X.w) A (call (.builtin "dict.get") [.ref a, u]) Q E s := by
  rcases g with ⟨kvs, k, e, ey, l⟩ | ⟨kvs, k, b, e, ey, eb, l⟩
  · subst ey
    obtain ⟨z, hd, vs, rel, dd⟩ := dk_rd I.hok e
    refine call_meetsIn PySem.F.slot_dict_get dd.typeIs PySem.F.entry_dict_get (PySem.F.args_dict_get_2 _ _) (meets_dict_get (mixKind X.prog X.w) a (kV_is ry) hd) ⟨_, dd.mapOf, h _ _ (I.tok _) ?_⟩
    rw [l]
    exact (rel.val k).getD rfl
  · subst ey
    cases (show u = Value.ref b from ry)
    obtain ⟨z, hd, xs, rel, dd⟩ := dt_rd I.hok e
    refine call_meetsIn PySem.F.slot_dict_get dd.typeIs PySem.F.entry_dict_get (PySem.F.args_dict_get_2 _ _) (meetsH_dict_get (tupleKind (mixKind X.prog X.w)) a b hd) ⟨tupleKind_room_in1 hu, k, xs, key_of I.hok eb, dd, h _ _ (I.tok _) ?_⟩
    rw [l]
    exact (rel.val k).getD rfl
end

def tDGet1 (td ty : TE) : TE := fun σ H Q => td σ H fun x H1 => ∃ a, x = .ref a ∧ IsD H1 a ∧ ty σ H1 fun y H2 => ∃ o, DGet H2 a y o ∧ Q (o.getD .non) H2
section
variable {X : Cx} {o e f : Expr} {apos cpos : Pos} {td ty tx : TE}
theorem pe_dget1 (hu : X.A.units + 1 < cLine) (ho : PE X o td) (he : PE X e ty) (m : M1 X o "get" apos e cpos) : PE X (.Call (.Attribute o "get" apos) [e] [] cpos) (tDGet1 td ty) := by
  unfold PE at *
  exact by
    intro pins s σ H Q I h
    refine wpAny_Call_method m.base m.few m.line PySem.F.plainAttrs_dict PySem.F.slot_dict_get PySem.F.type_dict_get (thn (ho pins s σ H _ I h) fun u s1 ⟨x, H1, I1, rx, a, ex, d, q1⟩ => ?_)
    subst ex
    obtain rfl : u = Value.ref a := rx
    obtain ⟨t1, t2, _⟩ := isD_at I1 d
    refine ⟨t1, t2, ?_⟩
    rw [m.trees]
    refine Calls.callWith_builtin rfl (Calls.evalArgs_plain (Calls.spliced_cons (thn (he pins s1 σ H1 _ I1 q1) fun iv s2 ⟨y, H2, I2, ry, ov, g, q2⟩ => Calls.spliced_nil ?_)))
    exact d_get1 hu I2 g ry fun w' s3 I3 rw' => ⟨_, H2, I3, rw', q2⟩

end

/-! ### dict(d): a copy -/
section
variable {X : Cx} {pins : List (Addr × Obj)} {σ : St} {H : Hp} {s : Shared} {a : Addr} {kvs : List (Key × V)} {A : Around} {E : Value → Shared → Prop}
end


section
variable {X : Cx} {pins : List (Addr × Obj)} {σ : St} {H : Hp} {s : Shared} {a : Addr} {y : V} {u : Value} {A : Around} {E : Value → Shared → Prop}
end
end L2

namespace Att
open PySem PySem.W PySem.Calls PyProof.Rows

/-! ### the script -/
theorem ints_of_wellAll {P : Params} {h : Heap} : ∀ (ns : List Int) (vs : List Value), WellAll P h vs (ns.map WData.int) → IntsAre vs ns := by
  intro ns
  induction ns with
  | nil =>
    intro vs w
    rw [List.map_nil] at w
    cases w
    exact .nil
  | cons n ns ih =>
    intro vs w
    rw [List.map_cons] at w
    cases w with
    | cons a b =>
      cases a
      exact .cons _ _ (ih _ b)

theorem script_of {l : OpenLaw} {n : Nat} (hn : l.most = some n) {P : Params} {h : Heap} {args : List WData} {vals : List Value}
    (hpre : l.row.toRowW.claim.pre args = true) (hwl : WellAll P h vals args) :
    ∃ a vs ns, vals = [Value.ref a] ∧ args = [WData.list (ns.map WData.int)] ∧ h.get? a = some { cls := .type "list", data := .seq vs.toArray } ∧ IntsAre vs ns ∧ ns.length ≤ n := by
  have hsh : WShape.hasAll [] args [.list .int] = true := (pre_splitW hpre).1
  have hc : l.pre.holds [] { args := args } = true := (pre_splitW hpre).2
  obtain ⟨d, r, rfl, h1, h2⟩ := hasAllW_cons hsh
  obtain rfl := hasAllW_nil h2
  obtain ⟨xs, rfl, h3⟩ := hasW_list h1
  obtain ⟨ns, rfl⟩ := items_int h3
  have hlen : ns.length ≤ n := by
    unfold OpenLaw.pre at hc
    have h4 : (WTm.not (.lt (.lit (.int (n : Int))) (.len (.arg 0)))).holds [] { args := [.list (ns.map .int)] } = true := by
      have h4 := (holds_andW hc).1
      rw [hn] at h4
      exact h4
    have h5 := condW_of h4 (w_not (w_lt w_lit (w_len_list (w_arg rfl))))
    rw [List.length_map] at h5
    refine Nat.le_of_not_lt fun q => ?_
    have q' : (n : Int) < ((ns.length : Nat) : Int) := by omega
    first
      | (rw [decide_eq_true q'] at h5; exact absurd h5 (by decide))
      | (simp at h5; omega)
  cases hwl with
  | cons w1 w2 =>
    cases w2
    cases w1 with
    | list ho hall => exact ⟨_, _, ns, rfl, rfl, ho, ints_of_wellAll ns _ hall, hlen⟩

theorem post_true (l : OpenLaw) (args : List WData) : l.row.toRowW.claim.post args (.bool true) args = true :=
  postW_of (r := l.row.toRowW) (X := (true == true))
    (show WShape.has [] (.bool true) .bool = true by first | rfl | decide | simp [WShape.has, WShape.arms, WShape.armsAll])
    (show (WTm.eq .res (.lit (.bool true))).value [] { args := args, res := some (.bool true), after := args } = some (.bool (true == true)) from w_eq_bool (w_res rfl) w_lit) rfl

/-! ### the attachment: holds_open's last premise (the goal 'hc' behind k_head) from a wpAny of the law's body -/
/-- the same from a codeAny of the CALL (for a layer whose function contracts speak of calls) -/
theorem attach_call {l : OpenLaw} {n : Nat} {q : Program} {loose : List Str} {XP : (Str → Option Value) → Heap → Prop} {YP : World → Heap → Prop} {d : DefRec}
    (hn : l.most = some n) (hdf : d.params.defaults = [])
    (call : ∀ (w : World) (s₀ s₁ : Shared) (mg mb : Str → Option Value) (fa : Addr) (o : Obj) (pm cd doc : Value) (a : Addr) (vs : List Value) (ns : List Int),
      Ground q loose [] XP w s₀ mg mb s₁.heap → YP w s₁.heap →
      s₁.heap.get? fa = some o → o.data = .func (docDef d.name d.params d.body d.scope pm cd doc) → s₁.heap.CodeRec cd d.name → mg d.name = some (.ref fa) →
      s₁.heap.get? a = some { cls := .type "list", data := .seq vs.toArray } → IntsAre vs ns → ns.length ≤ n → s₁.gens = #[] →
      codeAny (model l.prog w) callerA (.call (.ref fa) ⟨[.ref a], []⟩) (fun r s' => r = .ok (.ret (.bool true)) ∧ OldK s₁.heap s'.heap ∧ s'.os = s₁.os ∧ AllBare s'.gens) s₁) :
    WalkO q loose XP YP l.row.toRowW d [] (fun f vs => PySem.call f vs) := by
  intro w s₀ s₁ mg mb G Y fa o pm cd doc dV kV ho hd hcd hD hmg hg args vals as hpre hlay hrd hwl hlo
  obtain rfl : dV = .none := Dflts.none hD hdf
  obtain rfl : kV = .none := Dflts.noKw hD
  obtain ⟨a, vs, ns, rfl, rfl, hobj, hints, hlen⟩ := script_of hn hpre hwl
  refine enter_call (codeAny_mono (call w s₀ s₁ mg mb fa o pm cd doc a vs ns G Y ho (fd_plain hd) hcd hmg hobj hints hlen hg) fun r s' hq => ?_)
  obtain ⟨rfl, h2, h3, h4⟩ := hq
  exact ⟨.inl ⟨.bool true, .bool true, [], rfl, fun _ => rfl, .bool true, post_true l _, fun _ => ⟨List.Pairwise.nil, fun _ hm => (nomatch hm)⟩⟩, h2, h3, h4⟩

/-! ### rules over ANY heap (no ledger) from facts about the written part K: the library's own take a ledger (News) for what they write -/
section
variable {prog : Program} {w : World} {A : Around} {E : Value → Shared → Prop} {s : Shared} {K : Frag}

/-! the whole heap as the ledger: makes every rule that writes through a ledger a rule over any heap -/
def ledger (h : Heap) (L d : Addr) : List (Addr × Obj) := (List.range h.objs.size).filterMap fun a => if a = L ∨ a = d then none else (h.get? a).map fun o => (a, o)
end
end Att

namespace L2
open PySem PySem.Spec PyProof.Rows

theorem vals_ints : ∀ {vs : List Value} {ns : List Int}, IntsAre vs ns → Vals (ns.map V.int) vs
  | _, _, .nil => .nil
  | _, _, .cons n t h => .cons ⟨t, rfl⟩ (vals_ints h)

/-- nothing is tracked but the script, known to the object (or it is an object of the module) -/
def Only (H : Hp) : Prop := ∀ b, H b = none ∨ ∃ o xs, H b = some (.frz o (.lst xs))

/-- THE HEAD: the law's promise, at the heap behind the top. F, the promise of the law's def, may use that base is part of the heap (so K.In base, base.Ns mainGlobals mg stand in Mod) -/
theorem law_call {P : Program} {w : World} {K : PySem.W.Frag} {mg mb : Str → Option Value} {CX : CXT} {k : Nat} {fa a : Addr} {fd : FuncData} {x : Str} {sp : Sp} {s₁ : Shared} {vs : List Value} {ns : List Int}
    (KX : K.In s₁.heap) (hns : s₁.heap.Ns mainGlobals mg) (hb : s₁.heap.Ns builtinsNs mb) (hbb : ∀ x : Str, x ≠ "__name__" → mb x = bootBuiltins x) (hlim : s₁.heap.NoLimit) (hg : s₁.gens = #[])
    (ha : s₁.heap.get? a = some { cls := .type "list", data := .seq vs.toArray }) (hi : IntsAre vs ns) (hl : ns.length ≤ sizeLine) (hr : Room k callerA)
    (F : ∀ base : Heap, K.In base → base.Ns mainGlobals mg → FnOk P w K mg base CX k fa fd [x] sp) (hbind : ∀ (s : Shared) (u : Value), BindsTo s fd ⟨[u], []⟩ [(x, u)])
    (hsp : ∀ H : Hp, Only H → SqL K H a (ns.map V.int) → sp [.ref a] H (fun v _ => v = .bl true) fun _ _ _ => False)
    (hCX : ∀ H e s', CX [] H s₁ (fun _ _ _ => False) e s' → False) :
    codeAny (model P w) callerA (.call (.ref fa) ⟨[.ref a], []⟩) (fun r s' => r = .ok (.ret (.bool true)) ∧ OldK s₁.heap s'.heap ∧ s'.os = s₁.os ∧ AllBare s'.gens) s₁ := by
  have rv := vals_ints hi
  have lenV := hi.length
  -- from an abstract heap in which nothing but the script may be tracked
  have core : ∀ H : Hp, Only H → SqL K H a (ns.map V.int) → HOk P w H s₁.heap → (∀ b, H b ≠ none → b = a) → (H a ≠ none → K.lookup a = none) →
      codeAny (model P w) callerA (.call (.ref fa) ⟨[.ref a], []⟩) (fun r s' => r = .ok (.ret (.bool true)) ∧ OldK s₁.heap s'.heap ∧ s'.os = s₁.os ∧ AllBare s'.gens) s₁ := by
    intro H hO hS hok hA hK
    have base_of : ∀ {b : Addr} {o : Obj}, s₁.heap.get? b = some o → H b = none → (hidT s₁.heap H).get? b = some o := fun e n => hidT_get e n
    have noA : ∀ {b : Addr} {o : Obj} {es : Array DictEntry} {ep : Nat}, s₁.heap.get? b = some o → o.data = .dict es ep → H b = none := fun {b o es ep} e d => by
      cases q : H b with
      | none => rfl
      | some u =>
        have e' : b = a := hA b (by rw [q]; simp)
        subst e'
        rw [ha] at e; cases e
        have d' : Data.seq vs.toArray _ = Data.dict es ep := d
        cases d'
    have nsK : ∀ {b : Addr} {m : Str → Option Value}, s₁.heap.Ns b m → (hidT s₁.heap H).Ns b m := fun {b m} ⟨o, es, ep, e, d, r⟩ => ⟨o, es, ep, base_of e (noA e d), d, r⟩
    have hKb : K.In (hidT s₁.heap H) := fun b o e => base_of (KX b o e) (by
      cases q : H b with
      | none => rfl
      | some u =>
        have e' : b = a := hA b (by rw [q]; simp)
        subst e'
        rw [hK (by rw [q]; simp)] at e; cases e)
    have hM : Mod K mg (hidT s₁.heap H) := ⟨hKb, nsK hns, ⟨mb, nsK hb, hbb⟩, let ⟨mc, h1, h2⟩ := hlim; ⟨mc, nsK h1, h2⟩⟩
    have e0 : Env0 P w K mg (hidT s₁.heap H) callerA [] s₁ H := ⟨rfl, hM, fun b o e => of_hidT e, Nat.le_of_eq (hidT_size _ _), trivial, fun b hb => absurd (show b ∈ ([] : List Addr) from hb) (by simp), hok, .of_eq hg⟩
    refine codeAny_mono ((F _ hKb (nsK hns)).run callerA [] s₁ H ⟨[.ref a], []⟩ [.ref a] [.ref a] _ _ hr e0 (hbind s₁ (.ref a)) (.cons rfl .nil) (hsp H hO hS)) fun r s' h => ?_
    cases r with
    | error e => exact (hCX H e s' h).elim
    | ok fl =>
      cases fl with
      | next => exact False.elim h
      | brk => exact False.elim h
      | cont => exact False.elim h
      | ret u =>
        obtain ⟨v, H', os, bare, un, hok', r', q⟩ := h
        have q' : v = .bl true := q
        subst q'
        obtain rfl : u = Value.bool true := r'
        refine ⟨rfl, OldK.of_keep fun b o e => ?_, os, bare⟩
        cases q : H b with
        | none => exact un.keep b o e q (by intro z; exact absurd (show b ∈ ([] : List Addr) from z) (by simp)) (by simp)
        | some u =>
          rcases hO b with z | ⟨ob, xs, z⟩
          · rw [q] at z; cases z
          · have z2 := un.frzs b ob _ z
            obtain ⟨e1, _⟩ := hok b _ z
            obtain ⟨e2, _⟩ := hok' b _ z2
            rw [e] at e1; cases e1
            exact e2
  cases hk : K.lookup a with
  | some o =>
    -- the script is one of the module's own objects
    have e := KX a o hk
    rw [ha] at e
    cases e
    refine core (fun _ => none) (fun _ => .inl rfl) (.inr ⟨_, vs.toArray, _, hk, rfl, rfl, rfl, by rw [List.size_toArray, lenV]; exact hl, by simpa using rv⟩) (fun b u z => by have z' : (none : Option HO) = some u := z; cases z') (fun b z => absurd rfl z) fun z => absurd rfl z
  | none =>
    refine core (fun b => if b = a then some (.frz { cls := .type "list", data := .seq vs.toArray } (.lst (ns.map V.int))) else none) (fun b => ?_) (.inl (.inr ⟨{ cls := .type "list", data := .seq vs.toArray }, if_pos rfl⟩)) (fun b u z => ?_) (fun b z => ?_) fun _ => hk
    · by_cases hb : b = a
      · exact .inr ⟨_, _, if_pos hb⟩
      · exact .inl (if_neg hb)
    · by_cases hb : b = a
      · have z' := (if_pos hb).symm.trans z
        cases z'
        subst hb
        exact ⟨ha, by rw [List.length_map]; exact hl, vs, _, rv, ha⟩
      · have z' := (if_neg hb).symm.trans z
        cases z'
    · by_cases hb : b = a
      · exact hb
      · exact absurd (if_neg hb) z
end L2

namespace L2
open PySem PySem.Spec PyProof.Rows

/-- the goal that k_head leaves (case hc), from the law's promise. F gives the function object fd (K's own) once, then the promise over every base -/
theorem walk_of {l : PySem.W.OpenLaw} {n k : Nat} {q : Program} {loose : List Str} {XP : (Str → Option Value) → Heap → Prop} {YP : World → Heap → Prop} {d : DefRec} {K : Params → PySem.W.Frag} {CX : World → CXT} {sp : World → Sp} {x : Str}
    (hn : l.most = some n) (hn2 : n ≤ sizeLine) (hdf : d.params.defaults = []) (hr : Room k callerA)
    (hY : ∀ (w : World) (h : Heap), YP w h → (K w.params).In h)
    (F : ∀ (w : World) (mg : Str → Option Value) (fa : Addr) (h : Heap), (K w.params).In h → h.Ns mainGlobals mg → mg d.name = some (.ref fa) →
      ∃ fd : FuncData, (∀ (s : Shared) (u : Value), BindsTo s fd ⟨[u], []⟩ [(x, u)]) ∧
        ∀ base : Heap, (K w.params).In base → base.Ns mainGlobals mg → FnOk l.prog w (K w.params) mg base (CX w) k fa fd [x] (sp w))
    (hsp : ∀ (w : World) (H : Hp) (a : Addr) (ns : List Int), ns.length ≤ n → Only H → SqL (K w.params) H a (ns.map V.int) → sp w [.ref a] H (fun v _ => v = .bl true) fun _ _ _ => False)
    (hCX : ∀ (w : World) (H : Hp) (s : Shared) (e : Value) (s' : Shared), CX w [] H s (fun _ _ _ => False) e s' → False) :
    PySem.W.WalkO q loose XP YP l.row.toRowW d [] (fun f vs => PySem.call f vs) := by
  refine Att.attach_call hn hdf fun w s₀ s₁ mg mb fa o pm cd doc a vs ns G Y ho hd hcd hmg hobj hints hlen hg => ?_
  have KX := hY w _ Y
  obtain ⟨fd, hb, hF⟩ := F w mg fa _ KX G.T.g hmg
  exact law_call KX G.T.g G.T.b G.T.builtins G.T.nolimit hg hobj hints (Nat.le_trans hlen hn2) hr hF hb (fun H hO hS => hsp w H a ns hlen hO hS) fun H e s' => hCX w H s₁ e s'
/-- the same where the promise hangs on the written part alone: (sp := My.sp_law), no hole under a binder -/
theorem walk_ofK {l : PySem.W.OpenLaw} {n k : Nat} {q : Program} {loose : List Str} {XP : (Str → Option Value) → Heap → Prop} {YP : World → Heap → Prop} {d : DefRec} {K : Params → PySem.W.Frag} {CX : CXT} {sp : PySem.W.Frag → Sp} {x : Str}
    (hn : l.most = some n) (hn2 : n ≤ sizeLine) (hdf : d.params.defaults = []) (hr : Room k callerA)
    (hY : ∀ (w : World) (h : Heap), YP w h → (K w.params).In h)
    (F : ∀ (w : World) (mg : Str → Option Value) (fa : Addr) (h : Heap), (K w.params).In h → h.Ns mainGlobals mg → mg d.name = some (.ref fa) →
      ∃ fd : FuncData, (∀ (s : Shared) (u : Value), BindsTo s fd ⟨[u], []⟩ [(x, u)]) ∧
        ∀ base : Heap, (K w.params).In base → base.Ns mainGlobals mg → FnOk l.prog w (K w.params) mg base CX k fa fd [x] (sp (K w.params)))
    (hsp : ∀ (K : PySem.W.Frag) (H : Hp) (a : Addr) (ns : List Int), ns.length ≤ n → Only H → SqL K H a (ns.map V.int) → sp K [.ref a] H (fun v _ => v = .bl true) fun _ _ _ => False)
    (hCX : ∀ (H : Hp) (s : Shared) (e : Value) (s' : Shared), CX [] H s (fun _ _ _ => False) e s' → False) :
    PySem.W.WalkO q loose XP YP l.row.toRowW d [] (fun f vs => PySem.call f vs) :=
  walk_of (K := K) (CX := fun _ => CX) (sp := fun w => sp (K w.params)) hn hn2 hdf hr hY F (fun w H a ns h1 h2 h3 => hsp (K w.params) H a ns h1 h2 h3) fun _ H s e s' => hCX H s e s'
end L2

/- THE LAST THEOREM (shape; LID, My.* are yours):
   My.Adr: a structure of the addresses that your layer names (classes, functions); My.Txt K t: a structure (Prop) of the equations over K;
   My.txt_mk : {K} {implicit addresses ..} (e1 : nsIn K mainGlobals "law" = some (some (.ref f))) (e2 : K.lookup f = some ⟨oc, od, .func (fnOf "law" "law" params body scope dV kV doc pm an cdv ct), sl⟩) (e3 : codeIn K cdv "law" = true) .. : ∃ t, My.Txt K t

set_option maxRecDepth 100000 in
set_option maxHeartbeats 0 in
(the tactic k_is has no namespace: write k_is) -/

/-! SHORT WORDS over the layer: a def of the text, its body, what a loop and a test want. -/
namespace L2
open PySem PySem.Spec PyProof.Rows

/-! ### the text by places -/
/-- the j-th statement of a class's body -/
def inClass (s : Stmt) (j : Nat) : Stmt := match s with
  | .ClassDef _ _ _ body _ _ _ _ _ _ _ => body.getD j (.Pass ⟨0, 0, 0, 0⟩)
  | _ => .Pass ⟨0, 0, 0, 0⟩
def defArgs (s : Stmt) : Arguments := match s with
  | .FunctionDef _ a _ _ _ _ _ _ _ _ => a
  | _ => { posonlyargs := [], args := [], vararg := none, kwonlyargs := [], kw_defaults := [], kwarg := none, defaults := [] }
def defBody (s : Stmt) : List Stmt := match s with
  | .FunctionDef _ _ b _ _ _ _ _ _ _ => b
  | _ => []
def defScope (s : Stmt) : Scope := match s with
  | .FunctionDef _ _ _ _ _ _ sc _ _ _ => sc
  | _ => { kind := .function, names := [], isGenerator := false, isCoroutine := false }

/-! ### no exception leaves a def -/
abbrev CX0 : CXT := fun _ _ _ _ _ _ => False
abbrev E0 : XK := fun _ _ _ => False
theorem pass0 {X : Cx} : Passes CX0 X E0 := fun _ _ _ _ _ _ _ h => h.elim

/-! ### a def (or method) of the text as it stands behind the top -/
structure Fun (K : PySem.W.Frag) (x qual : Str) (st : Stmt) (f : Addr) (fd : FuncData) : Prop where
  ex : ∃ (oc : Value) (od : Option Addr) (kV doc pm : Value) (an : Option Addr) (cdv ct : Value) (osl : Array (Option Value)),
    fd = PySem.W.fnOf x qual (defArgs st) (defBody st) (defScope st) .none kV doc pm an cdv ct ∧ K.lookup f = some ⟨oc, od, .func fd, osl⟩ ∧ PySem.W.codeIn K cdv qual = true
  kp : PySem.W.keepIn K (.ref f) = true
section
variable {P : Program} {w : World} {K : PySem.W.Frag} {mg : Str → Option Value} {base : Heap}
/-- THE RULE for a def: its body as a term of rules, and the reading of that term -/
theorem Fun.ok {x qual : Str} {st : Stmt} {f : Addr} {fd : FuncData} {N ps : List Str} {k : Nat} {sp : Sp} (F : Fun K x qual st f fd) (S : FnScope N ps (defScope st)) (len : ∀ vs H Q E, sp vs H Q E → vs.length = ps.length)
    (hbody : ∀ (cdv : Value) (A : Around) (outer : List Env) (s : Shared) (H : Hp) (vs : List V) (Q : VK) (E : XK), Room k (A.deeper (envOfC qual (defScope st) s.heap.objs.size f cdv)) → sp vs H Q E →
      ∃ t, PSs (cxOf CX0 P w K mg base N qual (defScope st) f cdv A outer s H E).nox (defBody st) t ∧ t { nx := fun _ H' => Q .non H', rt := Q } (start N vs) H) : FnOk P w K mg base CX0 (k + 1) f fd ps sp := by
  obtain ⟨oc, od, kV, doc, pm, an, cdv, ct, osl, rfl, lk, hcd⟩ := F.ex
  refine fn_of lk hcd S len fun A outer s H vs Q E hr hsp => ?_
  obtain ⟨t, h, q⟩ := hbody cdv A outer s H vs Q E hr hsp
  exact ⟨t, h.nox, q⟩
/-- how its arguments bind (no defaults): h is «fun _ _ _ _ _ _ us hl => match us, hl with | [_, _], _ => rfl», one _ a parameter -/
theorem Fun.binds {x qual : Str} {st : Stmt} {f : Addr} {fd : FuncData} {ps : List Str} (F : Fun K x qual st f fd)
    (h : ∀ (kV doc pm : Value) (an : Option Addr) (cdv ct : Value) (us : List Value), us.length = ps.length → bindArgs (PySem.W.fnOf x qual (defArgs st) (defBody st) (defScope st) .none kV doc pm an cdv ct) ⟨us, []⟩ = pure (ps.zip us)) : Binds K fd ps [] := by
  obtain ⟨oc, od, kV, doc, pm, an, cdv, ct, osl, rfl, lk, hcd⟩ := F.ex
  exact .all (h kV doc pm an cdv ct)
theorem fun_mk {x qual : Str} {st : Stmt} {f : Addr} {oc : Value} {od an : Option Addr} {osl : Array (Option Value)} {kV doc pm cdv ct : Value} (l : K.lookup f = some ⟨oc, od, .func (PySem.W.fnOf x qual (defArgs st) (defBody st) (defScope st) .none kV doc pm an cdv ct), osl⟩)
    (c : PySem.W.codeIn K cdv qual = true) (k : PySem.W.keepIn K (.ref f) = true) : Fun K x qual st f (PySem.W.fnOf x qual (defArgs st) (defBody st) (defScope st) .none kV doc pm an cdv ct) := ⟨⟨oc, od, kV, doc, pm, an, cdv, ct, osl, rfl, l, c⟩, k⟩
end
theorem hu_of {A : Around} {k : Nat} (hr : Room k A) : A.units + 1 < cLine := Nat.lt_of_le_of_lt (Nat.add_le_add_left (by decide : 1 ≤ 64) _) hr.units
/-! ### expressions in short: the name that stands in the i-th slot -/
section
variable {X : Cx}
theorem pv (i : Nat) {x : Str} {pos : Pos} (hN : X.N[i]? = some x := by rfl) (hv : Vis X.env.scope x := by first | exact Or.inl rfl | exact Or.inr (Or.inl rfl) | exact Or.inr (Or.inr rfl)) (hd : (x == ("__debug__" : Str)) = false := by decide)
    (hcd : (x == ("__classdict__" : Str)) = false := by decide) : PE X (.Name x pos) (tVar i) := by
  first
  | exact (pe_var hN hv hd hcd)
  | (unfold PE at *; exact (pe_var hN hv hd hcd))

end

/-! ### tests -/
theorem iteF {A B : Prop} (h : B) : if false = true then A else B := by
  rw [if_neg Bool.false_ne_true]
  exact h
theorem iteT {A B : Prop} (h : A) : if true = true then A else B := by
  rw [if_pos rfl]
  exact h
theorem ite2 {c A B : Prop} [Decidable c] (h1 : c → A) (h2 : ¬ c → B) : if c then A else B := by
  by_cases h : c
  · rw [if_pos h]
    exact h1 h
  · rw [if_neg h]
    exact h2 h
/-! ### heaps -/
/-- all that was tracked is as it was -/
def Same (H H' : Hp) : Prop := ∀ b o, H b = some o → H' b = some o
theorem Same.refl (H : Hp) : Same H H := fun _ _ h => h
theorem Same.trans {H H1 H2 : Hp} (a : Same H H1) (b : Same H1 H2) : Same H H2 := fun c o h => b c o (a c o h)
theorem Same.free {H H' : Hp} (e : Same H H') {l : Addr} (h : H' l = Option.none) : H l = Option.none := by
  cases q : H l with
  | none => rfl
  | some o =>
    rw [e l o q] at h
    cases h
theorem Same.seq {K : PySem.W.Frag} {H H' : Hp} {a : Addr} {xs : List V} (e : Same H H') (h : SqL K H a xs) : SqL K H' a xs := by
  rcases h with (h | ⟨o, h⟩) | h
  · exact .inl (.inl (e _ _ h))
  · exact .inl (.inr ⟨o, e _ _ h⟩)
  · exact .inr h

/-! ### a dict's pairs: keys that differ -/
section
variable {κ : Type} [DecidableEq κ]
end
end L2


set_option maxHeartbeats 4000000
namespace L2
open PySem PySem.Spec PyProof.Rows

/-! ### small rules of my own: isinstance, is True, len of any -/
section
variable {X : Cx} {a b c : Expr} {ta tb tc : TE} {pos : Pos}
/-- a class as a value -/
inductive ClsV : V → Value → Prop where
  | ty (n : String) : ClsV (.ty n) (.type n)
  | own (C : Addr) : ClsV (.ref C) (.ref C)
def rIsi (K : PySem.W.Frag) : List V → Hp → VK → Prop := fun xs H Q => ∃ x c cv t b, xs = [x, c] ∧ ClsV c cv ∧ TyOf K H x t ∧ PySem.W.kitOne K t cv = some b ∧ Q (.bl b) H
theorem call_isi : CallR X (.builtin "isinstance") (rIsi X.K) := by
  unfold CallR at *
  exact by
    intro pins s σ H xs us Q I rv h
    obtain ⟨x, c, cv, t, b, rfl, hc, ty, e, q⟩ := h
    obtain ⟨u, cu, rfl, ru, rc⟩ := rv.two
    have ec : cu = cv := by cases hc <;> exact rc
    subst ec
    exact isinst_ok I ru ty e fun tk => ⟨.bl b, H, I.tok tk, rfl, q⟩

end
end L2

namespace L2
open PySem PySem.Spec PyProof.Rows

/-! ### list comprehensions (own work over the hand layer) -/
/- what a block's context hangs on: the closure's cells, the state and abstract heap ahead of the block, the iterator's records -/
set_option genInjectivity false in
set_option genSizeOfSpec false in
set_option genSizeOf false in
structure Bk where
  cl : List (Str × Addr)
  s2 : Shared
  H2 : Hp
  fp : List Addr
def cxComp (X : Cx) (scope : Scope) (N' : List Str) (B : Bk) : Cx :=
  { X with N := N', s₀ := B.s2, H₀ := B.H2, env := compEnvC scope B.cl B.s2.heap.objs.size X.env, outer := X.stack, stack := X.stack, ex := B.fp, fn := fun _ => false, pn := [], xe := fun _ _ => False }
/-- the block's names: its own (none), and those it captures (some j: the slot j of the def) -/
def capS (js : List (Option Nat)) (σ : St) : St := js.map fun o => o.bind fun j => (σ[j]?).join
structure Cap (X : Cx) (scope : Scope) (N' : List Str) (js : List (Option Nat)) : Prop where
  len : js.length = N'.length
  ok : ∀ (i j : Nat) (x : Str), js[i]? = some (some j) → N'[i]? = some x → X.N[j]? = some x ∧ scope.names.lookup x = some .free ∧ (X.env.kindOf x = some .cell ∨ X.env.kindOf x = some .free)

theorem closure_go {env : Env} : ∀ (names : List (Str × NameKind)) (cs : List (Str × Addr)), (∀ x ∈ names, x.2 = .free → ∃ c, env.cells.lookup x.1 = some c) → (∀ x c, cs.lookup x = some c → env.cells.lookup x = some c) →
    ∃ cl, (forIn names cs (fun (x : Str × NameKind) (r : List (Str × Addr)) => match x with
      | (name, kind) => if (kind == NameKind.free) = true then (do let y ← cellOf env name; pure (ForInStep.yield ((name, y) :: r))) else pure (ForInStep.yield r)) : Sem (List (Str × Addr))) = pure cl ∧
      (∀ x c, cl.lookup x = some c → env.cells.lookup x = some c) ∧ (∀ x c, cs.lookup x = some c → ∃ c', cl.lookup x = some c') ∧ ∀ x, (x, NameKind.free) ∈ names → ∃ c, cl.lookup x = some c := by
  intro names
  induction names with
  | nil => intro cs _ h2; exact ⟨cs, rfl, h2, fun x c e => ⟨c, e⟩, fun x hx => absurd hx (by simp)⟩
  | cons y r ih =>
    intro cs h1 h2
    obtain ⟨n, k⟩ := y
    have h1r : ∀ x ∈ r, x.2 = .free → ∃ c, env.cells.lookup x.1 = some c := fun x hx => h1 x (List.mem_cons_of_mem _ hx)
    by_cases hk : k = .free
    · subst hk
      obtain ⟨c, hc⟩ := h1 (n, .free) List.mem_cons_self rfl
      have h2' : ∀ x d, List.lookup x ((n, c) :: cs) = some d → env.cells.lookup x = some d := fun x d e => by
        by_cases hx : x = n
        · subst hx
          simp only [List.lookup_cons, beq_self_eq_true] at e
          rw [hc]; exact e
        · have hb : (x == n) = false := by simpa using hx
          simp only [List.lookup_cons, hb] at e
          exact h2 x d e
      obtain ⟨cl, e1, e2, e3, e4⟩ := ih ((n, c) :: cs) h1r h2'
      refine ⟨cl, ?_, e2, fun x d e => ?_, fun x hx => ?_⟩
      · rw [List.forIn_cons]
        have q : cellOf env n = pure c := by unfold cellOf; rw [hc]
        show ((if (NameKind.free == NameKind.free) = true then (do let y ← cellOf env n; pure (ForInStep.yield ((n, y) :: cs))) else pure (ForInStep.yield cs)) >>= _) = _
        rw [if_pos (by decide), q]
        exact e1
      · by_cases hx : x = n
        · exact e3 x c (by subst hx; simp [List.lookup_cons])
        · exact e3 x d (by have hb : (x == n) = false := by simpa using hx
                           simp only [List.lookup_cons, hb]; exact e)
      · rcases List.mem_cons.mp hx with z | z
        · injection z with z1 _
          exact e3 x c (by subst z1; simp [List.lookup_cons])
        · exact e4 x z
    · obtain ⟨cl, e1, e2, e3, e4⟩ := ih cs h1r h2
      refine ⟨cl, ?_, e2, e3, fun x hx => ?_⟩
      · rw [List.forIn_cons]
        have hb : (k == NameKind.free) = false := by simpa using hk
        show ((if (k == NameKind.free) = true then _ else pure (ForInStep.yield cs)) >>= _) = _
        rw [if_neg (by rw [hb]; decide)]
        exact e1
      · rcases List.mem_cons.mp hx with z | z
        · injection z with _ z2
          exact absurd z2.symm hk
        · exact e4 x z
theorem closure_of {scope : Scope} {env : Env} (h : ∀ x ∈ scope.names, x.2 = .free → ∃ c, env.cells.lookup x.1 = some c) :
    ∃ cl, closureFor scope env = pure cl ∧ (∀ x c, cl.lookup x = some c → env.cells.lookup x = some c) ∧ ∀ x, (x, NameKind.free) ∈ scope.names → ∃ c, cl.lookup x = some c := by
  obtain ⟨cl, e1, e2, _, e4⟩ := closure_go (env := env) scope.names [] h (fun x c e => by simp at e)
  refine ⟨cl, ?_, e2, e4⟩
  have q : closureFor scope env = (forIn scope.names [] (fun (x : Str × NameKind) (r : List (Str × Addr)) => match x with
      | (name, kind) => if (kind == NameKind.free) = true then (do let y ← cellOf env name; pure (ForInStep.yield ((name, y) :: r))) else pure (ForInStep.yield r)) : Sem (List (Str × Addr))) >>= fun r => pure r := rfl
  rw [q, e1]
  rfl

theorem relabel_free {env : Env} : ∀ {names : List (Str × NameKind)} {x : Str}, names.lookup x = some .free →
    (names.map fun (n, k) => if (k == NameKind.free && env.scope.kind == .function && env.kindOf n == some .cell) then (n, NameKind.cell) else (n, k)).lookup x = some .cell ∨
    (names.map fun (n, k) => if (k == NameKind.free && env.scope.kind == .function && env.kindOf n == some .cell) then (n, NameKind.cell) else (n, k)).lookup x = some .free
  | [], _, h => by simp at h
  | (n, k) :: r, x, h => by
    have ih := @relabel_free env r x
    simp only [List.map_cons]
    cases hx : x == n with
    | true =>
      simp only [List.lookup_cons, hx] at h
      cases h
      by_cases hc : (NameKind.free == NameKind.free && env.scope.kind == .function && env.kindOf n == some .cell) = true
      · rw [if_pos hc]; left; simp only [List.lookup_cons, hx]
      · rw [if_neg hc]; right; simp only [List.lookup_cons, hx]
    | false =>
      simp only [List.lookup_cons, hx] at h
      by_cases hc : (k == NameKind.free && env.scope.kind == .function && env.kindOf n == some .cell) = true
      · rw [if_pos hc]; simp only [List.lookup_cons, hx]; exact ih h
      · rw [if_neg hc]; simp only [List.lookup_cons, hx]; exact ih h
theorem relabel_inv {env : Env} : ∀ {names : List (Str × NameKind)} {x : Str},
    ((names.map fun (n, k) => if (k == NameKind.free && env.scope.kind == .function && env.kindOf n == some .cell) then (n, NameKind.cell) else (n, k)).lookup x = some .cell ∨
    (names.map fun (n, k) => if (k == NameKind.free && env.scope.kind == .function && env.kindOf n == some .cell) then (n, NameKind.cell) else (n, k)).lookup x = some .free) →
    names.lookup x = some .cell ∨ names.lookup x = some .free
  | [], _, h => by simp at h
  | (n, k) :: r, x, h => by
    have ih := @relabel_inv env r x
    simp only [List.map_cons] at h
    cases hx : x == n with
    | true =>
      simp only [List.lookup_cons, hx]
      by_cases hc : (k == NameKind.free && env.scope.kind == .function && env.kindOf n == some .cell) = true
      · right
        have : k = .free := by
          simp only [Bool.and_eq_true] at hc
          simpa using hc.1.1
        rw [this]
      · rw [if_neg hc] at h
        simp only [List.lookup_cons, hx] at h
        exact h
    | false =>
      simp only [List.lookup_cons, hx]
      apply ih
      by_cases hc : (k == NameKind.free && env.scope.kind == .function && env.kindOf n == some .cell) = true
      · rw [if_pos hc] at h; simp only [List.lookup_cons, hx] at h; exact h
      · rw [if_neg hc] at h; simp only [List.lookup_cons, hx] at h; exact h

theorem comp_start {X : Cx} {pins : List (Addr × Obj)} {σ : St} {H2 : Hp} {s2 : Shared} {scope : Scope} {cl : List (Str × Addr)} {N' : List Str} {js : List (Option Nat)} {fp : List Addr} {h' : Heap} {t' : Nat} {m0 : Str → Option Value}
    (I : Inv X pins σ H2 s2) (hk : scope.kind = .function) (hcell : ∀ y ∈ scope.names, y.2 ≠ .cell)
    (hf : ∀ b ∈ fp, FpOk X pins H2 b) (ho : ∀ b ∈ fp, ∃ o, s2.heap.get? b = some o)
    (c1 : ∀ x c, cl.lookup x = some c → X.env.cells.lookup x = some c) (c2 : ∀ x, (x, NameKind.free) ∈ scope.names → ∃ c, cl.lookup x = some c)
    (cap : Cap X scope N' js) (ns : h'.Ns s2.heap.objs.size m0) (sb : ∀ b o, s2.heap.get? b = some o → h'.get? b = some o) :
    Inv (cxComp X scope N' ⟨cl, s2, H2, fp⟩) [] (capS js σ) H2 { s2 with heap := h', toks := t' } := by
  have isc : ∀ c v, s2.heap.IsCell c v → h'.IsCell c v := fun c v ⟨o, e, d⟩ => ⟨o, sb _ _ e, d⟩
  refine ⟨⟨I.ok.mod, hk, I.ok.glob, I.ok.blt, Nat.le_refl _, fun x y c h1 h2 => I.ok.inj x y c (c1 x c h1) (c1 y c h2), fun x hx => ?_, fun x c h => absurd h (by simp [cxComp]), I.ok.hd, I.ok.frames, .inl rfl, fun b hb => ⟨?_, fun x c e => ?_⟩, I.bs, Nat.le_trans I.ok.bsz I.sz,
    fun b o e hb => ?_, fun b hb hs => ?_, I.stack, I.stkFree⟩, rfl, I.bare, Un.kept sb, ⟨m0, ns, fun i x v e1 e2 e3 => ?_⟩, fun x c e => ?_, I.hok.fresh (Nat.le_refl _), fun x c e => I.freeC x c (c1 x c e), fun p hp => absurd hp (by simp [cxComp]), I.hok.kept sb, ?_⟩
  · have hx' := relabel_inv (env := X.env) (names := scope.names) (x := x) hx
    rcases hx' with z | z
    · exact absurd rfl (hcell _ (PySem.mem_of_lookup z))
    · exact c2 x (PySem.mem_of_lookup z)
  · obtain ⟨o, e⟩ := ho b hb
    exact Nat.ne_of_lt (Heap.lt_size e)
  · exact (hf b hb).2.2.2.2.1 x c (c1 x c e)
  · rcases (hf b hb).2.2.2.1 with z | z
    · exact I.ok.noex b o e z
    · exact absurd (Nat.lt_of_lt_of_le (Heap.lt_size e) (Nat.le_trans I.ok.bsz z)) (Nat.lt_irrefl _)
  · rcases List.mem_cons.mp (I.stkSub b hs) with z | z
    · exact (hf b hb).2.1 z
    · exact (hf b hb).2.2.1 z
  · have e2' : ((js.map fun o => o.bind fun j => (σ[j]?).join) : St)[i]? = some (some v) := e2
    rw [List.getElem?_map] at e2'
    cases q : js[i]? with
    | none => rw [q] at e2'; cases e2'
    | some o =>
      rw [q] at e2'
      cases o with
      | none => simp at e2'
      | some j =>
        have q2 : (σ[j]?).join = some v := by simpa using e2'
        have q3 : σ[j]? = some (some v) := by
          cases z : σ[j]? with
          | none => rw [z] at q2; cases q2
          | some w => rw [z] at q2; exact congrArg some q2
        obtain ⟨n1, n2, n3⟩ := cap.ok i j x q e1
        obtain ⟨m, hm, hl⟩ := I.loc
        obtain ⟨u, r, l⟩ := hl j x v n1 q3 (.inr n3)
        refine ⟨u, r, .inr ⟨relabel_free (env := X.env) n2, ?_⟩⟩
        obtain ⟨c, hc⟩ := c2 x (PySem.mem_of_lookup n2)
        refine ⟨c, hc, ?_⟩
        rcases l with ⟨l, _⟩ | ⟨_, c', e', z'⟩
        · rcases n3 with n3 | n3 <;> (rw [n3] at l; cases l)
        · have := c1 x c hc
          rw [e'] at this; cases this
          exact isc _ _ z'
  · obtain ⟨v, z⟩ := I.cell x c (c1 x c e)
    exact ⟨v, isc _ _ z⟩
  · show (js.map _).length = N'.length
    rw [List.length_map]; exact cap.len

/-- a comprehension's tests -/
@[irreducible] def PIfs (X : Cx) (ifs : List Expr) (t : TT) : Prop :=
  ∀ (pins : List (Addr × Obj)) (s : Shared) (σ : St) (H : Hp) (Q : Bool → Hp → Prop), Inv X pins σ H s → t σ H Q →
    wpAny (model X.prog X.w) X.A (forIn ifs true fun c r => if r = true then do let ok ← isTrue c X.env (eval c X.env); pure (ForInStep.yield ok) else pure (ForInStep.yield r)) (TP X pins σ Q) X.xe s
def tAll : TT := fun _ H Q => Q true H
theorem pifs_nil {X : Cx} : PIfs X [] tAll := by
  first
  | exact (fun _ _ _ H _ I h => wpAny_tests_nil ⟨H, I, h⟩)
  | (unfold PIfs at *; exact (fun _ _ _ H _ I h => wpAny_tests_nil ⟨H, I, h⟩))

theorem pifs_one {X : Cx} {c : Expr} {t : TT} (hc : PT X c t) : PIfs X [c] t := by
  first
  | exact (fun pins s σ H Q I h => wpAny_tests_one (hc pins s σ H Q I h))
  | (unfold PT at *; unfold PIfs at *; exact (fun pins s σ H Q I h => wpAny_tests_one (hc pins s σ H Q I h)))

section
variable {prog : Program} {w : World} {A : Around} {R : Result → Shared → Prop} {s : Shared}
theorem compLoop_go {elt target iter : Expr} {ifs : List Expr} {scope : Scope} {pos : Pos} {it acc : Value} {env : Env} (I : Nat → Shared → Prop)
    (turn : ∀ n s, I n s → wpAny (model prog w) A (pyNext it) (fun r s₁ => match r with
      | none => R (.ok .next) s₁
      | some v => wpAny (model prog w) A (letOwnedTupleGo target it v) (fun _ s₁ => wpAny (model prog w) A (assign target env v) (fun _ s₂ =>
          wpAny (model prog w) A (forIn ifs true fun c r => if r = true then do let ok ← isTrue c env (eval c env); pure (ForInStep.yield ok) else pure (ForInStep.yield r)) (fun ok s₃ =>
            if ok = true then wpAny (model prog w) A (eval elt env) (fun x s₄ =>
              wpAny (model prog w) A (call (.builtin "list.append") [acc, x]) (fun _ s₅ => ∃ m, m < n ∧ I m s₅) (fun _ _ => False) s₄) (fun _ _ => False) s₃
            else ∃ m, m < n ∧ I m s₃) (fun _ _ => False) s₂) (fun _ _ => False) s₁) (fun _ _ => False) s₁) (fun _ _ => False) s)
    (n : Nat) (h : I n s) :
    codeAny (model prog w) A (.compLoop (.ListComp elt [⟨target, iter, ifs, 0⟩] scope pos) 0 it acc env) R s := by
  refine codeAny_loop rfl I (fun n s hI => ?_) n h
  show wpAny _ A ((compTurn (.ListComp elt [⟨target, iter, ifs, 0⟩] scope pos) 0 it acc env).onRaise (fun x => do noteFrame x env; theTreesLotGoes x)) _ _ s
  refine wpAny_noted ?_
  rw [compTurn_list]
  refine wpAny_bind (wpAny_standAt (wpAny_bind (wpAny_mono (turn n s hI) (fun r s₁ h₁ => ?_) fun _ _ h' => h'.elim)))
  cases r with
  | none => exact wpAny_pure h₁
  | some v =>
    refine wpAny_bind (wpAny_mono h₁ (fun _ s₁ h₁ => ?_) fun _ _ h' => h'.elim)
    refine wpAny_bind (wpAny_mono h₁ (fun _ s₂ h₂ => wpAny_bind (wpAny_mono h₂ (fun ok s₃ h₃ => ?_) fun _ _ h' => h'.elim)) fun _ _ h' => h'.elim)
    cases ok with
    | false => exact wpAny_pure ⟨rfl, h₃⟩
    | true =>
      exact wpAny_bind (wpAny_bind (wpAny_mono h₃ (fun x s₄ h₄ => wpAny_bind (wpAny_mono h₄ (fun _ s₅ h₅ => wpAny_pure (wpAny_pure ⟨rfl, h₅⟩)) fun _ _ h' => h'.elim)) fun _ _ h' => h'.elim))
end

/-- the reading of a comprehension's loop: W by the turn, a measure, the block's names, the list so far, the heap -/
def tLoop (J : It) (l : Addr) (g : TG) (tc : TT) (te : TE) (σ : St) (H : Hp) (Q : VK) : Prop :=
  ∃ W : Nat → Nat → St → List V → Hp → Prop, (∃ m, W 0 m σ [] H) ∧ ∀ i m σ acc H, W i m σ acc H → H l = some (.lst acc) ∧ ((J.stop i H ∧ Q (.ref l) H) ∨
    (J.go i H ∧ acc.length < sizeLine ∧ ∀ x H', J.yld i H x H' → g x σ H' fun σ2 H2 => tc σ2 H2 fun b H3 => if b = true then
      te σ2 H3 fun v H4 => H4 l = some (.lst acc) ∧ ∃ m', m' < m ∧ W (i + 1) m' σ2 (acc ++ [v]) (upd H4 l (.lst (acc ++ [v])))
      else ∃ m', m' < m ∧ W (i + 1) m' σ2 acc H3))
def tComp (js : List (Option Nat)) (wi : TI) (g : Bk → TG) (tc : Bk → TT) (te : Bk → TE) : TE := fun σ H Q => wi σ H fun J H1 => ∀ l B, H1 l = none → tLoop J l (g B) (tc B) (te B) (capS js σ) (upd H1 l (.lst [])) Q

section
variable {X : Cx} {elt tg iter : Expr} {ifs : List Expr} {scope : Scope} {pos : Pos} {N' : List Str} {js : List (Option Nat)} {wi : TI} {g : Bk → TG} {tc : Bk → TT} {te : Bk → TE}
theorem comp_block {pins : List (Addr × Obj)} {σ : St} {H1 : Hp} {s1 : Shared} {it : Addr} {fp : List Addr} {tn : Nat → Heap → Prop} {J : It} {cl : List (Str × Addr)} {Q : VK} {RR : Value → Addr → Result → Shared → Prop}
    (hc : X.calm = true) (hk : scope.kind = .function) (hcell : ∀ y ∈ scope.names, y.2 ≠ .cell) (cap : Cap X scope N' js)
    (blk : ∀ B, PG (cxComp X scope N' B) tg (g B) ∧ PIfs (cxComp X scope N' B) ifs (tc B) ∧ PE (cxComp X scope N' B) elt (te B))
    (c1 : ∀ x c, cl.lookup x = some c → X.env.cells.lookup x = some c) (c2 : ∀ x, (x, NameKind.free) ∈ scope.names → ∃ c, cl.lookup x = some c)
    (I : Inv X pins σ H1 s1) (T : Turn X.prog X.w X.K tg J fp it tn) (st : tn 0 s1.heap) (hf : ∀ b ∈ fp, FpOk X pins H1 b)
    (h : ∀ l B, H1 l = none → tLoop J l (g B) (tc B) (te B) (capS js σ) (upd H1 l (.lst [])) Q)
    (hRR : ∀ l C H' s' (m' : Str → Option Value), Inv X pins σ H' s' → Q (.ref l) H' → s'.heap.Ns C m' → H' C = none → C ≠ X.env.locals → (∀ x c, X.env.cells.lookup x = some c → c ≠ C) → C ∉ X.fs → X.s₀.heap.objs.size ≤ C → (∀ p ∈ X.pn ++ pins, p.1 ≠ C) →
      RR (.ref l) C (.ok .next) s') :
    wpAny (model X.prog X.w) X.A (newList []) (fun acc s₃ => wpAny (model X.prog X.w) X.A (newFunctionEnv scope X.env.globals cl [] X.env.qual none .none (some X.env)) (fun cenv s₄ =>
      codeAny (model X.prog X.w) X.A (.compStart (.ListComp elt [⟨tg, iter, ifs, 0⟩] scope pos) 0 (.ref it) acc { cenv with scope := relabel scope X.env }) (RR acc cenv.locals) s₄) X.xe s₃) X.xe s1 := by
  unfold PE at *; unfold PG at *; unfold PIfs at *
  exact by
    refine wpAny_newObj_type ?_
    have I2 : Inv X pins σ (upd H1 s1.heap.objs.size (.lst [])) { s1 with heap := s1.heap.push { cls := .type "list", data := .seq ([] : List Value).toArray } } := I.lnew (t' := s1.toks) .nil (Nat.zero_le _)
    have hl : H1 s1.heap.objs.size = none := I.fresh
    generalize es2 : ({ s1 with heap := s1.heap.push { cls := .type "list", data := .seq ([] : List Value).toArray } } : Shared) = s2 at I2 ⊢
    generalize el : s1.heap.objs.size = l at *
    have ne_fp : ∀ b ∈ fp, b ≠ l := fun b hb => by
      obtain ⟨o, e, _⟩ := T.obj _ _ st b hb
      rw [← el]
      exact Nat.ne_of_lt (Heap.lt_size e)
    have hf2 : ∀ b ∈ fp, FpOk X pins (upd H1 l (.lst [])) b := fun b hb => ⟨by rw [upd_ne (ne_fp b hb)]; exact (hf b hb).1, (hf b hb).2⟩
    have kp : ∀ b o, s1.heap.get? b = some o → s2.heap.get? b = some o := fun b o e => by rw [← es2]; exact Heap.get?_push_of_some _ e
    have st2 : tn 0 s2.heap := T.keep _ _ _ st fun b _ o e => kp b o e
    refine wpAny_newFunctionEnv hcell (by intro y hy; simp at hy) (fun h' ns sb => ?_) hk
    have kp2 : ∀ b o, s2.heap.get? b = some o → h'.get? b = some o := fun b o e => (sb.2 b (Nat.ne_of_lt (Heap.lt_size e))).trans (Heap.get?_push_of_some _ e)
    have st3 : tn 0 h' := T.keep _ _ _ st2 fun b _ o e => kp2 b o e
    have I3 := comp_start (t' := s2.toks + ([] : List (Str × Value)).length) (m0 := fun x => ([] : List (Str × Value)).reverse.lookup x) I2 hk hcell hf2 (fun b hb => by obtain ⟨o, e, _⟩ := T.obj _ _ st2 b hb; exact ⟨o, e⟩) c1 c2 cap ns kp2
    obtain ⟨pg, pif, pel⟩ := blk ⟨cl, s2, upd H1 l (.lst []), fp⟩
    obtain ⟨W, ⟨m0, w0⟩, turn⟩ := h l ⟨cl, s2, upd H1 l (.lst []), fp⟩ hl
    have fpY : ∀ {H' : Hp}, (∀ b ∈ fp, H' b = none) → ∀ b ∈ fp, FpOk (cxComp X scope N' ⟨cl, s2, upd H1 l (.lst []), fp⟩) [] H' b := fun {H'} hn b hb =>
      ⟨hn b hb, (I3.ok.exf b hb).1, I3.ok.exfs b hb, .inl hb, (I3.ok.exf b hb).2, fun p hp => absurd hp (by simp [cxComp])⟩
    have loop : codeAny (model X.prog X.w) X.A (.compLoop (.ListComp elt [⟨tg, iter, ifs, 0⟩] scope pos) 0 (.ref it) (.ref l) (compEnvC scope cl s2.heap.objs.size X.env)) (RR (.ref l) s2.heap.objs.size) { s2 with heap := h', toks := s2.toks + ([] : List (Str × Value)).length } := by
      refine compLoop_go (fun n s' => ∃ i σ' acc H', Inv (cxComp X scope N' ⟨cl, s2, upd H1 l (.lst []), fp⟩) [] σ' H' s' ∧ tn i s'.heap ∧ (∀ b ∈ fp, H' b = none) ∧ W i n σ' acc H') ?_ m0 ⟨0, _, _, _, I3, st3, fun b hb => (hf2 b hb).1, w0⟩
      rintro n s3 ⟨i, σ3, acc, H3, J3, t3, f3, w3⟩
      obtain ⟨hacc, alt⟩ := turn i n σ3 acc H3 w3
      rcases alt with ⟨stop, q⟩ | ⟨go, hz, step⟩
      · refine thn (T.done (cxComp X scope N' ⟨cl, s2, upd H1 l (.lst []), fp⟩) rfl rfl rfl hc i [] s3 σ3 H3 (fun _ _ => False) J3 (fpY f3) t3 stop) fun r s4 ⟨hr, J4⟩ => ?_
        subst hr
        have IX : Inv X pins σ H3 s4 := I2.call' (ch := fp) J4.os J4.base J4.hok J4.bare fun b hb => ⟨(hf2 b hb).2.2.2.1, (hf2 b hb).2.1, (hf2 b hb).2.2.2.2.1, (hf2 b hb).2.2.2.2.2⟩
        obtain ⟨m', hn', _⟩ := J4.loc
        refine hRR l s2.heap.objs.size H3 s4 m' IX q hn' J4.free (Nat.ne_of_gt I2.lt) (fun x c e => ?_) (I2.nofs (Nat.le_refl _)) I2.sz fun p hp => Nat.ne_of_lt (Heap.lt_size (I2.pin p hp).1)
        obtain ⟨v, z⟩ := I2.cell x c e
        exact Nat.ne_of_lt z.lt
      · refine thn (T.item (cxComp X scope N' ⟨cl, s2, upd H1 l (.lst []), fp⟩) rfl rfl rfl hc i [] s3 σ3 H3 (fun _ _ => False) J3 (fpY f3) t3 go) fun r s4 ⟨u, hr, h4⟩ => ?_
        subst hr
        refine thn h4 fun _ s5 ⟨x, H5, J5, r5, y5, t5, f5⟩ => ?_
        have J5' := J5.pinned (fpY f5) (T.obj _ _ t5)
        refine thn (pg _ s5 σ3 H5 x u _ J5' r5 (step x H5 y5)) fun _ s6 ⟨σ6, H6, J6, q6⟩ => ?_
        refine thn (pif _ s6 σ6 H6 _ J6 q6) fun ok s7 ⟨H7, J7, q7⟩ => ?_
        have again : ∀ {σ8 : St} {H8 : Hp} {s8 : Shared} {acc8 : List V}, Inv (cxComp X scope N' ⟨cl, s2, upd H1 l (.lst []), fp⟩) ([] ++ pinsAt fp s5.heap) σ8 H8 s8 → (∃ m', m' < n ∧ W (i + 1) m' σ8 acc8 H8) →
            ∃ m, m < n ∧ ∃ i σ' acc H', Inv (cxComp X scope N' ⟨cl, s2, upd H1 l (.lst []), fp⟩) [] σ' H' s8 ∧ tn i s8.heap ∧ (∀ b ∈ fp, H' b = none) ∧ W i m σ' acc H' := fun {σ8 H8 s8 acc8} J8 hw => by
          obtain ⟨m', hm, w8⟩ := hw
          refine ⟨m', hm, i + 1, σ8, acc8, H8, J8.unpinned, T.keep _ _ _ t5 fun b hb o e => (J8.pin (b, o) (List.mem_append_right _ (List.mem_append_right _ (mem_pinsAt hb e)))).1, fun b hb => ?_, w8⟩
          obtain ⟨o, e, d⟩ := T.obj _ _ t5 b hb
          exact (J8.pin (b, o) (List.mem_append_right _ (List.mem_append_right _ (mem_pinsAt hb e)))).2.1
        cases ok with
        | false => exact again J7 q7
        | true =>
          refine thn (pel _ s7 σ6 H7 _ J7 q7) fun xv s8 ⟨v, H8, J8, r8, hl8, m', hm, w8⟩ => ?_
          have mtq := mt_append (X := cxComp X scope N' ⟨cl, s2, upd H1 l (.lst []), fp⟩)
          unfold MtM at mtq
          refine thn (mtq _ s8 σ6 H8 (.ref l) [v] (.ref l) [xv] (fun _ H9 => H9 = upd H8 l (.lst (acc ++ [v]))) J8 rfl (.cons r8 .nil) ⟨l, acc, v, rfl, rfl, hl8, hz, rfl⟩) fun _ s9 ⟨v9, H9, J9, _, e9⟩ => ?_
          subst e9
          exact again J9 ⟨m', hm, w8⟩
    exact codeAny_compStart_list loop (T.self X.A 0 _ _ _ st3 loop)

theorem pe_comp (hc : X.calm = true) (hk : scope.kind = .function) (hcell : ∀ y ∈ scope.names, y.2 ≠ .cell) (hnames : ∀ y ∈ scope.names, y.2 = .local → scope.names.lookup y.1 = some .local)
    (hfree : ∀ y ∈ scope.names, y.2 = .free → (X.env.kindOf y.1 = some .cell ∨ X.env.kindOf y.1 = some .free)) (cap : Cap X scope N' js) (hi : PI X tg iter wi)
    (blk : ∀ B, PG (cxComp X scope N' B) tg (g B) ∧ PIfs (cxComp X scope N' B) ifs (tc B) ∧ PE (cxComp X scope N' B) elt (te B))
    (hs : ∀ x, foldedSetIterable iter X.env x = pure x := by intro _; rfl) : PE X (.ListComp elt [⟨tg, iter, ifs, 0⟩] scope pos) (tComp js wi g tc te) := by
  unfold PE; unfold PI at hi
  exact by
    intro pins s σ H Q I h
    obtain ⟨cl, hcl, c1, c2⟩ := closure_of (scope := scope) (env := X.env) fun x hx hxf => I.ok.has x.1 (hfree x hx hxf)
    rw [eval_ListComp]
    refine wpAny_comprehension_free (use := none) rfl hs hcl hk hnames (thn (hi pins s σ H _ I h) fun v s1 h1 => thn h1 fun itv s2 h2 => ?_)
    obtain ⟨it, fp, tn, J, H2, e, I2, T, st2, f2, hloop⟩ := h2
    subst e
    refine comp_block (RR := fun acc C => compPost (model X.prog X.w) X.A X.xe none (EP X pins σ Q) acc C) hc hk hcell cap blk c1 c2 I2 T st2 f2 hloop ?_
    intro l C H' s' m' I' q ns fC hL hcl' hfs hs0 hpin
    exact ⟨m', ns, fun h'' sb => ⟨.ref l, H', I'.turned (t' := s'.toks) (fun b o hb e => (sb.2 b hb).trans e) fC hL (.inr hs0) hcl' hpin, rfl, q⟩⟩

/-- name = [..] on one line: stored ahead of the block's end -/
theorem ps_setComp {i : Nat} {y : Str} {py spos : Pos} (hN : X.N.Nodup) (hy : X.N[i]? = some y) (hyk : X.env.kindOf y = some .local) (hc : X.calm = true) (hk : scope.kind = .function) (hcell : ∀ y ∈ scope.names, y.2 ≠ .cell)
    (hnames : ∀ y ∈ scope.names, y.2 = .local → scope.names.lookup y.1 = some .local)
    (hfree : ∀ y ∈ scope.names, y.2 = .free → (X.env.kindOf y.1 = some .cell ∨ X.env.kindOf y.1 = some .free)) (cap : Cap X scope N' js) (hi : PI X tg iter wi)
    (blk : ∀ B, PG (cxComp X scope N' B) tg (g B) ∧ PIfs (cxComp X scope N' B) ifs (tc B) ∧ PE (cxComp X scope N' B) elt (te B))
    (hsw : swapsWith (.ListComp elt [⟨tg, iter, ifs, 0⟩] scope pos) (some (.Name y py)) spos.line X.env = pure true := by rfl)
    (hs : ∀ x, foldedSetIterable iter X.env x = pure x := by intro _; rfl) : PS X (.Assign [.Name y py] (.ListComp elt [⟨tg, iter, ifs, 0⟩] scope pos) spos) (tAsg (tComp js wi g tc te) (gName i)) := by
  unfold PS; unfold PI at hi
  exact by
    intro pins s σ H D I h
    obtain ⟨cl, hcl, c1, c2⟩ := closure_of (scope := scope) (env := X.env) fun x hx hxf => I.ok.has x.1 (hfree x hx hxf)
    rw [exec_Assign_Name_used _ _ _ _ hsw]
    refine wpAny_bind (wpAny_standAt (wpAny_bind ?_))
    show wpAny _ X.A (do let _ ← comprehension (.ListComp elt [⟨tg, iter, ifs, 0⟩] scope pos) scope X.env _ (newList []) false (eval iter X.env) (some (assign (.Name y py) X.env))) _ _ s
    refine wpAny_bind (wpAny_mono (wpAny_comprehension_free (use := some (assign (.Name y py) X.env)) (Q := fun _ s' => SP X pins D .next s') rfl hs hcl hk hnames
      (thn (hi pins s σ H _ I h) fun v s1 h1 => thn h1 fun itv s2 h2 => ?_)) (fun _ s' hq => wpAny_pure (wpAny_pure hq)) fun _ _ e => e)
    obtain ⟨it, fp, tn, J, H2, e, I2, T, st2, f2, hloop⟩ := h2
    subst e
    refine comp_block (RR := fun acc C => compPost (model X.prog X.w) X.A X.xe (some (assign (.Name y py) X.env)) (fun _ s' => SP X pins D .next s') acc C) hc hk hcell cap blk c1 c2 I2 T st2 f2 hloop ?_
    intro l C H' s' m' I' q ns fC hL hcl' hfs hs0 hpin
    show wpAny _ X.A (assign (.Name y py) X.env (.ref l)) _ _ _
    refine wpAny_assign_Name (store_ok2 (v := .ref l) I' hN hy (.inl hyk) rfl (fun s'' I'' sb => ?_) (.inr hyk))
    obtain ⟨a, sb, ha⟩ := sb
    have hCa : C ≠ a := by
      rcases ha with z | z
      · rw [z]; exact hL
      · exact fun z' => hcl' y a z z'.symm
    refine ⟨m', ns.sameBut sb hCa, fun h'' sb2 => ?_⟩
    exact ⟨σ.set i (some (.ref l)), H', I''.turned (t' := s''.toks) (fun b o hb e => (sb2.2 b hb).trans e) fC hL (.inr hs0) hcl' hpin, q⟩

end

/-! ### the forms one uses -/
end L2

namespace L2
open PySem PySem.Spec PyProof.Rows

/-! ### exceptions (own work over the hand layer): a flight is told by the exception's own record and its newest trace -/
theorem ObjOk.there {P : Program} {w : World} {H : Hp} {h : Heap} {a : Addr} {o : HO} (x : ObjOk P w H h a o) : ∃ ob, h.get? a = some ob := by
  cases o with
  | lst xs => obtain ⟨_, _, _, _, e⟩ := x; exact ⟨_, e⟩
  | tup xs => obtain ⟨_, _, _, ob, e, _⟩ := x; exact ⟨_, e⟩
  | dK kvs => obtain ⟨_, _, _, _, o, _, _, e, _⟩ := x; exact ⟨_, e⟩
  | dT kvs => obtain ⟨_, _, _, _, o, _, _, e, _⟩ := x; exact ⟨_, e⟩
  | set S n => obtain ⟨o, _, _, _, e, _⟩ := x; exact ⟨_, e⟩
  | ins C dx fs => obtain ⟨_, _, _, e, _⟩ := x; exact ⟨_, e⟩
  | own y => obtain ⟨_, e⟩ := x; exact ⟨_, e⟩
  | xd fs => obtain ⟨_, ⟨_, _, _, e, _⟩, _⟩ := x; exact ⟨_, e⟩
  | rng lo hi => obtain ⟨_, _, _, e⟩ := x; exact ⟨_, e⟩
  | frz ob u => obtain ⟨e, _⟩ := x; exact ⟨_, e⟩
  | tbl ps => exact ⟨_, (show h.get? a = some _ from x)⟩
  | met f y => exact ⟨_, (show h.get? a = some _ from x)⟩
  | ext φ => obtain ⟨_, ⟨_, e⟩, _⟩ := x; exact ⟨_, e⟩
/-- tracked objects (and their dicts) stay: held still -/
theorem HOk.track {P : Program} {w : World} {H : Hp} {h h' : Heap} (x : HOk P w H h) (k : ∀ b u o, H b = some u → h.get? b = some o → h'.get? b = some o) : HOk P w H h' := fun a o e =>
  (x a o e).stay (fun b u hb q => by
    rcases hb with z | z
    · subst z; exact k _ _ _ e q
    · exact k _ _ _ z q) (fun _ q => q) fun _ _ q => q
theorem dict_mapF (o : Obj) (f : Array Value → Array Value) : (Obj.mapFields f o).dict = o.dict := by
  obtain ⟨c, d, dt, sl⟩ := o
  cases dt <;> rfl

/-- the exception at e: its class, its dict, its record (the trace in place 1 is t1) -/
def ExAt (h : Heap) (e : Addr) (C : Value) (dd : Option Addr) (t1 : Value) : Prop := ∃ oe vs, h.get? e = some oe ∧ oe.cls = C ∧ oe.dict = dd ∧ oe.data = .fields vs ∧ vs[1]? = some t1
/-- a trace's record, in flight at fl -/
def TrAt (h : Heap) (T : Addr) (fl : Value) : Prop := ∃ oT ts, h.get? T = some oT ∧ oT.data = .fields ts ∧ ts[3]? = some fl
/-- what changed: the exception, its old trace T0, the frames' slots -/
structure Moved (fs : List Addr) (e : Addr) (T0 : Option Addr) (h h' : Heap) : Prop where
  keep : ∀ b o, b ≠ e → some b ≠ T0 → b ∉ fs → h.get? b = some o → h'.get? b = some o
  slot : ∀ b o, b ∈ fs → h.get? b = some o → ∃ sl, h'.get? b = some { o with slots := sl }
  there : ∀ b o, h.get? b = some o → ∃ o', h'.get? b = some o'

section
variable {M : Model} {A : Around} {E : Value → Shared → Prop} {s : Shared}
theorem up_self {h : Heap} {a : Addr} {o : Obj} {vs : Array Value} {f : Array Value → Array Value} (e : h.get? a = some o) (hd : o.data = .fields vs) : (h.update a (Obj.mapFields f)).get? a = some (Obj.mapFields f o) :=
  Heap.get?_update_self _ e (Obj.isFreed_of_fields (Obj.data_mapFields hd _))
theorem note_new {base : Heap} {env : Env} {outer : List Env} {L e : Addr} {C : Value} {dd : Option Addr} {t1 head : Value} {hadNext : Bool} {Q : Unit → Shared → Prop}
    (hfr : A.frames = some (env :: outer)) (hl : s.heap.FunFrames base (env :: outer)) (hf : env.frame = some L) (X : ExAt s.heap e C dd t1)
    (h : ∀ h' T, ExAt h' e C dd (.ref T) → TrAt h' T (rawInt L) → s.heap.objs.size ≤ T → T ≠ e → Moved (frs (env :: outer)) e none s.heap h' → Q () { s with heap := h' }) :
    wpAny M A (do let a ← frameOf env; let pl ← entryPlaceOf L hadNext; let b ← EntryCells.newEntry head a .none (rawInt L) .none pl; setField (.ref e) 1 b) Q E s := by
  obtain ⟨oe, vs, he, hC, hdd, hd, h1⟩ := X
  have ne : e ∉ frs (env :: outer) := fun hm => by
    obtain ⟨_, o, ho, hnf⟩ := hl.mem hm
    rw [he] at ho; cases ho
    exact hnf vs hd
  refine wpAny_bind (wpAny_frameOf_fun hfr hl hf fun g so => ?_)
  refine wpAny_bind (wpAny_entryPlaceOf fun pl hpl => ?_)
  unfold EntryCells.newEntry newFields
  refine wpAny_bind (wpAny_newObj_type ?_ (hpl.sizeOk5 _ _ _ _ _))
  have hg : g.get? e = some oe := (so.2.1 e ne).trans he
  have hsz := (Array.getElem?_eq_some_iff.mp h1).1
  refine wpAny_setField (Heap.get?_push_of_some _ hg) hd hsz ?_
  have nT : g.objs.size ≠ e := Nat.ne_of_gt (Heap.lt_size hg)
  refine h _ g.objs.size ⟨_, _, up_self (Heap.get?_push_of_some _ hg) hd, (Obj.cls_mapFields _ _).trans hC, (dict_mapF _ _).trans hdd, Obj.data_mapFields hd _, by simp [hsz]⟩
    ⟨_, _, (Heap.get?_update_other _ _ (Ne.symm nT)).trans (Heap.get?_push_size g rfl), rfl, ?_⟩ (Nat.le_of_eq so.1.symm) nT ⟨fun b o h1 _ h3 q => ?_, fun b o hb q => ?_, fun b o q => ?_⟩
  · rcases hpl with rfl | ⟨_, _, _, _, _, _, _, rfl⟩ <;> simp
  · rw [Heap.get?_update_other _ _ (Ne.symm h1)]
    exact Heap.get?_push_of_some _ ((so.2.1 b h3).trans q)
  · obtain ⟨sl, z⟩ := so.2.2 b o q
    refine ⟨sl, ?_⟩
    rw [Heap.get?_update_other _ _ (fun k => ne (by rw [k]; exact hb))]
    exact Heap.get?_push_of_some _ z
  · by_cases k : b = e
    · rw [k]; exact ⟨_, up_self (Heap.get?_push_of_some _ hg) hd⟩
    · obtain ⟨sl, z⟩ := so.2.2 b o q
      exact ⟨_, by rw [Heap.get?_update_other _ _ (Ne.symm k)]; exact Heap.get?_push_of_some _ z⟩

/-- a flight is noted in a frame: T0 its trace so far (none: it was just raised) -/
theorem note_fly {base : Heap} {env : Env} {outer : List Env} {L e : Addr} {C : Value} {dd : Option Addr} {T0 : Option Addr} {Q : Unit → Shared → Prop}
    (hfr : A.frames = some (env :: outer)) (hl : s.heap.FunFrames base (env :: outer)) (hf : env.frame = some L) (X : ExAt s.heap e C dd (T0.elim .none Value.ref)) (hT : ∀ T, T0 = some T → TrAt s.heap T .none ∧ T ≠ e)
    (h : ∀ h' T, ExAt h' e C dd (.ref T) → TrAt h' T (rawInt L) → s.heap.objs.size ≤ T → T ≠ e → Moved (frs (env :: outer)) e T0 s.heap h' → Q () { s with heap := h' }) :
    wpAny M A (noteFrame (.ref e) env) Q E s := by
  obtain ⟨oe, vs, he, hC, hdd, hd, h1⟩ := id X
  unfold noteFrame
  simp only [hf]
  refine wpAny_bind (wpAny_field he hd h1 ?_)
  cases T0 with
  | none =>
    rw [if_neg (by decide)]
    exact note_new hfr hl hf X h
  | some T =>
    obtain ⟨⟨oT, ts, hT, hdT, h3⟩, hne⟩ := hT T rfl
    show wpAny M A (if (Value.ref T != Value.none) = true then _ else _) Q E s
    rw [if_pos (by simp)]
    refine wpAny_bind (wpAny_field hT hdT h3 ?_)
    rw [if_neg (by simp [rawInt])]
    refine wpAny_bind (wpAny_setField hT hdT (Array.getElem?_eq_some_iff.mp h3).1 ?_)
    have oth : ∀ b, b ≠ T → (s.heap.update T (Obj.mapFields (·.setIfInBounds 3 Value.none))).get? b = s.heap.get? b := fun b hb => Heap.get?_update_other _ _ (Ne.symm hb)
    have nfr : ∀ b o, b ∈ frs (env :: outer) → s.heap.get? b = some o → b ≠ T := fun b o hb q z => by
      obtain ⟨_, o', ho', hnf⟩ := hl.mem hb
      rw [z, hT] at ho'; cases ho'
      exact hnf _ hdT
    have hl2 : (s.heap.update T (Obj.mapFields (·.setIfInBounds 3 Value.none))).FunFrames base (env :: outer) := hl.of_keeps fun b o hb hnf => ⟨o, (oth b fun z => by rw [z, hT] at hb; cases hb; exact hnf _ hdT).trans hb, rfl⟩
    refine note_new (s := { s with heap := s.heap.update T (Obj.mapFields (·.setIfInBounds 3 Value.none)) }) hfr hl2 hf ⟨oe, vs, (oth e (Ne.symm hne)).trans he, hC, hdd, hd, h1⟩ fun h' T2 x1 x2 x3 x4 mv => ?_
    have goneT : s.heap.objs.size ≤ T2 := Nat.le_trans (Nat.le_of_eq (Heap.size_after_update ..).symm) x3
    refine h h' T2 x1 x2 goneT x4 ⟨fun b o k1 k2 k3 q => mv.keep b o k1 (by simp) k3 ((oth b fun z => k2 (by rw [z])).trans q), fun b o hb q => mv.slot b o hb ((oth b (nfr b o hb q)).trans q), fun b o q => ?_⟩
    by_cases k : b = T
    · exact mv.there b _ (by rw [k]; exact up_self hT hdT)
    · exact mv.there b o ((oth b k).trans q)

/-- .. and comes to rest -/
theorem rest_fly {e T : Addr} {C : Value} {dd : Option Addr} {fl : Value} {Q : Unit → Shared → Prop} (X : ExAt s.heap e C dd (.ref T)) (hT : TrAt s.heap T fl) (hne : T ≠ e)
    (h : ∀ h', ExAt h' e C dd (.ref T) → TrAt h' T .none → (∀ b o, b ≠ T → s.heap.get? b = some o → h'.get? b = some o) → (∀ b o, s.heap.get? b = some o → ∃ o', h'.get? b = some o') → Q () { s with heap := h' }) :
    wpAny M A (setFlight (.ref e) none) Q E s := by
  obtain ⟨oe, vs, he, hC, hdd, hd, h1⟩ := X
  obtain ⟨oT, ts, hT, hdT, h3⟩ := hT
  have hsz := (Array.getElem?_eq_some_iff.mp h3).1
  unfold setFlight
  refine wpAny_bind (wpAny_field he hd h1 ?_)
  rw [if_pos (by simp)]
  have oth : ∀ b, b ≠ T → (s.heap.update T (Obj.mapFields (·.setIfInBounds 3 ((none : Option Addr).elim Value.none fun f => rawInt f)))).get? b = s.heap.get? b := fun b hb => Heap.get?_update_other _ _ (Ne.symm hb)
  refine wpAny_setField hT hdT hsz (h _ ⟨oe, vs, (oth e (Ne.symm hne)).trans he, hC, hdd, hd, h1⟩ ⟨_, _, up_self hT hdT, Obj.data_mapFields hdT _, by simp [hsz]⟩ (fun b o k q => (oth b k).trans q) fun b o q => ?_)
  by_cases k : b = T
  · rw [k]; exact ⟨_, up_self hT hdT⟩
  · exact ⟨o, (oth b k).trans q⟩
end

/-- an exception that flies behind a call -/
def CXx (P : Program) (w : World) : CXT := fun outer H s E u s' => ∃ (e : Addr) (C : Value) (dd : Option Addr) (T : Addr) (H' : Hp), u = .ref e ∧ s'.os = s.os ∧ AllBare s'.gens ∧ Un (frs outer) [] H H' s.heap s'.heap ∧ HOk P w H' s'.heap ∧
  ExAt s'.heap e C dd (.ref T) ∧ TrAt s'.heap T .none ∧ T ≠ e ∧ H' e = none ∧ H' T = none ∧ s.heap.get? e = none ∧ s.heap.get? T = none ∧ E C dd H'
/-- an exception of a callee, by the names' values at the call -/
def PassesS (CX : CXT) (X : Cx) (Ez : St → XK) : Prop := ∀ (pins : List (Addr × Obj)) (σ : St) (H : Hp) (s : Shared) (e : Value) (s' : Shared), Inv X pins σ H s → CX X.stack H s (Ez σ) e s' → X.xe e s'

/-- a flight through one frame, as the frames below see it. l: the frames that ran; s: the entry; g: the state ahead of the step -/
theorem un_moved {l l' : List Env} {H H' : Hp} {h g h' : Heap} {e : Addr} {T0 : Option Addr} (u : Un (frs l') [] H H' h g) (mv : Moved (frs l) e T0 g h') (hsub : ∀ b ∈ frs l', b ∈ frs l) (hnew : ∀ b o, h.get? b = some o → b ∈ frs l → b ∈ frs l')
    (he : h.get? e = none) (hT : ∀ T, T0 = some T → h.get? T = none) : Un (frs l') [] H H' h h' := by
  have k1 : ∀ b o, h.get? b = some o → b ≠ e := fun b o q z => by rw [z, he] at q; cases q
  have k2 : ∀ b o, h.get? b = some o → some b ≠ T0 := fun b o q z => by rw [hT b z.symm] at q; cases q
  refine ⟨fun b o q n hb hx => ?_, fun b o q n hb hx => ?_, u.free, fun b o q hx => ?_, u.tups, u.frzs, u.tbls⟩
  · exact mv.keep b o (k1 b o q) (k2 b o q) (fun z => hb (hnew b o q z)) (u.keep b o q n hb hx)
  · obtain ⟨sl, q1⟩ := u.slot b o q n hb hx
    obtain ⟨sl2, q2⟩ := mv.slot b _ (hsub b hb) q1
    exact ⟨sl2, q2⟩
  · obtain ⟨o1, q1⟩ := u.there b o q hx
    exact mv.there b o1 q1

section
variable {P : Program} {w : World} {K : PySem.W.Frag} {mg : Str → Option Value} {base : Heap} {N : List Str} {qual : Str} {scope : Scope} {f : Addr} {cd : Value} {A : Around} {outer : List Env} {s₀ : Shared} {H₀ : Hp} {E : XK}
theorem frs_cons {env : Env} {outer : List Env} {L : Addr} (h : env.frame = some L) : frs (env :: outer) = L :: frs outer := by
  unfold frs
  rw [List.filterMap_cons, h]

/-- both steps of a flight out of a frame -/
theorem leave_fly {M : Model} {A : Around} {E : Value → Shared → Prop} {s : Shared} {base : Heap} {env : Env} {outer : List Env} {L e : Addr} {C : Value} {dd : Option Addr} {T0 : Option Addr} {Q : Unit → Shared → Prop}
    (hfr : A.frames = some (env :: outer)) (hl : s.heap.FunFrames base (env :: outer)) (hf : env.frame = some L) (X : ExAt s.heap e C dd (T0.elim .none Value.ref)) (hT : ∀ T, T0 = some T → TrAt s.heap T .none ∧ T ≠ e)
    (h : ∀ h' T, ExAt h' e C dd (.ref T) → TrAt h' T .none → s.heap.objs.size ≤ T → T ≠ e → Moved (frs (env :: outer)) e T0 s.heap h' → Q () { s with heap := h' }) :
    wpAny M A (noteFrame (.ref e) env) (fun _ s2 => wpAny M A (setFlight (.ref e) none) Q E s2) E s := by
  refine note_fly hfr hl hf X hT fun h1 T x1 x2 x3 x4 mv => ?_
  refine rest_fly (s := { s with heap := h1 }) x1 x2 x4 fun h2 y1 y2 k1 k2 => h h2 T y1 y2 x3 x4 ?_
  have nT : ∀ b o, s.heap.get? b = some o → b ≠ T := fun b o q z => absurd (Heap.lt_size q) (by rw [z]; exact Nat.not_lt.mpr x3)
  refine ⟨fun b o z1 z2 z3 q => k1 b o (nT b o q) (mv.keep b o z1 z2 z3 q), fun b o hb q => ?_, fun b o q => ?_⟩
  · obtain ⟨sl, q1⟩ := mv.slot b o hb q
    exact ⟨sl, k1 b _ (nT b o q) q1⟩
  · obtain ⟨o1, q1⟩ := mv.there b o q
    exact k2 b o1 q1

theorem funFrames_un {base h h' : Heap} : ∀ {l : List Env}, h.FunFrames base l → (∀ b o, b ∈ frs l → h.get? b = some o → ∃ sl, h'.get? b = some { o with slots := sl }) → h'.FunFrames base l
  | [], _, _ => trivial
  | env :: r, hl, k => by
    obtain ⟨hk, ⟨L, o, hf, hn, ho, hd⟩, hr⟩ := hl
    have e := frs_cons (outer := r) hf
    obtain ⟨sl, z⟩ := k L o (by rw [e]; exact List.mem_cons_self) ho
    exact ⟨hk, ⟨L, _, hf, hn, z, hd⟩, funFrames_un hr fun b o' hb q => k b o' (by rw [e]; exact List.mem_cons_of_mem _ hb) q⟩
/-- a call's change as the callers see it -/
theorem un_enter {fs : List Addr} {L : Addr} {H H1 H2 : Hp} {h h1 h2 : Heap} (a : Un fs [] H H1 h h1) (b : Un (L :: fs) [] H1 H2 h1 h2) (hL : h.get? L = none) : Un fs [] H H2 h h2 where
  keep := fun c o q n hc hx => b.keep c o (a.keep c o q n hc hx) (a.free c o q n hx) (fun z => (List.mem_cons.mp z).elim (fun y => by rw [y, hL] at q; cases q) hc) (by simp)
  slot := fun c o q n hc hx => by
    obtain ⟨sl, q1⟩ := a.slot c o q n hc hx
    obtain ⟨sl2, q2⟩ := b.slot c _ q1 (a.free c o q n hx) (List.mem_cons_of_mem _ hc) (by simp)
    exact ⟨sl2, q2⟩
  free := fun c o q n hx => by
    obtain ⟨o1, q1⟩ := a.there c o q hx
    exact b.free c o1 q1 (a.free c o q n hx) (by simp)
  there := fun c o q hx => by
    obtain ⟨o1, q1⟩ := a.there c o q hx
    exact b.there c o1 q1 (by simp)
  tups := fun c xs q => b.tups c xs (a.tups c xs q)
  frzs := fun c o xs q => b.frzs c o xs (a.frzs c o xs q)
  tbls := fun c ps q => by
    obtain ⟨m1, e1⟩ := a.tbls c ps q
    obtain ⟨m2, e2⟩ := b.tbls c _ e1
    exact ⟨m1 ++ m2, by rw [e2, Array.append_assoc]⟩

theorem pass_def : PassesS (CXx P w) (cxOf (CXx P w) P w K mg base N qual scope f cd A outer s₀ H₀ E) (fun _ => E) := by
  intro pins σ H s u s' I h
  obtain ⟨e, C, dd, T, H', rfl, os, bare, un, hok, x1, x2, x3, f1, f2, n1, n2, hE⟩ := h
  have fe : frs (envOfC qual scope s₀.heap.objs.size f cd :: outer) = s₀.heap.objs.size :: frs outer := frs_cons rfl
  have un' : Un (s₀.heap.objs.size :: frs outer) [] H H' s.heap s'.heap := by rw [← fe]; exact un
  have ib : Un (frs outer) [] H₀ H s₀.heap s.heap := I.base
  have nL : s₀.heap.get? s₀.heap.objs.size = none := Heap.get?_none_of_le (Nat.le_refl _)
  have um := un_enter ib un' nL
  have hfun : s'.heap.FunFrames base (envOfC qual scope s₀.heap.objs.size f cd :: outer) := funFrames_un I.stack fun b o hb q => un.slot b o q (I.stkFree b hb) hb (by simp)
  have ntr : ∀ b u, H' b = some u → b ∉ frs (envOfC qual scope s₀.heap.objs.size f cd :: outer) := fun b u q hb => by
    obtain ⟨_, o, ho, _⟩ := I.stack.mem hb
    have := un.free b o ho (I.stkFree b hb) (by simp)
    rw [q] at this; cases this
  show wpAny _ _ (leaving _ (.ref e)) _ _ s'
  unfold leaving
  refine wpAny_bind (leave_fly (T0 := some T) (L := s₀.heap.objs.size) I.ok.frames hfun rfl x1 (fun T' z => by cases z; exact ⟨x2, x3⟩) fun h' T2 y1 y2 y3 y4 mv => ?_)
  have none_of : ∀ b, s.heap.get? b = none → s₀.heap.get? b = none := fun b hb => by
    cases q : s₀.heap.get? b with
    | none => rfl
    | some o => obtain ⟨o1, q1⟩ := ib.there b o q (by simp); rw [hb] at q1; cases q1
  refine ⟨e, C, dd, T2, H', rfl, os.trans I.os, bare, un_moved (l := envOfC qual scope s₀.heap.objs.size f cd :: outer) um mv (fun b hb => by rw [fe]; exact List.mem_cons_of_mem _ hb) (fun b o q hb => ?_) (none_of e n1) (fun T' z => by cases z; exact none_of T n2),
    hok.track fun b u o q1 q2 => mv.keep b o (fun z => by rw [z, f1] at q1; cases q1) (fun z => by cases z; rw [f2] at q1; cases q1) (ntr b u q1) q2, y1, y2, y4, f1, ?_, none_of e n1, ?_, hE⟩
  · rw [fe] at hb
    rcases List.mem_cons.mp hb with z | z
    · rw [z, nL] at q; cases q
    · exact z
  · cases q : H' T2 with
    | none => rfl
    | some u => obtain ⟨ob, hob⟩ := (hok T2 u q).there; exact absurd (Heap.lt_size hob) (Nat.not_lt.mpr y3)
  · cases q : s₀.heap.get? T2 with
    | none => rfl
    | some o => obtain ⟨o1, q1⟩ := um.there T2 o q (by simp); exact absurd (Heap.lt_size q1) (Nat.not_lt.mpr y3)

/-- what a raise asks of its context: the exception's class, its dict -/
def Rz (X : Cx) (E : XK) : Prop := ∀ (pins : List (Addr × Obj)) (σ : St) (H : Hp) (s : Shared) (h' : Heap) (e : Addr) (C : Value) (vs : List Value), Inv X pins σ H s → Heap.MadeExcOf s.heap h' e C vs → E C none H → X.xe (.ref e) { s with heap := h' }
theorem rz_def : Rz (cxOf (CXx P w) P w K mg base N qual scope f cd A outer s₀ H₀ E) E := by
  intro pins σ H s h1 e C vs I mx hE
  obtain ⟨t, he, htn, ht⟩ := mx.there
  have fe : frs (envOfC qual scope s₀.heap.objs.size f cd :: outer) = s₀.heap.objs.size :: frs outer := frs_cons rfl
  have ib : Un (frs outer) [] H₀ H s₀.heap s.heap := I.base
  have nL : s₀.heap.get? s₀.heap.objs.size = none := Heap.get?_none_of_le (Nat.le_refl _)
  have um : Un (frs outer) [] H₀ H s₀.heap h1 := ib.trans (Un.kept mx.keeps)
  have hfun : h1.FunFrames base (envOfC qual scope s₀.heap.objs.size f cd :: outer) := funFrames_un I.stack fun b o hb q => ⟨o.slots, mx.keeps b o q⟩
  have ntr : ∀ b u, H b = some u → b ∉ frs (envOfC qual scope s₀.heap.objs.size f cd :: outer) := fun b u q hb => by
    have := I.stkFree b hb
    rw [q] at this; cases this
  have hok1 : HOk P w H h1 := I.hok.kept mx.keeps
  have fE : H e = none := by
    cases q : H e with
    | none => rfl
    | some u => obtain ⟨ob, hob⟩ := (I.hok e u q).there; rw [mx.new] at hob; cases hob
  have none_of : ∀ b, s.heap.get? b = none → s₀.heap.get? b = none := fun b hb => by
    cases q : s₀.heap.get? b with
    | none => rfl
    | some o => obtain ⟨o1, q1⟩ := ib.there b o q (by simp); rw [hb] at q1; cases q1
  show wpAny _ _ (leaving _ (.ref e)) _ _ { s with heap := h1 }
  unfold leaving
  refine wpAny_bind (leave_fly (s := { s with heap := h1 }) (T0 := none) (L := s₀.heap.objs.size) (C := C) (dd := none) I.ok.frames hfun rfl ⟨_, _, he, rfl, rfl, rfl, rfl⟩ (fun T' z => by cases z) fun h' T2 y1 y2 y3 y4 mv => ?_)
  refine ⟨e, C, none, T2, H, rfl, I.os, I.bare, un_moved (l := envOfC qual scope s₀.heap.objs.size f cd :: outer) um mv (fun b hb => by rw [fe]; exact List.mem_cons_of_mem _ hb) (fun b o q hb => ?_) (none_of e mx.new) (fun T' z => by cases z),
    hok1.track fun b u o q1 q2 => mv.keep b o (fun z => by rw [z, fE] at q1; cases q1) (by simp) (ntr b u q1) q2, y1, y2, y4, fE, ?_, none_of e mx.new, ?_, hE⟩
  · rw [fe] at hb
    rcases List.mem_cons.mp hb with z | z
    · rw [z, nL] at q; cases q
    · exact z
  · cases q : H T2 with
    | none => rfl
    | some u => obtain ⟨ob, hob⟩ := (hok1 T2 u q).there; exact absurd (Heap.lt_size hob) (Nat.not_lt.mpr y3)
  · cases q : s₀.heap.get? T2 with
    | none => rfl
    | some o => obtain ⟨o1, q1⟩ := um.there T2 o q (by simp); exact absurd (Heap.lt_size q1) (Nat.not_lt.mpr y3)
end

/-! ### calls whose exceptions are looked at -/
def tCallS (sp : Sp) (dvs : List V) (Ez : St → XK) (t : TA) : TE := fun σ H Q => t σ H fun vs H1 => sp (vs ++ dvs) H1 Q (Ez σ)
section
variable {X : Cx} {CX : CXT} {k : Nat} {f C : Addr} {fd : FuncData} {ps : List Str} {sp : Sp} {dvs : List V} {ds : List Value} {Ez : St → XK} {x m : Str} {p pos apos : Pos} {e o : Expr} {es : List Expr} {ta : TE} {t : TA}
theorem run_fnS {pins : List (Addr × Obj)} {σ : St} {H : Hp} {s : Shared} {Q : VK} {us : List Value} {vs : List V} (F : FnOk X.prog X.w X.K X.mg X.base CX k f fd ps sp) (hr : Room k X.A) (hb : Binds X.K fd ps ds) (hd : Vals dvs ds) (hx : PassesS CX X Ez)
    (I : Inv X pins σ H s) (r : Vals vs us) (h : sp (vs ++ dvs) H Q (Ez σ)) : wpAny (model X.prog X.w) X.A (call (.ref f) us) (EP X pins σ Q) X.xe s := by
  have r2 : Vals (vs ++ dvs) (us ++ ds) := r.append hd
  have hl : (us ++ ds).length = ps.length := by rw [← r2.length]; exact F.len _ _ _ _ h
  refine wpAny_call (codeAny_mono (F.run X.A X.stack s H ⟨us, []⟩ (us ++ ds) (vs ++ dvs) Q (Ez σ) hr I.env0 (hb s us I.kIn hl) r2 h) fun r s' hq => ?_)
  cases r with
  | error e => exact hx pins σ H s e s' I hq
  | ok fl =>
    cases fl with
    | ret u => exact I.after hq
    | next => exact False.elim hq
    | brk => exact False.elim hq
    | cont => exact False.elim hq
theorem pe_callS (F : FnOk X.prog X.w X.K X.mg X.base CX k f fd ps sp) (hr : Room k X.A) (hg : Gl X x) (hm : X.mg x = some (.ref f)) (hk : PySem.W.keepIn X.K (.ref f) = true) (hb : Binds X.K fd ps ds) (hd : Vals dvs ds) (hx : PassesS CX X Ez)
    (ha : PA X (e :: es) t) (hdb : (x == ("__debug__" : Str)) = false := by decide) (he : starEach (e :: es) X.env = (false, eval e X.env) :: starEach es X.env := by rfl) (hpl : (backTo pos (starEach es X.env)).any (·.1) = false := by rfl) :
    PE X (.Call (.Name x p) (e :: es) [] pos) (tCallS sp dvs Ez t) := by
  unfold PE at *; unfold PA at *
  exact by
    intro pins s σ H Q I h
    refine wpAny_Call_Name_kw (ld_glob I hg hm ?_ hdb)
    refine PySem.W.callWith_K (h₀ := X.base) I.ok.mod.kin hk (thn (ha pos pins s σ H _ I h) fun us s1 ⟨vs, H1, I1, r, q⟩ => ⟨I1.kIn, ?_⟩) he hpl
    exact run_fnS F hr hb hd hx I1 r q

end
end L2

namespace L2
open PySem PySem.Spec PyProof.Rows

/-! ### raise C(..): an own error class over ValueError, without an __init__ -/
def vmro : List Value := [.type "ValueError", .type "Exception", .type "BaseException", .type "object"]
def NsK (K : PySem.W.Frag) (N : Addr) (es : Array DictEntry) : Prop := ∃ c d ep sl, K.lookup N = some ⟨c, d, .dict es ep, sl⟩ ∧ StrKeys es
theorem NsK.ns {K : PySem.W.Frag} {N : Addr} {es : Array DictEntry} {h : Heap} (x : NsK K N es) (X : K.In h) : h.Ns N (nsFind es) := by
  obtain ⟨c, d, ep, sl, lk, sk⟩ := x
  exact ⟨_, es, ep, X _ _ lk, rfl, sk, fun _ => rfl⟩
inductive TailK (K : PySem.W.Frag) : List Value → Prop
  | base : TailK K vmro
  | own {A : Addr} {c0 : Value} {dd : Option Addr} {cd : ClassData} {sl : Array (Option Value)} {tl : List Value} {es : Array DictEntry} :
      K.lookup A = some { cls := c0, dict := dd, data := .cls cd, slots := sl } → NsK K cd.ns es → nsFind es "__init__" = none → TailK K tl → TailK K (.ref A :: tl)
theorem TailK.own' {K : PySem.W.Frag} {h : Heap} {bm : List Value} (t : TailK K bm) (X : K.In h) : OwnTail h vmro bm := by
  induction t with
  | base => exact .base
  | own l n i _ ih => exact .own (X _ _ l) (n.ns X) i ih
structure XCls (K : PySem.W.Frag) (C : Addr) : Prop where
  ex : ∃ nm q N bs bm hdct sn sub ab col dd k0 k1 k2 k3 k5 es, K.lookup C = some (excClassObj nm q C N bs bm hdct sn sub ab col dd k0 k1 k2 k3 k5 "ValueError.__new__") ∧ NsK K N es ∧ nsFind es "__init__" = none ∧ TailK K bm
def tRaise (t : TA) (C : Value) (E : XK) : TS := fun _ σ H => t σ H fun vs H1 => vs.length ≤ sizeLine ∧ E C none H1
theorem ps_raise {X : Cx} {C : Addr} {x : Str} {np cpos pos : Pos} {e₀ : Expr} {rest : List Expr} {t : TA} {E : XK} (xc : XCls X.K C) (hc : X.calm = true) (hg : Gl X x) (hm : X.mg x = some (.ref C)) (hz : Rz X E) (ha : PA X (e₀ :: rest) t)
    (hdb : (x == ("__debug__" : Str)) = false := by decide) (he : starEach (e₀ :: rest) X.env = (false, eval e₀ X.env) :: starEach rest X.env := by rfl) (hpl : (backTo cpos (starEach rest X.env)).any (·.1) = false := by rfl) :
    PS X (.Raise (some (.Call (.Name x np) (e₀ :: rest) [] cpos)) none pos) (tRaise t (.ref C) E) := by
  unfold PA at *; unfold PS at *
  exact by
    intro pins s σ H D I h
    obtain ⟨nm, q, N, bs, bm, hdct, sn, sub, ab, col, dd, k0, k1, k2, k3, k5, es, lk, nk, ni, tl⟩ := xc.ex
    refine wpAny_Raise_call_subT (C := C) (nm := nm) (q := q) (N := N) (bs := bs) (bm := bm) (hdct := hdct) (sn := sn) (sub := sub) (ab := ab) (col := col) (dd := dd) (k0 := k0) (k1 := k1) (k2 := k2) (k3 := k3) (k5 := k5)
      F.excBase_ValueError (mN := nsFind es) ((tl.own' I.kIn).hasType F.excBase_ValueError.hasBase) (I.ok.hd hc) ?_ ni (ld_glob I hg hm ⟨rfl, ?_⟩ hdb)
    · rw [he]
      show (false || (backTo cpos (starEach rest X.env)).any (·.1)) = false
      rw [hpl]; rfl
    · have hA := ha cpos pins s σ H _ I h
      rw [he] at hA ⊢
      refine Calls.evalArgs_plain (wpAny_mono hA (fun us s2 ⟨vs, H1, I1, r, z, hE⟩ => ?_) fun _ _ y => y)
      exact ⟨rfl, by rw [← r.length]; exact z, I1.kIn _ _ lk, nk.ns I1.kIn, tl.own' I1.kIn, fun h' e mx => hz pins σ H1 s2 h' e (.ref C) us I1 mx hE⟩

/-! ### a def whose exceptions are looked at -/
theorem Fun.okx {P : Program} {w : World} {K : PySem.W.Frag} {mg : Str → Option Value} {base : Heap} {x qual : Str} {st : Stmt} {f : Addr} {fd : FuncData} {N ps : List Str} {k : Nat} {sp : Sp} (F : Fun K x qual st f fd) (S : FnScope N ps (defScope st)) (len : ∀ vs H Q E, sp vs H Q E → vs.length = ps.length)
    (hbody : ∀ (cdv : Value) (A : Around) (outer : List Env) (s : Shared) (H : Hp) (vs : List V) (Q : VK) (E : XK), Room k (A.deeper (envOfC qual (defScope st) s.heap.objs.size f cdv)) → sp vs H Q E →
      ∃ t, PSs (cxOf (CXx P w) P w K mg base N qual (defScope st) f cdv A outer s H E) (defBody st) t ∧ t { nx := fun _ H' => Q .non H', rt := Q } (start N vs) H) : FnOk P w K mg base (CXx P w) (k + 1) f fd ps sp := by
  obtain ⟨oc, od, kV, doc, pm, an, cdv, ct, osl, rfl, lk, hcd⟩ := F.ex
  exact fn_of lk hcd S len fun A outer s H vs Q E hr hsp => hbody cdv A outer s H vs Q E hr hsp

/-! ### try: .. except C as n: .. -/
section
variable {X : Cx} {pins pins' : List (Addr × Obj)} {σ : St} {H : Hp} {s : Shared} {W : Value → Shared → Prop}
def Cx.tr (X : Cx) (pins : List (Addr × Obj)) (W : Value → Shared → Prop) : Cx := { X with xe := W, pn := X.pn ++ pins }
theorem Cx.Ok.tr (ok : X.Ok) : (X.tr pins W).Ok := ⟨ok.mod, ok.kind, ok.glob, ok.blt, ok.above, ok.inj, ok.has, ok.cab, ok.hd, ok.frames, ok.stk, ok.exf, ok.bs, ok.bsz, ok.noex, ok.exfs, ok.funs, ok.frf⟩
theorem Cx.Ok.untr (ok : (X.tr pins W).Ok) : X.Ok := ⟨ok.mod, ok.kind, ok.glob, ok.blt, ok.above, ok.inj, ok.has, ok.cab, ok.hd, ok.frames, ok.stk, ok.exf, ok.bs, ok.bsz, ok.noex, ok.exfs, ok.funs, ok.frf⟩
theorem Inv.tr (I : Inv X pins σ H s) : Inv (X.tr pins W) [] σ H s := ⟨I.ok.tr, I.os, I.bare, I.base, I.loc, I.cell, I.free, I.freeC, fun p hp => I.pin p (by simpa [Cx.tr] using hp), I.hok, I.len⟩
theorem Inv.untr (I : Inv (X.tr pins W) pins' σ H s) : Inv X pins σ H s := ⟨I.ok.untr, I.os, I.bare, I.base, I.loc, I.cell, I.free, I.freeC, fun p hp => I.pin p (List.mem_append_left _ hp), I.hok, I.len⟩
theorem SP.untr {D : Ends} {f : Flow} (h : SP (X.tr pins W) pins' D f s) : SP X pins D f s := by
  cases f with
  | next => obtain ⟨a, b, I, q⟩ := h; exact ⟨a, b, I.untr, q⟩
  | brk => obtain ⟨a, b, I, q⟩ := h; exact ⟨a, b, I.untr, q⟩
  | cont => obtain ⟨a, b, I, q⟩ := h; exact ⟨a, b, I.untr, q⟩
  | ret u => obtain ⟨v, a, b, I, r, q⟩ := h; exact ⟨v, a, b, I.untr, r, q⟩
/-- within an except's suite: nothing may be raised there, and no def is called -/
def Cx.sui (X : Cx) (e : Addr) : Cx := { X with A := X.A.mark (some (.ref e)), calm := false, xe := fun _ _ => False }
theorem Cx.Ok.sui (ok : X.Ok) (e : Addr) : (X.sui e).Ok := ⟨ok.mod, ok.kind, ok.glob, ok.blt, ok.above, ok.inj, ok.has, ok.cab, fun z => Bool.noConfusion z, ok.frames, ok.stk, ok.exf, ok.bs, ok.bsz, ok.noex, ok.exfs, ok.funs, ok.frf⟩
theorem Inv.sui (I : Inv X pins σ H s) (e : Addr) : Inv (X.sui e) pins σ H s := ⟨I.ok.sui e, I.os, I.bare, I.base, I.loc, I.cell, I.free, I.freeC, I.pin, I.hok, I.len⟩
theorem Inv.unsui {e : Addr} (ok : X.Ok) (I : Inv (X.sui e) pins σ H s) : Inv X pins σ H s := ⟨ok, I.os, I.bare, I.base, I.loc, I.cell, I.free, I.freeC, I.pin, I.hok, I.len⟩

/-- an untracked object of our own becomes tracked -/
theorem Inv.adopt {e : Addr} {o : HO} (I : Inv X pins σ H s) (hn : H e = none) (h0 : X.s₀.heap.get? e = none) (hL : e ≠ X.env.locals) (hc : ∀ x c, X.env.cells.lookup x = some c → c ≠ e) (hp : ∀ p ∈ X.pn ++ pins, p.1 ≠ e)
    (new : ObjOk X.prog X.w (upd H e o) s.heap e o) : Inv X pins σ (upd H e o) s := by
  have ne : ∀ b u, H b = some u → b ≠ e := fun b u q z => by rw [z, hn] at q; cases q
  refine ⟨I.ok, I.os, I.bare, ⟨I.base.keep, I.base.slot, fun b ob q n hx => ?_, I.base.there, fun b xs q => ?_, fun b ob u q => ?_, fun b ps q => ?_⟩, I.loc, I.cell, ?_, fun x c q => ?_, fun p hq => ?_, fun b u q => ?_, I.len⟩
  · rw [upd_ne (fun z => by rw [z, h0] at q; cases q)]
    exact I.base.free b ob q n hx
  · have q1 := I.base.tups b xs q
    rw [upd_ne (ne b _ q1)]; exact q1
  · have q1 := I.base.frzs b ob u q
    rw [upd_ne (ne b _ q1)]; exact q1
  · obtain ⟨m, q1⟩ := I.base.tbls b ps q
    exact ⟨m, by rw [upd_ne (ne b _ q1)]; exact q1⟩
  · rw [upd_ne (Ne.symm hL)]; exact I.free
  · rw [upd_ne (hc x c q)]; exact I.freeC x c q
  · obtain ⟨a1, a2, a3, a4, a5⟩ := I.pin p hq
    exact ⟨a1, by rw [upd_ne (hp p hq)]; exact a2, a3, a4, a5⟩
  · by_cases hb : b = e
    · subst hb; rw [upd_same] at q; cases q; exact new
    · rw [upd_ne hb] at q
      exact (I.hok b u q).stay (fun _ _ _ z => z) (fun c z => by rw [upd_ne (ne c _ z)]; exact z) fun c xs z => by rw [upd_ne (ne c _ z)]; exact z

/-- the name n is let go -/
theorem goes_ok {M : Model} {A : Around} {E : Value → Shared → Prop} {i : Nat} {n : Str} {pos : Pos} {Q : Unit → Shared → Prop} (I : Inv X pins σ H s) (hN : X.N.Nodup) (hi : X.N[i]? = some n) (hk : X.env.kindOf n = some .local)
    (h : ∀ s', Inv X pins (σ.set i none) H s' → Q () s') : wpAny M A (do bindName X.env n .none; unbindBehindTheSuite X.env n pos) Q E s := by
  obtain ⟨m, hn, hl⟩ := id I.loc
  have hcls : (X.env.scope.kind == .class || (X.env.scope.kind == .module && X.env.locals != X.env.globals)) = false := by rw [I.ok.kind]; rfl
  refine wpAny_nameGoes_keeps hk hn hcls fun h' v hn' hs => h _ ?_
  obtain ⟨oL, _, _, hoL, _⟩ := id hn
  have kb : ∀ b o, b ≠ X.env.locals → s.heap.get? b = some o → h'.get? b = some o := fun b o hb e => (hs.2 b hb).trans e
  have nL : ∀ b o, X.s₀.heap.get? b = some o → b ≠ X.env.locals := fun b o e => Nat.ne_of_lt (Nat.lt_of_lt_of_le (Heap.lt_size e) I.ok.above)
  refine ⟨I.ok, I.os, I.bare, ⟨fun b o e n hb hx => kb b o (nL b o e) (I.base.keep b o e n hb hx), fun b o e n hb hx => ?_, I.base.free, fun b o e hx => ?_, I.base.tups, I.base.frzs, I.base.tbls⟩, ⟨_, hn', fun j y v' e1 e2 e3 => ?_⟩, fun y c e => ?_, I.free, I.freeC, fun p hp => ?_,
    I.hok.track fun b u o q1 q2 => kb b o (fun z => by rw [z, I.free] at q1; cases q1) q2, by simpa using I.len⟩
  · obtain ⟨sl, e1⟩ := I.base.slot b o e n hb hx
    exact ⟨sl, kb b _ (nL b o e) e1⟩
  · obtain ⟨o', e1⟩ := I.base.there b o e hx
    exact ⟨o', kb b o' (nL b o e) e1⟩
  · by_cases hj : j = i
    · subst hj
      have hj' : j < σ.length := by rw [I.len]; exact (List.getElem?_eq_some_iff.mp e1).1
      rw [List.getElem?_set_self hj'] at e2
      cases e2
    · rw [List.getElem?_set_ne (Ne.symm hj)] at e2
      obtain ⟨u', r', q⟩ := hl j y v' e1 e2 e3
      refine ⟨u', r', ?_⟩
      rcases q with ⟨k, e⟩ | ⟨k, c, e, z⟩
      · refine .inl ⟨k, ?_⟩
        have : y ≠ n := fun e => hj (nodup_ix hN e1 (e ▸ hi))
        simp [this, e]
      · exact .inr ⟨k, c, e, z.sameBut hs (I.cne y c e)⟩
  · obtain ⟨w', z⟩ := I.cell y c e
    exact ⟨w', z.sameBut hs (I.cne y c e)⟩
  · obtain ⟨e, n', ne, nf, d⟩ := I.pin p hp
    exact ⟨kb _ _ ne e, n', ne, nf, d⟩
end

/-- a caught exception: its class, its dict -/
def exO (C : Value) (dd : Option Addr) (e : Addr) : HO := .ext fun h => ∃ oe vs, h.get? e = some oe ∧ oe.cls = C ∧ oe.dict = dd ∧ oe.data = .fields vs
theorem exO_ok {P : Program} {w : World} {H : Hp} {h : Heap} {e : Addr} {C t1 : Value} {dd : Option Addr} (x : ExAt h e C dd t1) : ObjOk P w H h e (exO C dd e) := by
  obtain ⟨oe, vs, he, hC, hdd, hd, _⟩ := x
  exact ⟨⟨oe, vs, he, hC, hdd, hd⟩, ⟨oe, he⟩, fun h1 h2 ⟨o, v, q, r⟩ k => ⟨o, v, k o q, r⟩⟩

def tTry (K : PySem.W.Frag) (Cv : Value) (i : Nat) (tb : (St → XK) → List (Addr × Obj) → (Value → Shared → Prop) → TS) (th : Addr → TS) : TS := fun D σ H => ∃ Ez : St → XK, (∀ pins W, tb Ez pins W D σ H) ∧
  ∀ σ1 C dd H1, Ez σ1 C dd H1 → PySem.W.exmOne K C Cv = some true ∧ ∀ e, H1 e = none →
    th e { nx := fun σ2 H2 => D.nx (σ2.set i none) H2, rt := D.rt, bk := fun σ2 H2 => D.bk (σ2.set i none) H2, ct := fun σ2 H2 => D.ct (σ2.set i none) H2 } (σ1.set i (some (.ref e))) (upd H1 e (exO C dd e))
section
variable {X : Cx}
theorem ps_try {body suite : List Stmt} {b₀ : Stmt} {tx n : Str} {i : Nat} {np hpos pos : Pos} {Cv : Value} {tb : (St → XK) → List (Addr × Obj) → (Value → Shared → Prop) → TS} {th : Addr → TS}
    (hst : X.stack = X.env :: X.outer) (hfr : X.env.frame = some X.env.locals) (hex : X.ex = []) (hN : X.N.Nodup) (hi : X.N[i]? = some n) (hk : X.env.kindOf n = some .local) (hg : Gl X tx) (hm : X.mg tx = some Cv)
    (hb : ∀ Ez pins W, PassesS (CXx X.prog X.w) (X.tr pins W) Ez → PSs (X.tr pins W) body (tb Ez pins W)) (hs : ∀ e, PSs (X.sui e) (b₀ :: suite) (th e)) (hdb : (tx == ("__debug__" : Str)) = false := by decide) :
    PS X (.Try body [.ExceptHandler (some (.Name tx np)) (some n) (b₀ :: suite) hpos] [] [] pos) (tTry X.K Cv i tb th) := by
  unfold PS at *; unfold PSs at *
  exact by
    intro pins s σ H D I h
    obtain ⟨Ez, hb1, hh⟩ := h
    let W : Value → Shared → Prop := fun u s' => ∃ σ1 H1 s1, Inv X pins σ1 H1 s1 ∧ CXx X.prog X.w X.stack H1 s1 (Ez σ1) u s'
    have hp : PassesS (CXx X.prog X.w) (X.tr pins W) Ez := fun pins' σ1 H1 s1 u s' I1 hx => ⟨σ1, H1, s1, I1.untr, hx⟩
    refine wpAny_Try_except (wpAny_mono ((hb Ez pins W hp) [] s σ H D I.tr (hb1 pins W)) (fun f s1 q => ?_) (fun u s' q => ?_))
    · have q' := q.untr
      cases f with
      | next => exact wpAny_execs_nil q'
      | brk => exact q'
      | cont => exact q'
      | ret v => exact q'
    · obtain ⟨σ1, H1, s1, I1, e, C, dd, T, H', rfl, os, bare, un, hok, x1, x2, x3, f1, f2, n1, n2, hE⟩ := q
      have hfun : s'.heap.FunFrames X.base (X.env :: X.outer) := by
        rw [← hst]
        exact funFrames_un I1.stack fun b o hb q => un.slot b o q (I1.stkFree b hb) hb (by simp)
      refine leave_fly (T0 := some T) (L := X.env.locals) (by rw [← hst]; exact I1.ok.frames) hfun hfr x1 (fun T' z => by cases z; exact ⟨x2, x3⟩) fun h' T2 y1 y2 y3 y4 mv => ?_
      rw [← hst] at mv
      have ntr : ∀ b u, H' b = some u → b ∉ frs X.stack := fun b u q hb => by
        obtain ⟨_, o, ho, _⟩ := I1.stack.mem hb
        have := un.free b o ho (I1.stkFree b hb) (by simp)
        rw [q] at this; cases this
      have hU : Un (frs X.stack) [] H1 H' s1.heap h' := un_moved (l := X.stack) un mv (fun _ z => z) (fun _ _ _ z => z) n1 fun T' z => by cases z; exact n2
      have hO : HOk X.prog X.w H' h' := hok.track fun b u o q1 q2 => mv.keep b o (fun z => by rw [z, f1] at q1; cases q1) (fun z => by cases z; rw [f2] at q1; cases q1) (ntr b u q1) q2
      have I2 : Inv X pins σ1 H' { s' with heap := h' } := I1.call' (s' := { s' with heap := h' }) (ch := []) os hU hO bare fun _ z => absurd z (by simp)
      -- the exception becomes an object of ours
      have he0 : X.s₀.heap.get? e = none := by
        cases q : X.s₀.heap.get? e with
        | none => rfl
        | some o =>
          obtain ⟨o1, q1⟩ := I1.base.there e o q (by rw [hex]; simp)
          rw [n1] at q1; cases q1
      have live : ∀ b o, s1.heap.get? b = some o → b ≠ e := fun b o q z => by rw [z, n1] at q; cases q
      have heL : e ≠ X.env.locals := by
        obtain ⟨m, ⟨o, _, _, ho, _⟩, _⟩ := I1.loc
        exact Ne.symm (live _ _ ho)
      have heC : ∀ x c, X.env.cells.lookup x = some c → c ≠ e := fun x c q => by
        obtain ⟨v, o, ho, _⟩ := I1.cell x c q
        exact live _ _ ho
      have heP : ∀ p ∈ X.pn ++ pins, p.1 ≠ e := fun p hp => live _ _ (I1.pin p hp).1
      have I3 : Inv X pins σ1 (upd H' e (exO C dd e)) { s' with heap := h' } := I2.adopt f1 he0 heL heC heP (exO_ok y1)
      -- the trace's record is nobody's
      have szT : ∀ b o, s'.heap.get? b = some o → b ≠ T2 := fun b o q => Nat.ne_of_lt (Nat.lt_of_lt_of_le (Heap.lt_size q) y3)
      have liveT : ∀ b o, s1.heap.get? b = some o → b ≠ T2 := fun b o q => by
        obtain ⟨o', q'⟩ := un.there b o q (by simp)
        exact szT b o' q'
      have hTL : T2 ≠ X.env.locals := by
        obtain ⟨m, ⟨o, _, _, ho, _⟩, _⟩ := I1.loc
        exact Ne.symm (liveT _ _ ho)
      have hT0 : X.s₀.heap.objs.size ≤ T2 := by
        obtain ⟨m, ⟨o, _, _, ho, _⟩, _⟩ := I1.loc
        obtain ⟨o', q'⟩ := un.there _ o ho (by simp)
        exact Nat.le_trans I1.ok.above (Nat.le_trans (Nat.le_of_lt (Heap.lt_size q')) y3)
      have hTC : ∀ x c, X.env.cells.lookup x = some c → c ≠ T2 := fun x c q => by
        obtain ⟨v, o, ho, _⟩ := I1.cell x c q
        exact liveT _ _ ho
      have hTP : ∀ p ∈ X.pn ++ pins, p.1 ≠ T2 := fun p hp => liveT _ _ (I1.pin p hp).1
      have hTn : upd H' e (exO C dd e) T2 = none := by
        rw [upd_ne y4]
        cases q : H' T2 with
        | none => rfl
        | some u => obtain ⟨ob, hob⟩ := (hok T2 u q).there; exact absurd rfl (szT T2 ob hob)
      obtain ⟨hmt, hsu⟩ := hh σ1 C dd H' hE
      obtain ⟨oe, vs, hoe, hcls, _⟩ := id y1
      have LT : PySem.W.Looks (model X.prog X.w) h' (typeOf (.ref e)) C := by
        subst hcls
        exact (PySem.W.Looks.ld hoe).andThen .now
      have ok : X.Ok := I.ok
      refine wpAny_handleBy_cons (codeAny_handlers_test (ld_glob (X := X.sui e) (I3.sui e) hg hm ?_ hdb)) (by intro q; cases q)
      refine PySem.W.Looks.here (PySem.W.exm_one I3.kIn LT hmt) ?_
      show codeAny _ _ (.handlers (.ref e) [.ExceptHandler none (some n) (b₀ :: suite) hpos] X.env) _ _
      refine codeAny_handlers_suite_as ?_
      refine rest_fly y1 y2 y4 fun h2 z1 z2 k1 k2 => ?_
      have I4 : Inv X pins σ1 (upd H' e (exO C dd e)) { s' with heap := h2 } := I3.turned (t' := s'.toks) (fun b o hb q => k1 b o hb q) hTn hTL (.inr hT0) hTC hTP
      refine store_ok (X := X.sui e) (v := .ref e) (I4.sui e) hN hi (.inl hk) rfl (fun s5 I5 => ?_) (.inr hk)
      refine wpAny_mono ((hs e) pins s5 _ _ _ I5 (hsu e f1)) (fun f s6 q => ?_) fun _ _ z => z.elim
      show wpAny _ _ (do bindName X.env n .none; unbindBehindTheSuite X.env n hpos) _ _ s6
      cases f with
      | next => obtain ⟨σ6, H6, I6, q6⟩ := q; exact goes_ok (I6.unsui ok) hN hi hk fun s7 I7 => ⟨_, _, I7, q6⟩
      | brk => obtain ⟨σ6, H6, I6, q6⟩ := q; exact goes_ok (I6.unsui ok) hN hi hk fun s7 I7 => ⟨_, _, I7, q6⟩
      | cont => obtain ⟨σ6, H6, I6, q6⟩ := q; exact goes_ok (I6.unsui ok) hN hi hk fun s7 I7 => ⟨_, _, I7, q6⟩
      | ret v => obtain ⟨x6, σ6, H6, I6, r6, q6⟩ := q; exact goes_ok (I6.unsui ok) hN hi hk fun s7 I7 => ⟨_, _, _, I7, r6, q6⟩

end
end L2

namespace L2
open PySem PySem.Spec PyProof.Rows PySem.W

/-! ### isinstance of a caught exception -/
section
variable {prog : Program} {w : World} {A : Around} {E : Value → Shared → Prop} {s : Shared} {K : Frag} {e C : Addr} {oe : Obj}
theorem findX {a g : Value} {name : Str} (hc : (clsIn K C).isSome = true) (ha : findIn K (.ref C) name = some (some a)) (hg : specialIn K a "__get__" = some (some g)) (ht : takesIn K a = some true) : findObj K C none name = some (.bind g a) := by
  obtain ⟨cd, hc⟩ := Option.isSome_iff_exists.mp hc
  unfold findObj
  rw [hc, Option.bind_some, ha, Option.bind_some]
  simp [hg, ht]
/-- what of the text an own error class must have to be asked -/
structure XAsk (K : Frag) (C : Addr) : Prop where
  cs : (clsIn K C).isSome = true
  ga : findIn K (.ref C) "__getattribute__" = some (some (.builtin "BaseException.__getattribute__"))
  gt : findIn K (.ref C) "__getattr__" = some none
  ca : findIn K (.ref C) "__class__" = some (some (.builtin "object.__class__"))
  gg : specialIn K (.builtin "object.__class__") "__get__" = some (some (.builtin "getset_descriptor.__get__"))
  tk : takesIn K (.builtin "object.__class__") = some true
  mo : mroIn K C (.type "object") = some true
  sb : subIn K (.ref C) (.type "BaseException") = some true
theorem xcheck {nameV : Value} {Q : Unit → Shared → Prop} (U : XAsk K C) (X : K.In s.heap) (I : InstAt s.heap e oe C none) (hq : Q () s) :
    wpAny (model prog w) A (checkBuiltinCall "BaseException.__getattribute__" ⟨[.ref e, nameV], []⟩) Q E s := by
  have hk : builtinKind "BaseException.__getattribute__" = some .slot := by decide +kernel
  have hsplit : splitId "BaseException.__getattribute__" = some ("BaseException", "__getattribute__") := by decide +kernel
  have L0 := I.type (M := model prog w)
  have L1 := looks_subIn (M := model prog w) X U.sb
  have LI : Looks (model prog w) s.heap (isInstance (.ref e) (.type "BaseException")) true := L0.andThen L1
  have ha := F.args_bexc_ga (.ref e) nameV
  simp only [checkBuiltinCall, hk, hsplit]
  refine wpAny_bind (LI.at ?_)
  rw [if_neg (by decide)]
  exact wpAny_of_eq ha hq
theorem xentry {tk : Tok} {Q : Fin → Shared → Prop} (U : XAsk K C) (X : K.In s.heap) (I : InstAt s.heap e oe C none) (hq : Q (.done (.ret (.ref C))) s) :
    wpAny (model prog w) A (Builtin.«object.__getattribute__» ⟨[.ref e, .str "__class__" tk], []⟩) Q E s := by
  obtain ⟨hh, g, d, t, os⟩ := s
  have L0 := I.type (M := model prog w)
  have L3 := looks_find (M := model prog w) X I (findX U.cs U.ca U.gg U.tk)
  unfold Builtin.«object.__getattribute__»
  refine wpAny_bind (wpAny_of_eq (show slotArgs "__getattribute__" 1 ⟨[.ref e, .str "__class__" tk], []⟩ = pure (.ref e, [.str "__class__" tk]) from rfl) ?_)
  refine wpAny_bind (wpAny_of_eq (show Builtin.ObjectAttr.attrName (.str "__class__" tk) = pure ("__class__" : Str) from rfl) ?_)
  refine wpAny_bind (L0.at (wpAny_bind (L3.at ?_)))
  show wpAny _ _ (Builtin.ObjectAttr.bindTo (.builtin "getset_descriptor.__get__") (.builtin "object.__class__") (.ref e) (.ref C)) _ _ _
  show wpAny _ _ (holding [.builtin "object.__class__"] (call (.builtin "getset_descriptor.__get__") [.builtin "object.__class__", .ref e, .ref C]) >>= ret) _ _ _
  exact wpAny_bind (wpAny_holding (wpAny_call (class_get X I U.mo (wpAny_pure hq))))
theorem xclass {Q : Option Value → Shared → Prop} (U : XAsk K C) (X : K.In s.heap) (I : InstAt s.heap e oe C none) (h : Q (some (.ref C)) { s with toks := s.toks + 1 }) : wpAny (model prog w) A (getAttr? (.ref e) "__class__") Q E s := by
  obtain ⟨hh, g, d, t, os⟩ := s
  have L0 := I.type (M := model prog w)
  have L1 := looks_findIn (M := model prog w) X U.ga
  have L2 := looks_findIn (M := model prog w) X U.gt
  have L3 := looks_find (M := model prog w) X I (findX U.cs U.ca U.gg U.tk)
  unfold getAttr? getAttrBy? getAttrBy
  refine wpAny_bind (wpAny_mkText (wpAny_bind (wpAny_attempt (wpAny_holding (wpAny_bind (L0.at (wpAny_bind (L1.at ?_))))))))
  show wpAny _ _ (getAttrByItsOwn (.ref e) _ (.ref C) (.builtin "BaseException.__getattribute__") false false) _ _ _
  unfold getAttrByItsOwn
  refine wpAny_bind ?_
  show wpAny _ _ (typeLookup (.ref C) "__getattr__") _ _ _
  refine L2.at ?_
  refine wpAny_bind (wpAny_attempt (wpAny_holding ?_))
  show wpAny _ _ (boundAndCalled (.builtin "BaseException.__getattribute__") (.ref e) _) _ _ _
  unfold boundAndCalled
  refine wpAny_bind (wpAny_of_eq (F.attr_ValueError.ga.bind (.ref e)) ?_)
  refine wpAny_call (codeAny_call_builtin F.attr_ValueError.ga.plain F.entry_bexc_ga (xcheck U X I (xentry U X I ?_)))
  exact wpAny_pure (wpAny_pure h)
theorem kitx_exc (U : XAsk K C) : KitX K (.ref e) (.ref C) (fun h => ∃ oe, InstAt h e oe C none) where
  ty := fun M h _ ⟨_, I⟩ => I.type
  it := fun _ _ X _ => by
    obtain ⟨cd, hc⟩ := Option.isSome_iff_exists.mp U.cs
    unfold clsIn at hc
    split at hc
    · rename_i c' d' cd' sl' ho
      intro A' Q' E' s' k q
      unfold isType loadHead
      exact wpAny_bind (wpAny_loadPart (k _ _ (X _ _ ho)) (wpAny_pure q))
    · cases hc
  ne := fun h tp dd its n sl X htp => by
    obtain ⟨cd, hc⟩ := Option.isSome_iff_exists.mp U.cs
    refine Bool.eq_false_iff.mpr fun q => ?_
    have z : C = tp := Value.ref.inj (beq_iff_eq.mp q)
    subst z
    unfold clsIn at hc
    split at hc
    · rename_i c' d' cd' sl' ho
      have z := (X _ _ ho).symm.trans htp
      cases z
    · cases hc
  ca := fun X ⟨_, I⟩ k => xclass U X I k
end
theorem exO_inst {P : Program} {w : World} {H : Hp} {h : Heap} {e C : Addr} (ok : HOk P w H h) (q : H e = some (exO (.ref C) none e)) : ∃ oe, InstAt h e oe C none := by
  obtain ⟨⟨oe, vs, he, hC, hdd, hd⟩, _⟩ := ok e _ q
  refine ⟨oe, he, hC, ?_, ?_⟩
  · obtain ⟨a, b, c, d⟩ := oe
    have hd' : c = .fields vs := hd
    subst hd'
    rfl
  · rw [hdd]
    trivial
section
variable {X : Cx}
def rIsiX (K : Frag) : List V → Hp → VK → Prop := fun xs H Q => ∃ e c cv C b, xs = [.ref e, c] ∧ ClsV c cv ∧ H e = some (exO (.ref C) none e) ∧ XAsk K C ∧ kitOne K (.ref C) cv = some b ∧ Q (.bl b) H
theorem call_isiX : CallR X (.builtin "isinstance") (rIsiX X.K) := by
  unfold CallR at *
  exact by
    intro pins s σ H xs us Q I rv h
    obtain ⟨e, c, cv, C, b, rfl, hc, he, U, k, q⟩ := h
    obtain ⟨u, cu, rfl, ru, rc⟩ := rv.two
    have ec : cu = cv := by cases hc <;> exact rc
    subst ec
    cases (show u = Value.ref e from ru)
    exact kia_one (kitx_exc U) I.kIn (exO_inst I.hok he) k (fun z => nomatch z) fun tk => ⟨.bl b, H, I.tok tk, rfl, q⟩

def rIsiA (K : Frag) : List V → Hp → VK → Prop := fun xs H Q => rIsi K xs H Q ∨ rIsiX K xs H Q
theorem call_isiA : CallR X (.builtin "isinstance") (rIsiA X.K) := by
  first
  | exact (call_isi.or call_isiX)
  | (unfold CallR at *; exact (call_isi.or call_isiX))

end
end L2

namespace L2
open PySem PySem.Spec PyProof.Rows

/-! ### names of Python's own; small facts -/
theorem bt_len : bootBuiltins "len" = some (.builtin "len") := by decide +kernel
theorem bt_isinstance : bootBuiltins "isinstance" = some (.builtin "isinstance") := by decide +kernel
theorem bt_int : bootBuiltins "int" = some (.type "int") := by decide +kernel
theorem bt_bool : bootBuiltins "bool" = some (.type "bool") := by decide +kernel
theorem bt_str : bootBuiltins "str" = some (.type "str") := by decide +kernel
theorem bt_list : bootBuiltins "list" = some (.type "list") := by decide +kernel
theorem bt_ValueError : bootBuiltins "ValueError" = some (.type "ValueError") := by decide +kernel
theorem bt_all : bootBuiltins "all" = some (.builtin "all") := by decide +kernel
theorem bt_min : bootBuiltins "min" = some (.builtin "min") := by decide +kernel
theorem rel_int {n : Int} {t : Tok} : RelV (.int n) (.int n t) := ⟨_, rfl⟩
theorem rel_str {n : Str} {t : Tok} : RelV (.str n) (.str n t) := ⟨_, rfl⟩
theorem Same.new {H : Hp} {p : Addr} {o : HO} (h : H p = none) : Same H (upd H p o) := fun b u q => by
  rw [upd_ne (ne_of_none q h)]
  exact q
theorem atI_in {α : Type} {xs : List α} {i : Int} (h0 : 0 ≤ i) (h1 : i < xs.length) : ∃ v, atI xs i = some v ∧ v ∈ xs := by
  have e : ((i.toNat : Nat) : Int) = i := Int.toNat_of_nonneg h0
  have hl : i.toNat < xs.length := by omega
  refine ⟨xs[i.toNat], ?_, List.getElem_mem hl⟩
  have q := atI_nat (xs := xs) (List.getElem?_eq_getElem hl)
  rw [e] at q
  exact q
theorem atI_toNat {α : Type} {xs : List α} {i : Int} {v : α} (h0 : 0 ≤ i) (h : xs[i.toNat]? = some v) : atI xs i = some v := by
  have q := atI_nat (xs := xs) h
  rw [Int.toNat_of_nonneg h0] at q
  exact q
theorem TyOf.same {K : PySem.W.Frag} {H H' : Hp} {x : V} {t : Value} (e : Same H H') (h : TyOf K H x t) : TyOf K H' x t := by
  cases h with
  | non => exact .non
  | bl b => exact .bl b
  | int i => exact .int i
  | str x => exact .str x
  | flt x => exact .flt x
  | lst q => exact .lst (e _ _ q)
  | frz q => exact .frz (e _ _ q)
  | tup q => exact .tup (e _ _ q)
  | dK q => exact .dK (e _ _ q)
  | dT q => exact .dT (e _ _ q)
  | ins q a b c d f => exact .ins (e _ _ q) a b c d f
/-- a thing of one of Python's own kinds -/
def Own (K : PySem.W.Frag) (H : Hp) (x : V) : Prop := ∃ n, TyOf K H x (.type n)
theorem Own.same {K : PySem.W.Frag} {H H' : Hp} {x : V} (e : Same H H') (h : Own K H x) : Own K H' x := let ⟨n, t⟩ := h; ⟨n, t.same e⟩
theorem Own.non {K : PySem.W.Frag} {H : Hp} : Own K H .non := ⟨_, .non⟩
theorem Own.bl {K : PySem.W.Frag} {H : Hp} {b : Bool} : Own K H (.bl b) := ⟨_, .bl b⟩
theorem Own.int {K : PySem.W.Frag} {H : Hp} {i : Int} : Own K H (.int i) := ⟨_, .int i⟩
theorem Own.str {K : PySem.W.Frag} {H : Hp} {x : Str} : Own K H (.str x) := ⟨_, .str x⟩
theorem Own.lst {K : PySem.W.Frag} {H : Hp} {a : Addr} {xs : List V} (h : H a = some (.lst xs)) : Own K H (.ref a) := ⟨_, .lst h⟩
theorem Own.tup {K : PySem.W.Frag} {H : Hp} {a : Addr} {xs : List V} (h : H a = some (.tup xs)) : Own K H (.ref a) := ⟨_, .tup h⟩
theorem Own.dK {K : PySem.W.Frag} {H : Hp} {a : Addr} {xs : List (Key × V)} (h : H a = some (.dK xs)) : Own K H (.ref a) := ⟨_, .dK h⟩
/-- isinstance(x, int), (x, bool), (x, str) .. of such things -/
def isInt : V → Bool
  | .int _ => true
  | .bl _ => true
  | _ => false
def isBool : V → Bool
  | .bl _ => true
  | _ => false
def isStr : V → Bool
  | .str _ => true
  | _ => false
theorem kit_int {K : PySem.W.Frag} {H : Hp} {x : V} {n : String} (ty : TyOf K H x (.type n)) : PySem.W.kitOne K (.type n) (.type "int") = some (isInt x) := by
  cases ty <;> rfl
theorem kit_bool {K : PySem.W.Frag} {H : Hp} {x : V} {n : String} (ty : TyOf K H x (.type n)) : PySem.W.kitOne K (.type n) (.type "bool") = some (isBool x) := by
  cases ty <;> rfl
theorem kit_str {K : PySem.W.Frag} {H : Hp} {x : V} {n : String} (ty : TyOf K H x (.type n)) : PySem.W.kitOne K (.type n) (.type "str") = some (isStr x) := by
  cases ty <;> rfl
theorem rIsiA.own {K : PySem.W.Frag} {H : Hp} {x : V} {c : String} {Q : VK} {b : Bool} (h : Own K H x) (k : ∀ n, TyOf K H x (.type n) → PySem.W.kitOne K (.type n) (.type c) = some b) (q : Q (.bl b) H) : rIsiA K [x, .ty c] H Q := by
  obtain ⟨n, t⟩ := h
  exact .inl ⟨x, .ty c, _, _, _, rfl, .ty c, t, k n t, q⟩
theorem rIsiA.int {K : PySem.W.Frag} {H : Hp} {x : V} {Q : VK} (h : Own K H x) (q : Q (.bl (isInt x)) H) : rIsiA K [x, .ty "int"] H Q := rIsiA.own h (fun _ => kit_int) q
theorem rIsiA.bool {K : PySem.W.Frag} {H : Hp} {x : V} {Q : VK} (h : Own K H x) (q : Q (.bl (isBool x)) H) : rIsiA K [x, .ty "bool"] H Q := rIsiA.own h (fun _ => kit_bool) q
theorem rIsiA.str {K : PySem.W.Frag} {H : Hp} {x : V} {Q : VK} (h : Own K H x) (q : Q (.bl (isStr x)) H) : rIsiA K [x, .ty "str"] H Q := rIsiA.own h (fun _ => kit_str) q
theorem iteB {b : Bool} {A B : Prop} (h1 : b = true → A) (h2 : b = false → B) : if b = true then A else B := by
  cases b
  · exact iteF (h2 rfl)
  · exact iteT (h1 rfl)
theorem le_ble {a b : Nat} (h : Nat.ble a b = true) : a ≤ b := Nat.le_of_ble_eq_true h
end L2

namespace L2
open PySem PySem.Spec PyProof.Rows

/-! ### more iterators: a text's signs, enumerate of a list; comprehensions without a word on monotony; all, any -/
section
variable {X : Cx} {pins : List (Addr × Obj)} {σ : St} {H H' : Hp} {s : Shared} {h' : Heap}
/-- untracked records of ours have turned -/
theorem Inv.turns {t' : Nat} {wr : List Addr} (I : Inv X pins σ H s) (k : ∀ b o, b ∉ wr → s.heap.get? b = some o → h'.get? b = some o) (hw : ∀ b ∈ wr, FpOk X pins H b) : Inv X pins σ H { s with heap := h', toks := t' } := by
  have nit : ∀ b u, H b = some u → b ∉ wr := fun b u e z => by rw [(hw b z).1] at e; cases e
  refine I.step (g' := s.gens) (d' := s.drawn) (ch := wr) (fun b hb => ?_) (fun b o _ _ hc e _ => k b o hc e) (fun b o _ _ hc e _ => ⟨o.slots, k b o hc e⟩) (fun _ _ _ _ n => n)
    (fun b o hc e => ⟨o, k b o hc e⟩) (fun _ _ e => e) (fun _ _ _ e => e) (fun b ps e => ⟨#[], by rw [e]; simp⟩) (fun m hm => ?_) (fun b u e => ?_) I.bare
  · obtain ⟨_, f1, _, f3, f4, f5⟩ := hw b hb
    exact ⟨f3, f1, f4, f5⟩
  · obtain ⟨o, es, ep, ho, r⟩ := hm
    exact ⟨o, es, ep, k _ o (fun z => (hw _ z).2.1 rfl) ho, r⟩
  · refine (I.hok b u e).stay (fun c v hc q => k c v ?_ q) (fun _ q => q) fun _ _ q => q
    rcases hc with z | z
    · rw [z]; exact nit b u e
    · exact nit c _ z
end

/-- the signs of a text -/
def Its (x : Str) : It := ⟨fun i _ => i < x.cps.size, fun i H v H' => H' = H ∧ ∃ c, x.cps[i]? = some c ∧ v = .str ⟨#[c]⟩, fun i _ => i = x.cps.size⟩
theorem turn_str {P : Program} {w : World} {K : PySem.W.Frag} {tg : Expr} (x : Str) (t : Tok) (it : Addr) (kind : String) (hk : kind = "str_ascii_iterator" ∨ kind = "str_iterator") :
    Turn P w K tg (Its x) [it] it (fun i h => h.IsStrIter it kind x t i) where
  mem := by simp
  obj := fun i h st b hb => by
    have e : b = it := by simpa using hb
    subst e
    obtain ⟨o, e, c, d⟩ := st
    exact ⟨o, e, fun v z => by rw [d] at z; cases z⟩
  keep := fun i h h' st k => by
    obtain ⟨o, e, r⟩ := st
    exact ⟨o, k it (by simp) o e, r⟩
  item := by
    intro X hP hw hK hc i pins s σ H E I hf st hg
    subst hP hw hK
    have W : Walks X.prog X.w X.A it [it] [it] x.cps.size (SignAt x) (fun i h => h.IsStrIter it kind x t i) := by
      rcases hk with rfl | rfl
      · exact Walks.strAscii (I.ok.hd hc) it x t
      · exact Walks.strWide (I.ok.hd hc) it x t
    refine W.item i s _ _ hg st fun v h' tk hv st' hk' => ?_
    obtain ⟨c, u, hc', rfl⟩ := hv
    have I1 : Inv X pins σ H { s with heap := h', toks := tk } := I.turns (t' := tk) hk' hf
    obtain ⟨o, e, hcl, d⟩ := id st'
    refine ⟨_, rfl, go_of (s := { s with heap := h', toks := tk }) e hcl d ?_ ⟨.str ⟨#[c]⟩, H, I1, ⟨u, rfl⟩, ⟨rfl, c, hc', rfl⟩, st', fun b hb => (hf b hb).1⟩⟩
    rcases hk with rfl | rfl <;> decide
  done := by
    intro X hP hw hK hc i pins s σ H E I hf st hg
    subst hP hw hK
    have W : Walks X.prog X.w X.A it [it] [it] x.cps.size (SignAt x) (fun i h => h.IsStrIter it kind x t i) := by
      rcases hk with rfl | rfl
      · exact Walks.strAscii (I.ok.hd hc) it x t
      · exact Walks.strWide (I.ok.hd hc) it x t
    have e : i = x.cps.size := hg
    subst e
    exact W.done s _ _ st fun h' tk hk' => ⟨rfl, I.turns (t' := tk) hk' hf⟩
  self := fun A i s Q E st h => by
    rcases hk with rfl | rfl
    · exact wpAny_pyIter_striter_ascii st h
    · exact wpAny_pyIter_striter_wide st h
def iStr (tl : TE) : TI := fun σ H R => tl σ H fun x H1 => ∃ z, x = .str z ∧ R (Its z) H1
theorem pi_str {X : Cx} {tg l : Expr} {tl : TE} (hl : PE X l tl) : PI X tg l (iStr tl) := by
  unfold PE at *; unfold PI at *
  exact by
    intro pins s σ H R I h
    refine thn (hl pins s σ H _ I h) fun v s1 ⟨x, H1, I1, r1, q1⟩ => ?_
    obtain ⟨z, rfl, q⟩ := q1
    obtain ⟨t, rfl⟩ := r1
    refine wpAny_pyIter_strU ?_
    refine ⟨s1.heap.objs.size, [s1.heap.objs.size], _, _, H1, rfl, I1.kept (t' := s1.toks) fun b o e => Heap.get?_push_of_some _ e, turn_str z t _ (strIterType z) (by unfold strIterType; split <;> simp), ⟨_, Heap.get?_push_size _ rfl, rfl, rfl⟩, fun b hb => ?_, q⟩
    have e : b = s1.heap.objs.size := by simpa using hb
    subst e
    exact I1.fpOk (Nat.le_refl _) (I1.hok.fresh (Nat.le_refl _))

/-- the next turn, n - i turns ahead of the end -/
def Nx (n i : Nat) (P : Prop) : Prop := ∃ m', m' < n - i ∧ m' = n - (i + 1) ∧ i + 1 ≤ n ∧ P
theorem Nx.mk {n i : Nat} {P : Prop} (hi : i < n) (p : P) : Nx n i P := ⟨n - (i + 1), by omega, rfl, hi, p⟩
/-- a comprehension's loop of n turns -/
theorem loop_by {J : It} {l : Addr} {g : TG} {tc : TT} {te : TE} {σ : St} {H : Hp} {Q : VK} (n : Nat) (Pv : Nat → St → List V → Hp → Prop) (hsz : n ≤ sizeLine) (h0 : Pv 0 σ [] H)
    (hl : ∀ i σ acc H, i ≤ n → Pv i σ acc H → H l = some (.lst acc) ∧ acc.length ≤ i)
    (hgo : ∀ i σ acc H, i < n → Pv i σ acc H → J.go i H)
    (hs : ∀ i x σ acc H H', i < n → Pv i σ acc H → J.yld i H x H' → g x σ H' fun σ2 H2 => tc σ2 H2 fun b H3 => if b = true then
      te σ2 H3 fun v H4 => H4 l = some (.lst acc) ∧ Nx n i (Pv (i + 1) σ2 (acc ++ [v]) (upd H4 l (.lst (acc ++ [v])))) else Nx n i (Pv (i + 1) σ2 acc H3))
    (hd : ∀ σ acc H, Pv n σ acc H → J.stop n H ∧ Q (.ref l) H) : tLoop J l g tc te σ H Q := by
  refine ⟨fun i m σ acc H => m = n - i ∧ i ≤ n ∧ Pv i σ acc H, ⟨n, by simp, Nat.zero_le _, h0⟩, ?_⟩
  rintro i m σ acc H ⟨rfl, hi, p⟩
  obtain ⟨q1, q2⟩ := hl i σ acc H hi p
  refine ⟨q1, ?_⟩
  by_cases hlt : i < n
  · exact .inr ⟨hgo i σ acc H hlt p, by omega, fun x H' y => hs i x σ acc H H' hlt p y⟩
  · have e : i = n := by omega
    subst e
    exact .inl (hd σ acc H p)
/-- all(..), any(..) of a list of truths -/
theorem boolsAre_of : ∀ {bs : List Bool} {us : List Value}, Vals (bs.map V.bl) us → LSm.BoolsAre us bs
  | [], _, .nil => .nil
  | b :: r, _, .cons h t => by
    cases h
    exact .cons b (boolsAre_of t)
theorem kept_it {s : Shared} {h' : Heap} {o : Obj} (hk : ∀ b x, b ∉ [s.heap.objs.size] → (s.heap.push o).get? b = some x → h'.get? b = some x) : ∀ b x, s.heap.get? b = some x → h'.get? b = some x :=
  fun b x e => hk b x (fun hm => by rw [List.mem_singleton.mp hm] at e; exact Nat.lt_irrefl _ (Heap.lt_size e)) (Heap.get?_push_of_some _ e)
theorem call_all {X : Cx} (hc : X.calm = true) : CallR X (.builtin "all") (fun xs H Q => ∃ (a : Addr) (bs : List Bool), xs = [.ref a] ∧ SqL X.K H a (bs.map V.bl) ∧ Q (.bl (bs.all id)) H) := by
  unfold CallR at *
  exact by
    intro pins s σ H xs us Q I r h
    obtain ⟨a, bs, rfl, hq, q⟩ := h
    obtain ⟨u, rfl, ru⟩ := vals1 r
    cases ru
    obtain ⟨its, rv, pl, hz⟩ := I.list hq
    have hb := boolsAre_of rv
    have hl := pl.isList
    have hlt : a < s.heap.objs.size := by obtain ⟨_, e, _⟩ := hl; exact Heap.lt_size e
    refine call_all_walk (wpAny_pyIter_list hl ?_)
    refine ⟨s.heap.objs.size, [s.heap.objs.size, a], [s.heap.objs.size], its.toArray.size, _, _, fun i => (bs[i]?).getD true, rfl, Walks.list (A := X.A.in1) (I.ok.hd hc) _ a (Nat.ne_of_lt hlt) its.toArray,
      ⟨⟨_, Heap.get?_push_size _ rfl, rfl, rfl⟩, hl.push _⟩, fun i v s' Q' E' hP hQ => ?_, fun h' tk hk => ?_⟩
    · obtain ⟨b, e, rfl⟩ := hb.get i v (by simpa using hP)
      simp only [e, Option.getD_some] at hQ
      exact wpAny_truthy_bool hQ
    · have e : ((List.range its.toArray.size).all fun i => (bs[i]?).getD true) = bs.all id := by
        rw [List.size_toArray, hb.length]; exact LSm.range_all bs
      rw [e]
      exact ⟨.bl (bs.all id), H, I.kept (t' := tk) (kept_it hk), rfl, q⟩

end L2

namespace L2
open PySem PySem.Spec PyProof.Rows

/-! ### texts: <=, slices -/
section
variable {X : Cx}
theorem op_le_str : OpR X (compareOp .LtE) (fun x y H Q => ∃ i j, x = .str i ∧ y = .str j ∧ Q (.bl (!decide (j.cps.toList < i.cps.toList))) H) := by
  unfold OpR at *
  exact by
    intro pins s σ H x y v u Q I rx ry h
    obtain ⟨i, j, rfl, rfl, q⟩ := h
    obtain ⟨t, rfl⟩ := rx
    obtain ⟨t', rfl⟩ := ry
    exact PySem.P.le_str (fin_bl I q (by simp))

end

/-! ### == of things that hold things: lists and tuples, by depth -/
/-- by lists and tuples whose items answer by R -/
inductive SeqEq (K : PySem.W.Frag) (H : Hp) (R : V → V → Bool → Prop) : V → V → Bool → Prop where
  | list {a b : Addr} {xs ys : List V} {e : Nat → Bool} (ha : SqL K H a xs) (hb : SqL K H b ys) (hl : xs.length = ys.length) (he : ∀ i x y, xs[i]? = some x → ys[i]? = some y → R x y (e i)) : SeqEq K H R (.ref a) (.ref b) ((List.range xs.length).all e)
  | listN {a b : Addr} {xs ys : List V} (ha : SqL K H a xs) (hb : SqL K H b ys) (hl : xs.length ≠ ys.length) : SeqEq K H R (.ref a) (.ref b) false
  | tup {a b : Addr} {xs ys : List V} {e : Nat → Bool} (ha : SqT K H a xs) (hb : SqT K H b ys) (he : ∀ i x y, xs[i]? = some x → ys[i]? = some y → R x y (e i)) : SeqEq K H R (.ref a) (.ref b) ((List.range (min xs.length ys.length)).all e && xs.length == ys.length)
/-- an item's answer: flat things, one object twice, lists and tuples within -/
def EqD (K : PySem.W.Frag) (H : Hp) : Nat → V → V → Bool → Prop
  | 0, x, y, b => (flatV x = true ∧ flatV y = true ∧ b = eqV x y) ∨ ∃ a, x = .ref a ∧ y = .ref a ∧ b = true
  | n + 1, x, y, b => ((flatV x = true ∧ flatV y = true ∧ b = eqV x y) ∨ ∃ a, x = .ref a ∧ y = .ref a ∧ b = true) ∨ SeqEq K H (EqD K H n) x y b
theorem eqV_self {x : V} (h : flatV x = true) : eqV x x = true := by
  cases x <;> simp_all [flatV, eqV]
section
variable {X : Cx} {pins : List (Addr × Obj)} {σ : St} {H : Hp} {s : Shared}
theorem all_range {n : Nat} {e : Nat → Bool} (h : ∀ i, i < n → e i = true) : (List.range n).all e = true := by
  rw [List.all_eq_true]
  exact fun i hi => h i (List.mem_range.mp hi)
theorem EqD.self (I : Inv X pins σ H s) : ∀ {n : Nat} {x : V} {b : Bool}, EqD X.K H n x x b → b = true := by
  intro n
  induction n with
  | zero =>
    intro x b h
    rcases h with ⟨h1, _, h2⟩ | ⟨_, _, _, h⟩
    · rw [h2]; exact eqV_self h1
    · exact h
  | succ n ih =>
    intro x b h
    rcases h with (⟨h1, _, h2⟩ | ⟨_, _, _, h⟩) | h
    · rw [h2]; exact eqV_self h1
    · exact h
    · cases h with
      | @list a _ xs ys e ha hb hl he =>
        have q := I.list_inj ha hb
        subst q
        exact all_range fun i hi => ih (he i xs[i] xs[i] (by simp [hi]) (by simp [hi]))
      | listN ha hb hl => exact absurd (congrArg List.length (I.list_inj ha hb)) hl
      | @tup a _ xs ys e ha hb he =>
        have q := I.tuple_inj ha hb
        subst q
        rw [Nat.min_self, all_range fun i hi => ih (he i xs[i] xs[i] (by simp [hi]) (by simp [hi]))]
        simp
theorem SeqEq.rc {A : Around} {R : V → V → Bool → Prop} {x y : V} {b : Bool} {u v : Value} (I : Inv X pins σ H s) (h : SeqEq X.K H R x y b) (rx : RelV x u) (ry : RelV y v) (hu : A.units < cLine)
    (hR : ∀ x y b u v, R x y b → RelV x u → RelV y v → SeqAt.EqAt A.in1 s u v b) : SeqAt.RcAt A s u v b := by
  cases h with
  | @list a c xs ys e ha hb hl he =>
    cases rx; cases ry
    obtain ⟨its, r1, p1, z1⟩ := I.list ha
    obtain ⟨jts, r2, p2, z2⟩ := I.list hb
    have l1 := r1.length
    have l2 := r2.length
    have q := SeqAt.RcAt.lists (A := A) (s := s) (e := e) p1.isList p2.isList (by simp only [List.size_toArray]; omega) hu fun j h1 h2 => ?_
    · rw [List.size_toArray, ← l1] at q
      exact q
    · simp only [List.size_toArray] at h1 h2
      have g1 : xs[j]? = some xs[j] := by simp
      have g2 : ys[j]? = some ys[j] := by simp
      obtain ⟨w1, k1, rr1⟩ := r1.get g1
      obtain ⟨w2, k2, rr2⟩ := r2.get g2
      have e1 : its.toArray[j] = w1 := by
        have := List.getElem?_eq_some_iff.mp k1
        obtain ⟨_, this⟩ := this
        simpa using this
      have e2 : jts.toArray[j] = w2 := by
        have := List.getElem?_eq_some_iff.mp k2
        obtain ⟨_, this⟩ := this
        simpa using this
      rw [e1, e2]
      exact hR _ _ _ _ _ (he j _ _ g1 g2) rr1 rr2
  | @listN a c xs ys ha hb hl =>
    cases rx; cases ry
    obtain ⟨its, r1, p1, z1⟩ := I.list ha
    obtain ⟨jts, r2, p2, z2⟩ := I.list hb
    have l1 := r1.length
    have l2 := r2.length
    exact SeqAt.RcAt.lists_lengths p1.isList p2.isList (by simp only [List.size_toArray, bne_iff_ne]; omega) hu
  | @tup a c xs ys e ha hb he =>
    cases rx; cases ry
    obtain ⟨its, r1, p1, z1⟩ := I.tuple ha
    obtain ⟨jts, r2, p2, z2⟩ := I.tuple hb
    have l1 := r1.length
    have l2 := r2.length
    have q := SeqAt.RcAt.tuples (A := A) (s := s) (e := e) p1 p2 hu fun j h1 h2 => ?_
    · rw [List.size_toArray, List.size_toArray, ← l1, ← l2] at q
      exact q
    · simp only [List.size_toArray] at h1 h2
      have g1 : xs[j]? = some xs[j] := by simp
      have g2 : ys[j]? = some ys[j] := by simp
      obtain ⟨w1, k1, rr1⟩ := r1.get g1
      obtain ⟨w2, k2, rr2⟩ := r2.get g2
      have e1 : its.toArray[j] = w1 := by
        have := List.getElem?_eq_some_iff.mp k1
        obtain ⟨_, this⟩ := this
        simpa using this
      have e2 : jts.toArray[j] = w2 := by
        have := List.getElem?_eq_some_iff.mp k2
        obtain ⟨_, this⟩ := this
        simpa using this
      rw [e1, e2]
      exact hR _ _ _ _ _ (he j _ _ g1 g2) rr1 rr2
theorem SeqEq.rcNe {A : Around} {R : V → V → Bool → Prop} {x y : V} {b : Bool} {u v : Value} (I : Inv X pins σ H s) (h : SeqEq X.K H R x y b) (rx : RelV x u) (ry : RelV y v) (hu : A.units < cLine)
    (hR : ∀ x y b u v, R x y b → RelV x u → RelV y v → SeqAt.EqAt A.in1 s u v b) : SeqAt.RcNeAt A s u v (!b) := by
  cases h with
  | @list a c xs ys e ha hb hl he =>
    cases rx; cases ry
    obtain ⟨its, r1, p1, z1⟩ := I.list ha
    obtain ⟨jts, r2, p2, z2⟩ := I.list hb
    have l1 := r1.length
    have l2 := r2.length
    have q := SeqAt.RcNeAt.lists (A := A) (s := s) (e := e) p1.isList p2.isList (by simp only [List.size_toArray]; omega) hu fun j h1 h2 => ?_
    · rw [List.size_toArray, ← l1] at q
      exact q
    · simp only [List.size_toArray] at h1 h2
      have g1 : xs[j]? = some xs[j] := by simp
      have g2 : ys[j]? = some ys[j] := by simp
      obtain ⟨w1, k1, rr1⟩ := r1.get g1
      obtain ⟨w2, k2, rr2⟩ := r2.get g2
      have e1 : its.toArray[j] = w1 := by
        have := List.getElem?_eq_some_iff.mp k1
        obtain ⟨_, this⟩ := this
        simpa using this
      have e2 : jts.toArray[j] = w2 := by
        have := List.getElem?_eq_some_iff.mp k2
        obtain ⟨_, this⟩ := this
        simpa using this
      rw [e1, e2]
      exact hR _ _ _ _ _ (he j _ _ g1 g2) rr1 rr2
  | @listN a c xs ys ha hb hl =>
    cases rx; cases ry
    obtain ⟨its, r1, p1, z1⟩ := I.list ha
    obtain ⟨jts, r2, p2, z2⟩ := I.list hb
    have l1 := r1.length
    have l2 := r2.length
    exact SeqAt.RcNeAt.lists_lengths p1.isList p2.isList (by simp only [List.size_toArray, bne_iff_ne]; omega) hu
  | @tup a c xs ys e ha hb he =>
    cases rx; cases ry
    obtain ⟨its, r1, p1, z1⟩ := I.tuple ha
    obtain ⟨jts, r2, p2, z2⟩ := I.tuple hb
    have l1 := r1.length
    have l2 := r2.length
    have q := SeqAt.RcNeAt.tuples (A := A) (s := s) (e := e) p1 p2 hu fun j h1 h2 => ?_
    · rw [List.size_toArray, List.size_toArray, ← l1, ← l2] at q
      exact q
    · simp only [List.size_toArray] at h1 h2
      have g1 : xs[j]? = some xs[j] := by simp
      have g2 : ys[j]? = some ys[j] := by simp
      obtain ⟨w1, k1, rr1⟩ := r1.get g1
      obtain ⟨w2, k2, rr2⟩ := r2.get g2
      have e1 : its.toArray[j] = w1 := by
        have := List.getElem?_eq_some_iff.mp k1
        obtain ⟨_, this⟩ := this
        simpa using this
      have e2 : jts.toArray[j] = w2 := by
        have := List.getElem?_eq_some_iff.mp k2
        obtain ⟨_, this⟩ := this
        simpa using this
      rw [e1, e2]
      exact hR _ _ _ _ _ (he j _ _ g1 g2) rr1 rr2
theorem EqD.at (I : Inv X pins σ H s) : ∀ (n : Nat) (A : Around) (x y : V) (b : Bool) (u v : Value), A.units + n < cLine → EqD X.K H n x y b → RelV x u → RelV y v → SeqAt.EqAt A s u v b := by
  intro n
  induction n with
  | zero =>
    intro A x y b u v hu h rx ry
    rcases h with ⟨h1, h2, rfl⟩ | ⟨a, rfl, rfl, rfl⟩
    · exact eqAt_V rx ry h1 h2
    · cases rx; cases ry
      exact SeqAt.EqAt.same _
  | succ n ih =>
    intro A x y b u v hu h rx ry
    rcases h with (⟨h1, h2, rfl⟩ | ⟨a, rfl, rfl, rfl⟩) | h
    · exact eqAt_V rx ry h1 h2
    · cases rx; cases ry
      exact SeqAt.EqAt.same _
    · have rc := SeqEq.rc (A := A) I h rx ry (by omega) fun x y b u v hd r1 r2 => ih A.in1 x y b u v (by show A.units + 1 + n < cLine; omega) hd r1 r2
      have refs : ∃ a c, x = .ref a ∧ y = .ref c := by cases h <;> exact ⟨_, _, rfl, rfl⟩
      obtain ⟨a, c, rfl, rfl⟩ := refs
      cases rx; cases ry
      by_cases hac : a = c
      · subst hac
        have hb : b = true := EqD.self (n := n + 1) I (.inr h)
        subst hb
        exact SeqAt.EqAt.same _
      · exact SeqAt.EqAt.of_refs hac rc
def rEqD (K : PySem.W.Frag) (neg : Bool) : R2 := fun x y H Q => ∃ n b, n ≤ 60 ∧ SeqEq K H (EqD K H n) x y b ∧ Q (.bl (if neg then !b else b)) H
theorem op_eqD (hu : X.A.units + 62 < cLine) : OpR X (compareOp .Eq) (rEqD X.K false) := by
  unfold OpR at *
  exact by
    intro pins s σ H x y v u Q I rx ry h
    obtain ⟨n, b, hn, he, q⟩ := h
    exact SeqEq.rc (A := X.A) I he rx ry (by omega) (fun x y b u v hd r1 r2 => EqD.at I n X.A.in1 x y b u v (by show X.A.units + 1 + n < cLine; omega) hd r1 r2) X.prog X.w _ _ (fin_bl I q rfl)

theorem op_neD (hu : X.A.units + 62 < cLine) : OpR X (compareOp .NotEq) (rEqD X.K true) := by
  unfold OpR at *
  exact by
    intro pins s σ H x y v u Q I rx ry h
    obtain ⟨n, b, hn, he, q⟩ := h
    exact SeqEq.rcNe (A := X.A) I he rx ry (by omega) (fun x y b u v hd r1 r2 => EqD.at I n X.A.in1 x y b u v (by show X.A.units + 1 + n < cLine; omega) hd r1 r2) X.prog X.w _ _ (fin_bl I q rfl)

/-- two lists, two tuples of flat things -/
def eqL : List V → List V → Bool
  | [], [] => true
  | x :: xs, y :: ys => eqV x y && eqL xs ys
  | _, _ => false
end
theorem eqL_range : ∀ {xs ys : List V}, xs.length = ys.length → (List.range xs.length).all (fun i => eqV (xs.getD i .non) (ys.getD i .non)) = eqL xs ys
  | [], [], _ => rfl
  | x :: xs, y :: ys, h => by
    have h' : xs.length = ys.length := by simpa using h
    rw [List.length_cons, List.range_succ_eq_map, List.all_cons, List.all_map, eqL, ← eqL_range h']
    rfl
  | [], _ :: _, h => by simp at h
  | _ :: _, [], h => by simp at h
theorem eqL_len : ∀ {xs ys : List V}, xs.length ≠ ys.length → eqL xs ys = false
  | [], [], h => absurd rfl h
  | x :: xs, y :: ys, h => by
    rw [eqL, eqL_len (xs := xs) (ys := ys) (by simpa using h), Bool.and_false]
  | [], _ :: _, _ => rfl
  | _ :: _, [], _ => rfl
theorem SeqEq.flatL {K : PySem.W.Frag} {H : Hp} {n : Nat} {a b : Addr} {xs ys : List V} (ha : SqL K H a xs) (hb : SqL K H b ys) (fx : xs.all flatV = true) (fy : ys.all flatV = true) : SeqEq K H (EqD K H n) (.ref a) (.ref b) (eqL xs ys) := by
  by_cases hl : xs.length = ys.length
  · rw [← eqL_range hl]
    refine .list ha hb hl fun i x y hx hy => ?_
    have q : (flatV x = true ∧ flatV y = true ∧ eqV (xs.getD i .non) (ys.getD i .non) = eqV x y) := by
      refine ⟨List.all_eq_true.mp fx x (List.mem_of_getElem? hx), List.all_eq_true.mp fy y (List.mem_of_getElem? hy), ?_⟩
      rw [List.getD_eq_getElem?_getD, List.getD_eq_getElem?_getD, hx, hy]
      rfl
    cases n with
    | zero => exact .inl q
    | succ n => exact .inl (.inl q)
  · rw [eqL_len hl]
    exact .listN ha hb hl
end L2

namespace L2
open PySem PySem.Spec PyProof.Rows

/-! ### written tuples and dicts of the text's top -/
theorem sqT_of {K : PySem.W.Frag} {H : Hp} {a : Addr} {o : Obj} {xs : List V} {its : Array Value} {n : Nat} (hk : K.lookup a = some o) (hc : o.cls = .type "tuple") (ho : o.data = .seq its n) (hz : its.size ≤ sizeLine) (hv : Vals xs its.toList) : SqT K H a xs :=
  .inr ⟨o, its, n, hk, hc, ho, hz, hv⟩
def EntryIs (w : World) (p : Str × V) (e : DictEntry) : Prop := e.hash = PyData.keyHash w.params p.1 ∧ (∃ t, e.key = .str p.1 t) ∧ RelV p.2 e.val
/-- a dict of the top, by texts -/
structure KDict (w : World) (K : PySem.W.Frag) (a : Addr) (kvs : List (Str × V)) : Prop where
  ex : ∃ (es : List DictEntry) (ep : Nat), K.lookup a = some ⟨.type "dict", none, .dict es.toArray ep, #[]⟩ ∧ Paired (EntryIs w) kvs es
  nd : (kvs.map (·.1)).Nodup
theorem KDict.pairs {P : Program} {w : World} : ∀ {kvs : List (Str × V)} {es : List DictEntry}, Paired (EntryIs w) kvs es → ∃ vs : List (Key × Value), Pairs (mixKind P w) es vs ∧ KV (kvs.map fun p => ((Sum.inr p.1 : Key), p.2)) vs ∧ vs.map (·.1) = kvs.map fun p => (Sum.inr p.1 : Key)
  | _, _, .nil => ⟨[], .nil, .nil, rfl⟩
  | (x, v) :: r, e :: es, .cons ⟨h1, ⟨t, h2⟩, h3⟩ hr => by
    obtain ⟨vs, p1, p2, p3⟩ := KDict.pairs (P := P) hr
    refine ⟨((Sum.inr x : Key), e.val) :: vs, ?_, .cons ⟨rfl, h3⟩ p2, by rw [List.map_cons, p3]; rfl⟩
    refine .cons ?_ rfl p1
    show keyIs (.inr x) e.key = true
    rw [h2]
    exact keyIs_str x t
theorem KDict.keysOf {P : Program} {w : World} : ∀ {kvs : List (Str × V)} {es : List DictEntry}, Paired (EntryIs w) kvs es → ∀ e ∈ es, ∃ k, (mixKind P w).is k e.key = true ∧ e.hash = (mixKind P w).hash k
  | _, _, .nil, e, h => by simp at h
  | (x, v) :: r, e :: es, .cons ⟨h1, ⟨t, h2⟩, h3⟩ hr, e', h => by
    rcases List.mem_cons.mp h with q | q
    · subst q
      refine ⟨.inr x, ?_, h1⟩
      show keyIs (.inr x) e'.key = true
      rw [h2]
      exact keyIs_str x t
    · exact KDict.keysOf hr e' q
theorem KDict.dictOf {P : Program} {w : World} {K : PySem.W.Frag} {a : Addr} {kvs : List (Str × V)} {h : Heap} (D : KDict w K a kvs) (X : K.In h) : ∃ vs, KV (kvs.map fun p => ((Sum.inr p.1 : Key), p.2)) vs ∧ h.DictOf (mixKind P w) a vs := by
  obtain ⟨es, ep, hk, hp⟩ := D.ex
  obtain ⟨vs, p1, p2, p3⟩ := KDict.pairs (P := P) hp
  refine ⟨vs, p2, _, es.toArray, ep, X _ _ hk, ⟨rfl, rfl, rfl⟩, rfl, fun e he => KDict.keysOf hp e (by simpa using he), by simpa using p1, ?_⟩
  rw [p3]
  have nd := D.nd
  rw [List.nodup_iff_pairwise_ne, List.pairwise_map] at nd ⊢
  exact nd.imp fun h e => h (Sum.inr.inj e)
def rKGet (w : World) (K : PySem.W.Frag) : R2 := fun x y H Q => ∃ a kvs z v, x = .ref a ∧ y = .str z ∧ KDict w K a kvs ∧ kvs.lookup z = some v ∧ Q v H
theorem valV_str {kvs : List (Str × V)} {z : Str} : valV (kvs.map fun p => ((Sum.inr p.1 : Key), p.2)) (Sum.inr z) = kvs.lookup z := by
  unfold valV
  induction kvs with
  | nil => rfl
  | cons p r ih =>
    obtain ⟨k, v⟩ := p
    rw [List.map_cons, List.find?_cons, List.lookup_cons]
    by_cases e : k = z
    · subst e
      simp
    · have h1 : decide ((Sum.inr k : Key) = Sum.inr z) = false := by simpa using e
      have h2 : (z == k) = false := by simpa using fun q => e q.symm
      rw [h1, h2]
      exact ih
theorem ix_kdict {X : Cx} : IxR X (rKGet X.w X.K) := by
  unfold IxR at *
  exact by
    intro value slice pins s σ H x y v u Q I rx ry h hs
    obtain ⟨a, kvs, z, r, rfl, rfl, D, hl, q⟩ := h
    cases rx
    have ry' : RelV (kV (Sum.inr z)) u := ry
    obtain ⟨vs, rel, dd⟩ := D.dictOf (P := X.prog) I.kIn
    obtain ⟨w', hw, rw'⟩ := RelO.some_of (v := r) (o := valueAt vs (Sum.inr z)) (by
      have q := rel.val (Sum.inr z)
      rw [valV_str, hl] at q
      exact q)
    refine tail_any dd.mapOf.typeIs PySem.F.slot_dict_getitem.lookup ?_ hs
    exact wpAny_getItem_of (kV_is ry') dd.mapOf hw ⟨r, H, I.tok _, rw', q⟩

end L2

namespace L2
open PySem PySem.Spec PyProof.Rows

/-! ### exception classes of the text; a law whose defs raise -/
def strKeysB (es : Array DictEntry) : Bool := es.all fun e => match e.key with | .str _ _ => true | _ => false
theorem strKeys_of {es : Array DictEntry} (h : strKeysB es = true) : StrKeys es := by
  intro e he
  have q := Array.all_eq_true_iff_forall_mem.mp h e he
  split at q
  · rename_i n t hk
    exact ⟨n, t, hk⟩
  · cases q
/-- class C(B): pass, class B(ValueError): pass -/
theorem XCls.mk2 {K : PySem.W.Frag} {C N A : Addr} {nm q : Str} {bs : List Value} {hdct : Bool} {sn : List Str} {sub : List Value} {ab : Bool} {col : Option Bool} {dd : Option Addr} {k0 k1 k2 k3 k5 : Option Value} {es : Array DictEntry} {c d ep sl}
    {c0 : Value} {dd' : Option Addr} {cd : ClassData} {sl0 : Array (Option Value)} {es' : Array DictEntry} {c' d' ep' sl'}
    (l : K.lookup C = some (excClassObj nm q C N bs (.ref A :: vmro) hdct sn sub ab col dd k0 k1 k2 k3 k5 "ValueError.__new__")) (ln : K.lookup N = some ⟨c, d, .dict es ep, sl⟩) (sk : strKeysB es = true) (ni : nsFind es "__init__" = none)
    (la : K.lookup A = some { cls := c0, dict := dd', data := .cls cd, slots := sl0 }) (lna : K.lookup cd.ns = some ⟨c', d', .dict es' ep', sl'⟩) (ska : strKeysB es' = true) (nia : nsFind es' "__init__" = none) : XCls K C :=
  ⟨nm, q, N, bs, _, hdct, sn, sub, ab, col, dd, k0, k1, k2, k3, k5, es, l, ⟨c, d, ep, sl, ln, strKeys_of sk⟩, ni, .own la ⟨c', d', ep', sl', lna, strKeys_of ska⟩ nia .base⟩
theorem hu62 {A : Around} {k : Nat} (hr : Room k A) : A.units + 62 < cLine := by have := hr.un; omega
theorem cap_nil {X : Cx} {scope : Scope} {N' : List Str} {js : List (Option Nat)} (hl : js.length = N'.length) (h : js.all Option.isNone = true) : Cap X scope N' js :=
  ⟨hl, fun i j x h1 _ => by
    have q := List.all_eq_true.mp h _ (List.mem_of_getElem? h1)
    cases q⟩
theorem free_nil {X : Cx} {scope : Scope} (h : (scope.names.all fun y => match y.2 with | .free => false | _ => true) = true) : ∀ y ∈ scope.names, y.2 = .free → (X.env.kindOf y.1 = some .cell ∨ X.env.kindOf y.1 = some .free) := fun y hy e => by
  have q := List.all_eq_true.mp h y hy
  rw [e] at q
  cases q
theorem rIsiA.exc {K : PySem.W.Frag} {H : Hp} {e C c : Addr} {b : Bool} {Q : VK} (h : H e = some (exO (.ref C) none e)) (q : XAsk K C) (k : PySem.W.kitOne K (.ref C) (.ref c) = some b) (hQ : Q (.bl b) H) : rIsiA K [.ref e, .ref c] H Q :=
  .inr ⟨e, .ref c, .ref c, C, b, rfl, .own c, h, q, k, hQ⟩
theorem rIsiA.excT {K : PySem.W.Frag} {H : Hp} {e C : Addr} {c : String} {b : Bool} {Q : VK} (h : H e = some (exO (.ref C) none e)) (q : XAsk K C) (k : PySem.W.kitOne K (.ref C) (.type c) = some b) (hQ : Q (.bl b) H) : rIsiA K [.ref e, .ty c] H Q :=
  .inr ⟨e, .ty c, .type c, C, b, rfl, .ty c, h, q, k, hQ⟩
/-- what never flies may be handed on anywhere -/
theorem passE0 {P : Program} {w : World} {X : Cx} : PassesS (CXx P w) X (fun _ => E0) := by
  intro pins σ H s e s' I h
  obtain ⟨_, _, _, _, _, _, _, _, _, _, _, _, _, _, _, _, _, h⟩ := h
  exact h.elim
end L2

namespace L2
open PySem PySem.Spec PyProof.Rows

/-! ### defs with defaults; C(..) with keywords whose __init__ may raise -/
structure FunD (K : PySem.W.Frag) (x qual : Str) (st : Stmt) (dV : Value) (f : Addr) (fd : FuncData) : Prop where
  ex : ∃ (oc : Value) (od : Option Addr) (kV doc pm : Value) (an : Option Addr) (cdv ct : Value) (osl : Array (Option Value)),
    fd = PySem.W.fnOf x qual (defArgs st) (defBody st) (defScope st) dV kV doc pm an cdv ct ∧ K.lookup f = some ⟨oc, od, .func fd, osl⟩ ∧ PySem.W.codeIn K cdv qual = true
  kp : PySem.W.keepIn K (.ref f) = true
theorem FunD.okx {P : Program} {w : World} {K : PySem.W.Frag} {mg : Str → Option Value} {base : Heap} {x qual : Str} {st : Stmt} {dV : Value} {f : Addr} {fd : FuncData} {N ps : List Str} {k : Nat} {sp : Sp} (F : FunD K x qual st dV f fd) (S : FnScope N ps (defScope st)) (len : ∀ vs H Q E, sp vs H Q E → vs.length = ps.length)
    (hbody : ∀ (cdv : Value) (A : Around) (outer : List Env) (s : Shared) (H : Hp) (vs : List V) (Q : VK) (E : XK), Room k (A.deeper (envOfC qual (defScope st) s.heap.objs.size f cdv)) → sp vs H Q E →
      ∃ t, PSs (cxOf (CXx P w) P w K mg base N qual (defScope st) f cdv A outer s H E) (defBody st) t ∧ t { nx := fun _ H' => Q .non H', rt := Q } (start N vs) H) : FnOk P w K mg base (CXx P w) (k + 1) f fd ps sp := by
  obtain ⟨oc, od, kV, doc, pm, an, cdv, ct, osl, rfl, lk, hcd⟩ := F.ex
  exact fn_of lk hcd S len fun A outer s H vs Q E hr hsp => hbody cdv A outer s H vs Q E hr hsp
theorem funD_mk {K : PySem.W.Frag} {x qual : Str} {st : Stmt} {dV : Value} {f : Addr} {oc : Value} {od an : Option Addr} {osl : Array (Option Value)} {kV doc pm cdv ct : Value} (l : K.lookup f = some ⟨oc, od, .func (PySem.W.fnOf x qual (defArgs st) (defBody st) (defScope st) dV kV doc pm an cdv ct), osl⟩)
    (hc : PySem.W.codeIn K cdv qual = true) (kp : PySem.W.keepIn K (.ref f) = true) : FunD K x qual st dV f (PySem.W.fnOf x qual (defArgs st) (defBody st) (defScope st) dV kV doc pm an cdv ct) := ⟨⟨oc, od, kV, doc, pm, an, cdv, ct, osl, rfl, l, hc⟩, kp⟩
/-- how C(..) binds: na written arguments, the keywords ks; g puts the values in the parameters' order -/
structure MkBinds (K : PySem.W.Frag) (fd : FuncData) (ps ks : List Str) (na : Nat) (g : List Value → List Value → List Value) (gV : List V → List V → List V) : Prop where
  to : ∀ (s : Shared) (x : Value) (us ws : List Value), K.In s.heap → us.length = na → ws.length = ks.length → BindsTo s fd ⟨x :: us, ks.zip ws⟩ (ps.zip (x :: g us ws)) ∧ (x :: g us ws).length = ps.length
  rel : ∀ {vs : List V} {us : List Value} {zs : List V} {ws : List Value}, Vals vs us → Vals zs ws → Vals (gV vs zs) (g us ws)
theorem MkBinds.ofD {K : PySem.W.Frag} {x qual : Str} {st : Stmt} {T f : Addr} {fd : FuncData} {ps ks : List Str} {na : Nat} {g : List Value → List Value → List Value} {gV : List V → List V → List V} {o : Obj} {items : Array Value} {n : Nat}
    (F : FunD K x qual st (.ref T) f fd) (hT : K.lookup T = some o) (hs : o.data = .seq items n) (hrel : ∀ {vs : List V} {us : List Value} {zs : List V} {ws : List Value}, Vals vs us → Vals zs ws → Vals (gV vs zs) (g us ws))
    (h : ∀ (kV doc pm : Value) (an : Option Addr) (cdv ct : Value) (y : Value) (us ws : List Value), us.length = na → ws.length = ks.length →
      (∃ k, bindArgs (PySem.W.fnOf x qual (defArgs st) (defBody st) (defScope st) (.ref T) kV doc pm an cdv ct) ⟨y :: us, ks.zip ws⟩ = seqItems? (.ref T) >>= k ∧ k (some items) = pure (ps.zip (y :: g us ws))) ∧ (y :: g us ws).length = ps.length) : MkBinds K fd ps ks na g gV := by
  obtain ⟨oc, od, kV, doc, pm, an, cdv, ct, osl, rfl, lk, hcd⟩ := F.ex
  refine ⟨fun s y us ws X h1 h2 => ?_, hrel⟩
  obtain ⟨⟨k, e1, e2⟩, e3⟩ := h kV doc pm an cdv ct y us ws h1 h2
  exact ⟨.of_defaults rfl (X _ _ hT) hs e1 e2, e3⟩
def tMakeS (C : Addr) (sp : Sp) (na nk : Nat) (gV : List V → List V → List V) (Ez : St → XK) (t tk : TA) : TE := fun σ H Q => t σ H fun vs H1 => tk σ H1 fun zs H2 => vs.length = na ∧ zs.length = nk ∧
  ∀ x dx, H2 x = none → H2 dx = none → dx ≠ x → sp (.ref x :: gV vs zs) (upd (upd H2 dx (.own x)) x (.ins C dx [])) (fun v H3 => v = .non ∧ Q (.ref x) H3) (Ez σ)
section
variable {X : Cx} {CX : CXT} {k : Nat} {f C : Addr} {fd : FuncData} {ps ks : List Str} {sp : Sp} {Ez : St → XK} {x : Str} {p pos : Pos} {e : Expr} {es : List Expr} {kws : List Keyword} {t tk : TA} {na : Nat} {g : List Value → List Value → List Value} {gV : List V → List V → List V}
theorem run_makeS {pins : List (Addr × Obj)} {σ : St} {H : Hp} {s : Shared} {Q : VK} {us ws : List Value} {vs zs : List V} (M : Mk X.K C f) (F : FnOk X.prog X.w X.K X.mg X.base CX k f fd ps sp) (hr : Room (k + 1) X.A) (hb : MkBinds X.K fd ps ks na g gV)
    (hx : PassesS CX X Ez) (I : Inv X pins σ H s) (r : Vals vs us) (rz : Vals zs ws) (hna : vs.length = na) (hnk : zs.length = ks.length)
    (h : ∀ x dx, H x = none → H dx = none → dx ≠ x → sp (.ref x :: gV vs zs) (upd (upd H dx (.own x)) x (.ins C dx [])) (fun v H2 => v = .non ∧ Q (.ref x) H2) (Ez σ)) :
    wpAny (model X.prog X.w) X.A (call (.ref C) us (ks.zip ws)) (EP X pins σ Q) X.xe s := by
  have hq := h (s.heap.objs.size + 1) s.heap.objs.size (I.hok.fresh (Nat.le_succ _)) (I.hok.fresh (Nat.le_refl _)) (Nat.ne_of_lt (Nat.lt_succ_self _))
  have I2 := Inv.made (C := C) I
  have r2 : Vals (V.ref (s.heap.objs.size + 1) :: gV vs zs) (Value.ref (s.heap.objs.size + 1) :: g us ws) := .cons rfl (hb.rel r rz)
  obtain ⟨hto, hl⟩ := hb.to { s with heap := (s.heap.push PySem.W.emptyDict).push (PySem.W.instObj C s.heap.objs.size) } (Value.ref (s.heap.objs.size + 1)) us ws I2.kIn (by rw [← r.length]; exact hna) (by rw [← rz.length]; exact hnk)
  refine wpAny_call (make_map (f := f) I.kIn M.makes M.init (beq_iff_eq.mp M.fn) (codeAny_mono (F.run _ X.stack _ _ ⟨Value.ref (s.heap.objs.size + 1) :: us, ks.zip ws⟩ (Value.ref (s.heap.objs.size + 1) :: g us ws) _ _ (Ez σ) (hr.make C us (ks.zip ws))
    (I2.env0.make C us (ks.zip ws)) hto r2 hq) fun r s' hq' => ?_))
  cases r with
  | error e => exact hx pins σ _ _ e s' I2 hq'
  | ok fl =>
    cases fl with
    | ret u =>
      obtain ⟨v, H', I3, rv, ev, q3⟩ := I2.after hq'
      subst ev
      exact ⟨rv, ⟨V.ref (s.heap.objs.size + 1), H', I3, rfl, q3⟩⟩
    | next => exact False.elim hq'
    | brk => exact False.elim hq'
    | cont => exact False.elim hq'
theorem pe_makeS (M : Mk X.K C f) (F : FnOk X.prog X.w X.K X.mg X.base CX k f fd ps sp) (hr : Room (k + 1) X.A) (hg : Gl X x) (hm : X.mg x = some (.ref C)) (hb : MkBinds X.K fd ps ks na g gV) (hx : PassesS CX X Ez)
    (ha : PA X (e :: es) t) (hkw : PK X kws tk) (hall : (backToKw pos (keywordEach kws X.env)).all (·.1.isSome) = true := by rfl) (hks : (backToKw pos (keywordEach kws X.env)).filterMap (·.1) = ks := by rfl)
    (hdb : (x == ("__debug__" : Str)) = false := by decide) (he : starEach (e :: es) X.env = (false, eval e X.env) :: starEach es X.env := by rfl)
    (hpl : ((backTo pos (starEach (e :: es) X.env)).any (·.1) || (backToKw pos (keywordEach kws X.env)).any (·.1.isNone)) = false := by rfl) :
    PE X (.Call (.Name x p) (e :: es) kws pos) (tMakeS C sp na ks.length gV Ez t tk) := by
  unfold PE at *; unfold PA at *; unfold PK at *
  exact by
    intro pins s σ H Q I h
    refine wpAny_Call_Name_kw (ld_glob I hg hm ?_ hdb)
    refine PySem.W.callWith_KW (h₀ := X.base) I.ok.mod.kin M.kp hall (thn (ha pos pins s σ H _ I h) fun us s1 ⟨vs, H1, I1, r, q⟩ => ?_) hpl he
    refine thn (hkw pos pins s1 σ H1 _ I1 q) fun ws s2 ⟨zs, H2, I2, rz, hna, hnk, q2⟩ => ⟨I2.kIn, ?_⟩
    rw [hks]
    exact run_makeS M F hr hb hx I2 r rz hna hnk q2

end
theorem free_of {X : Cx} {scope : Scope} (l : List Str) (h : (scope.names.all fun y => match y.2 with | .free => l.contains y.1 | _ => true) = true) (hl : ∀ x ∈ l, X.env.kindOf x = some .cell ∨ X.env.kindOf x = some .free) :
    ∀ y ∈ scope.names, y.2 = .free → (X.env.kindOf y.1 = some .cell ∨ X.env.kindOf y.1 = some .free) := fun y hy e => by
  have q := List.all_eq_true.mp h y hy
  rw [e] at q
  exact hl _ (List.contains_iff_mem.mp q)
/-- a statement, then what holds behind it, then the rest -/
def tCut (t u : TS) : TS := fun D σ H => ∃ Mid : St → Hp → Prop, t { D with nx := Mid } σ H ∧ ∀ σ' H', Mid σ' H' → u D σ' H'
theorem pss_cut {X : Cx} {st : Stmt} {rest : List Stmt} {t u : TS} (h1 : PS X st t) (h2 : PSs X rest u) : PSs X (st :: rest) (tCut t u) := by
  unfold PS at *; unfold PSs at *
  exact by
    intro pins s σ H D I h
    obtain ⟨Mid, h, hm⟩ := h
    refine wpAny_execs_cons (thn (h1 pins s σ H { D with nx := Mid } I h) fun f s1 q => ?_)
    cases f with
    | next =>
      obtain ⟨σ', H', I', q⟩ := q
      exact h2 pins s1 σ' H' D I' (hm σ' H' q)
    | ret v => exact q
    | brk => exact q
    | cont => exact q

theorem lenS {α : Type} {n : Nat} : ∀ {us : List α}, us.length = n + 1 → ∃ a r, us = a :: r ∧ r.length = n
  | a :: r, h => ⟨a, r, rfl, by simpa using h⟩
theorem len0 {α : Type} : ∀ {us : List α}, us.length = 0 → us = []
  | [], _ => rfl
theorem fm_nil {α : Type} {p : α → Prop} : ∀ x ∈ ([] : List α), p x := fun _ h => nomatch h
theorem fm_cons {α : Type} {p : α → Prop} {a : α} {l : List α} (h : p a) (r : ∀ x ∈ l, p x) : ∀ x ∈ a :: l, p x := fun x hx => by
  rcases List.mem_cons.mp hx with e | e
  · subst e; exact h
  · exact r x e
/-- a comprehension that captures names of the def -/
theorem cap_of {X : Cx} {scope : Scope} {N' : List Str} {js : List (Option Nat)} (hl : js.length = N'.length)
    (h : ∀ p ∈ js.zip N', ∀ j, p.1 = some j → X.N[j]? = some p.2 ∧ scope.names.lookup p.2 = some .free ∧ (X.env.kindOf p.2 = some .cell ∨ X.env.kindOf p.2 = some .free)) : Cap X scope N' js :=
  ⟨hl, fun i j x h1 h2 => h (some j, x) (List.mem_of_getElem? (i := i) (by rw [List.getElem?_zip_eq_some]; exact ⟨h1, h2⟩)) j rfl⟩
end L2

namespace L2
open PySem PySem.Spec PyProof.Rows

/-! ### int(text), text.find(text), digits -/
section
variable {X : Cx}
end
end L2

namespace L2
open PySem PySem.Spec PyProof.Rows

/-! ### sorted of a list of ints -/
section
variable {X : Cx}
end
/-- // by a large positive divisor -/
structure CDivB (i j : Int) : Prop where
  lo : 0 < j
  hi : j < 2 ^ 200
theorem op_fdivB {X : Cx} : OpR X (binaryOp .FloorDiv) (rI CDivB fun i j => .int (i / j)) := opI fun i j _ _ _ _ _ hc q => by
  have h1 : (0 : Int) < j := hc.lo
  have h2 : j < 2 ^ 200 := hc.hi
  refine floordiv_int (by omega) (by rw [Int.fdiv_eq_ediv_of_nonneg i (by omega)]; exact q) (.inl (PyProof.noPylong_of_log2 ?_))
  have h3 : j.natAbs < 2 ^ 200 := by omega
  have h4 := (Nat.log2_lt (n := j.natAbs) (k := 200) (by omega)).mpr h3
  omega
theorem MtM.r {X : Cx} {id : String} {r : V → List V → Hp → VK → Prop} (h : MtM X id r) : MtR X id r := by
  first
  | exact (h)
  | (unfold MtR at *; unfold MtM at *; exact (h))

end L2

namespace L2
open PySem PySem.Spec PyProof.Rows

/-- a comprehension's loop over a list -/
theorem loop_lst {K : PySem.W.Frag} {a l : Addr} {xs : List V} {g : TG} {tc : TT} {te : TE} {σ : St} {H : Hp} {Q : VK} (Pv : Nat → St → List V → Hp → Prop) (hsz : xs.length ≤ sizeLine) (h0 : Pv 0 σ [] H)
    (hl : ∀ i σ acc H, i ≤ xs.length → Pv i σ acc H → H l = some (.lst acc) ∧ SqL K H a xs ∧ acc.length ≤ i)
    (hs : ∀ i x σ acc H, xs[i]? = some x → Pv i σ acc H → g x σ H fun σ2 H2 => tc σ2 H2 fun b H3 => if b = true then
      te σ2 H3 fun v H4 => H4 l = some (.lst acc) ∧ Nx xs.length i (Pv (i + 1) σ2 (acc ++ [v]) (upd H4 l (.lst (acc ++ [v])))) else Nx xs.length i (Pv (i + 1) σ2 acc H3))
    (hd : ∀ σ acc H, Pv xs.length σ acc H → Q (.ref l) H) : tLoop (Itl K a) l g tc te σ H Q :=
  loop_by xs.length Pv hsz h0 (fun i σ acc H hi p => ⟨(hl i σ acc H hi p).1, (hl i σ acc H hi p).2.2⟩)
    (fun i σ acc H hi p => ⟨xs, xs[i], (hl i σ acc H (Nat.le_of_lt hi) p).2.1, List.getElem?_eq_getElem hi⟩)
    (fun i x σ acc H H' hi p y => by
      obtain ⟨e, y⟩ := y
      subst e
      exact hs i x σ acc _ (y xs (hl i σ acc _ (Nat.le_of_lt hi) p).2.1) p)
    (fun σ acc H p => ⟨⟨xs, (hl _ σ acc H (Nat.le_refl _) p).2.1, Nat.le_refl _⟩, hd σ acc H p⟩)

/-! ### lists within lists of ints, in the heap: read (AtR), owned (At: o tells each list's place), new (New) -/
def Tr : Nat → Type
  | 0 => Int
  | n + 1 => List (Tr n)
/-- as a list -/
abbrev ls {n : Nat} (ts : Tr (n + 1)) : List (Tr n) := ts
abbrev Ow := Addr → Option (List Nat)
def AtR (H : Hp) : (n : Nat) → V → Tr n → Prop
  | 0, v, i => v = .int i
  | n + 1, v, ts => ∃ a vs, v = .ref a ∧ H a = some (.lst vs) ∧ vs.length = (ls ts).length ∧ ∀ (j : Nat) w t, vs[j]? = some w → (ls ts)[j]? = some t → AtR H n w t
def At (o : Ow) (H : Hp) : (n : Nat) → List Nat → V → Tr n → Prop
  | 0, _, v, i => v = .int i
  | n + 1, p, v, ts => ∃ a vs, v = .ref a ∧ o a = some p ∧ H a = some (.lst vs) ∧ vs.length = (ls ts).length ∧ ∀ (j : Nat) w t, vs[j]? = some w → (ls ts)[j]? = some t → At o H n (j :: p) w t
theorem At.r {o : Ow} {H : Hp} : ∀ {n : Nat} {p : List Nat} {v : V} {t : Tr n}, At o H n p v t → AtR H n v t
  | 0, _, _, _, h => h
  | n + 1, _, _, _, ⟨a, vs, e, _, h, l, k⟩ => ⟨a, vs, e, h, l, fun j w t hw ht => (k j w t hw ht).r⟩
/-- whatever is a list stays -/
theorem AtR.keep {H H' : Hp} (s : ∀ a xs, H a = some (.lst xs) → H' a = some (.lst xs)) : ∀ {n : Nat} {v : V} {t : Tr n}, AtR H n v t → AtR H' n v t
  | 0, _, _, h => h
  | n + 1, _, _, ⟨a, vs, e, h, l, k⟩ => ⟨a, vs, e, s _ _ h, l, fun j w t hw ht => (k j w t hw ht).keep s⟩
theorem AtR.same {H H' : Hp} (s : Same H H') {n : Nat} {v : V} {t : Tr n} (h : AtR H n v t) : AtR H' n v t := h.keep fun a xs e => s a _ e
theorem At.frame {o o' : Ow} {H H' : Hp} : ∀ {n : Nat} {p : List Nat} {v : V} {t : Tr n}, At o H n p v t → (∀ a r xs, o a = some r → p <:+ r → H a = some (.lst xs) → H' a = some (.lst xs) ∧ o' a = some r) → At o' H' n p v t
  | 0, _, _, _, h, _ => h
  | n + 1, p, _, _, ⟨a, vs, e, ho, h, l, k⟩, f =>
    have q := f a p vs ho (List.suffix_refl p) h
    ⟨a, vs, e, q.2, q.1, l, fun j w t hw ht => (k j w t hw ht).frame fun b r xs hb hs hx => f b r xs hb ((List.suffix_cons j p).trans hs) hx⟩
/-- under another place -/
theorem At.under {o : Ow} {H : Hp} (q : List Nat) : ∀ {n : Nat} {p : List Nat} {v : V} {t : Tr n}, At o H n p v t → At (fun a => (o a).map (· ++ q)) H n (p ++ q) v t
  | 0, _, _, _, h => h
  | n + 1, p, _, _, ⟨a, vs, e, ho, h, l, k⟩ => ⟨a, vs, e, (by show (o a).map (· ++ q) = _; rw [ho]; rfl), h, l, fun j w t hw ht => (k j w t hw ht).under q⟩
theorem cons_not_suffix {j : Nat} {p : List Nat} : ¬ (j :: p) <:+ p := fun h => by
  have := h.length_le
  rw [List.length_cons] at this
  omega
theorem cons_ne_suffix {j i : Nat} {p r : List Nat} (h : (j :: p) <:+ r) (h' : (i :: p) <:+ r) : j = i := by
  have e1 : (j :: p) = r.drop (r.length - (j :: p).length) := List.suffix_iff_eq_drop.mp h
  have e2 : (i :: p) = r.drop (r.length - (i :: p).length) := List.suffix_iff_eq_drop.mp h'
  rw [List.length_cons] at e1 e2
  rw [← e2] at e1
  exact (List.cons.inj e1).1
/-- an item of it has changed, in its own place or by another one put there -/
theorem At.put {o o' : Ow} {H H' : Hp} {n : Nat} {p : List Nat} {a : Addr} {ts : Tr (n + 1)} {vs : List V} {i : Nat} {w : V} {t : Tr n} (h : At o H (n + 1) p (.ref a) ts) (hv : H a = some (.lst vs)) (hi : i < vs.length)
    (hf : ∀ b r xs, o b = some r → b ≠ a → ¬ (i :: p) <:+ r → H b = some (.lst xs) → H' b = some (.lst xs)) (ho : ∀ b r, o b = some r → ¬ (i :: p) <:+ r → o' b = some r)
    (e : H' a = some (.lst (vs.set i w))) (hw : At o' H' n (i :: p) w t) : At o' H' (n + 1) p (.ref a) ((ls ts).set i t : List (Tr n)) := by
  obtain ⟨a', vs', ea, ho', h', l, k⟩ := h
  cases ea
  rw [hv] at h'
  cases h'
  refine ⟨a, _, rfl, ho _ _ ho' cons_not_suffix, e, by show (vs.set i w).length = ((ls ts).set i t).length; rw [List.length_set, List.length_set, l], fun j x u hx hu => ?_⟩
  have hu : ((ls ts).set i t)[j]? = some u := hu
  by_cases q : i = j
  · subst q
    rw [List.getElem?_set_self (by omega)] at hx
    rw [List.getElem?_set_self (by omega)] at hu
    cases hx
    cases hu
    exact hw
  · rw [List.getElem?_set_ne q] at hx hu
    refine (k j x u hx hu).frame fun b r xs hb hs hx => ?_
    have hne : b ≠ a := fun z => by
      subst z
      rw [ho'] at hb
      cases hb
      exact cons_not_suffix hs
    have hni : ¬ (i :: p) <:+ r := fun z => q (cons_ne_suffix z hs)
    exact ⟨hf b r xs hb hne hni hx, ho b r hb hni⟩
theorem At.lst {o : Ow} {H : Hp} {n : Nat} {p : List Nat} {v : V} {ts : Tr (n + 1)} (h : At o H (n + 1) p v ts) : ∃ a vs, v = .ref a ∧ o a = some p ∧ H a = some (.lst vs) ∧ vs.length = (ls ts).length :=
  let ⟨a, vs, e, ho, h, l, _⟩ := h
  ⟨a, vs, e, ho, h, l⟩
theorem AtR.lst {H : Hp} {n : Nat} {v : V} {ts : Tr (n + 1)} (h : AtR H (n + 1) v ts) : ∃ a vs, v = .ref a ∧ H a = some (.lst vs) ∧ vs.length = (ls ts).length :=
  let ⟨a, vs, e, h, l, _⟩ := h
  ⟨a, vs, e, h, l⟩
/-- made since H -/
def New (H H' : Hp) (n : Nat) (w : V) (t : Tr n) : Prop := ∃ o, At o H' n [] w t ∧ ∀ a r, o a = some r → H a = none ∧ H' a ≠ none
/-- the items of a list that grows at l -/
def NewL (H H' : Hp) (l : Addr) (n : Nat) (ws : List V) (ts : List (Tr n)) : Prop :=
  ws.length = ts.length ∧ ∃ o : Ow, (∀ (j : Nat) w t, ws[j]? = some w → ts[j]? = some t → At o H' n [j] w t) ∧ ∀ a r, o a = some r → H a = none ∧ H' a ≠ none ∧ a ≠ l ∧ r ≠ []
theorem New.r {H H' : Hp} {n : Nat} {w : V} {t : Tr n} (h : New H H' n w t) : AtR H' n w t := let ⟨_, h, _⟩ := h; h.r
theorem NewL.nil {H H' : Hp} {l : Addr} {n : Nat} : NewL H H' l n [] [] := ⟨rfl, fun _ => none, fun j w t h => (by rw [List.getElem?_nil] at h; cases h), fun a r h => nomatch h⟩
theorem NewL.frame {H H' H'' : Hp} {l : Addr} {n : Nat} {ws : List V} {ts : List (Tr n)} (h : NewL H H' l n ws ts) (f : ∀ a xs, a ≠ l → H a = none → H' a = some (.lst xs) → H'' a = some (.lst xs)) (g : ∀ a, H' a ≠ none → H'' a ≠ none) : NewL H H'' l n ws ts := by
  obtain ⟨e, o, k, d⟩ := h
  exact ⟨e, o, fun j w t hw ht => (k j w t hw ht).frame fun a r xs ho _ hx => ⟨f a xs (d a r ho).2.2.1 (d a r ho).1 hx, ho⟩, fun a r ho => ⟨(d a r ho).1, g a (d a r ho).2.1, (d a r ho).2.2⟩⟩
theorem New.frame {H H' H'' : Hp} {n : Nat} {w : V} {t : Tr n} (h : New H H' n w t) (f : ∀ a xs, H a = none → H' a = some (.lst xs) → H'' a = some (.lst xs)) (g : ∀ a, H' a ≠ none → H'' a ≠ none) : New H H'' n w t := by
  obtain ⟨o, k, d⟩ := h
  exact ⟨o, k.frame fun a r xs ho _ hx => ⟨f a xs (d a r ho).1 hx, ho⟩, fun a r ho => ⟨(d a r ho).1, g a (d a r ho).2⟩⟩
theorem New.same {H H' H'' : Hp} {n : Nat} {w : V} {t : Tr n} (h : New H H' n w t) (s : Same H' H'') : New H H'' n w t := h.frame (fun a xs _ e => s a _ e) fun a e => by
  cases q : H' a with
  | none => exact absurd q e
  | some u => rw [s a u q]; intro z; cases z
theorem New.int {H H' : Hp} {i : Int} : New H H' 0 (.int i) i := ⟨fun _ => none, rfl, fun a r h => nomatch h⟩
/-- one item more: made since H' -/
theorem NewL.snoc {H H' H'' : Hp} {l : Addr} {n : Nat} {ws : List V} {ts : List (Tr n)} {w : V} {t : Tr n} (h : NewL H H' l n ws ts) (hl : H' l ≠ none) (fr : ∀ a, H' a = none → H a = none) (f : ∀ a xs, a ≠ l → H a = none → H' a = some (.lst xs) → H'' a = some (.lst xs)) (g : ∀ a, H' a ≠ none → H'' a ≠ none)
    (hn : New H' H'' n w t) : NewL H H'' l n (ws ++ [w]) (ts ++ [t]) := by
  obtain ⟨e, o, k, d⟩ := h
  obtain ⟨o2, k2, d2⟩ := hn
  have old : ∀ a r, o a = some r → o2 a = none := fun a r ho => by
    cases q : o2 a with
    | none => rfl
    | some r2 => exact absurd (d2 a r2 q).1 (d a r ho).2.1
  refine ⟨by rw [List.length_append, List.length_append, e]; rfl, fun a => match o2 a with | some r => some (r ++ [ws.length]) | none => o a, fun j x u hx hu => ?_, fun a r hr => ?_⟩
  · rcases Nat.lt_trichotomy j ws.length with q | q | q
    · rw [List.getElem?_append_left q] at hx
      rw [List.getElem?_append_left (by omega)] at hu
      refine (k j x u hx hu).frame fun a r xs ho _ hx => ⟨f a xs (d a r ho).2.2.1 (d a r ho).1 hx, ?_⟩
      show (match o2 a with | some r => some (r ++ [ws.length]) | none => o a) = some r
      rw [old a r ho]
      exact ho
    · subst q
      rw [List.getElem?_append_right (Nat.le_refl _), Nat.sub_self] at hx
      rw [List.getElem?_append_right (by omega), show ws.length - ts.length = 0 by omega] at hu
      cases hx
      cases hu
      refine (k2.under [ws.length]).frame fun a r xs ho _ hx => ⟨hx, ?_⟩
      show (match o2 a with | some r => some (r ++ [ws.length]) | none => o a) = some r
      cases q : o2 a with
      | none => rw [q] at ho; cases ho
      | some r2 => rw [q] at ho; exact ho
    · rw [List.getElem?_append_right (by omega)] at hx
      have : [w].length ≤ j - ws.length := by rw [List.length_singleton]; omega
      rw [List.getElem?_eq_none this] at hx
      cases hx
  · have hr : (match o2 a with | some r => some (r ++ [ws.length]) | none => o a) = some r := hr
    cases q : o2 a with
    | none =>
      rw [q] at hr
      exact ⟨(d a r hr).1, g a (d a r hr).2.1, (d a r hr).2.2⟩
    | some r2 =>
      rw [q] at hr
      cases hr
      refine ⟨fr a (d2 a r2 q).1, (d2 a r2 q).2, fun z => ?_, fun z => ?_⟩
      · subst z
        exact hl (d2 a r2 q).1
      · have := congrArg List.length z
        rw [List.length_append] at this
        simp at this
theorem NewL.done {H H' : Hp} {l : Addr} {n : Nat} {ws : List V} {ts : List (Tr n)} (h : NewL H H' l n ws ts) (hl : H l = none) (e : H' l = some (.lst ws)) : New H H' (n + 1) (.ref l) ts := by
  obtain ⟨el, o, k, d⟩ := h
  have nl : o l = none := by
    cases q : o l with
    | none => rfl
    | some r => exact absurd rfl (d l r q).2.2.1
  refine ⟨fun a => if a = l then some [] else o a, ⟨l, ws, rfl, if_pos rfl, e, el, fun j w t hw ht => (k j w t hw ht).frame fun a r xs ho _ hx => ⟨hx, ?_⟩⟩, fun a r hr => ?_⟩
  · show (if a = l then some [] else o a) = some r
    rw [if_neg (d a r ho).2.2.1]
    exact ho
  · have hr : (if a = l then some [] else o a) = some r := hr
    by_cases q : a = l
    · subst q
      exact ⟨hl, by rw [e]; intro z; cases z⟩
    · rw [if_neg q] at hr
      exact ⟨(d a r hr).1, (d a r hr).2.1⟩
/-- all ints in it -/
def flat : (n : Nat) → Tr n → List Int
  | 0, i => [i]
  | n + 1, ts => (ls ts).flatMap (flat n)
/-- no list in it is empty -/
def full : (n : Nat) → Tr n → Prop
  | 0, _ => True
  | n + 1, ts => ls ts ≠ [] ∧ ∀ t ∈ ls ts, full n t
theorem rIsiA.ty {K : PySem.W.Frag} {H : Hp} {x : V} {n c : String} {b : Bool} {Q : VK} (t : TyOf K H x (.type n)) (k : PySem.W.kitOne K (.type n) (.type c) = some b) (q : Q (.bl b) H) : rIsiA K [x, .ty c] H Q := .inl ⟨x, .ty c, _, _, _, rfl, .ty c, t, k, q⟩
/-- what is owned is there -/
def Dom (o : Ow) (H : Hp) : Prop := ∀ b r, o b = some r → H b ≠ none
/-- o, and what was made from H to H1 -/
structure Ext (o o' : Ow) (H H1 : Hp) : Prop where
  old : ∀ b, H b ≠ none → o' b = o b
  new : ∀ b r, o' b = some r → H b = none → H1 b ≠ none
def ovr (H : Hp) (o oN : Ow) (q : List Nat) : Ow := fun b => match H b with | none => (oN b).map (· ++ q) | some _ => o b
theorem New.put {o : Ow} {H H1 : Hp} {n : Nat} {w : V} {t : Tr n} (nw : New H H1 n w t) (q : List Nat) : ∃ o', Ext o o' H H1 ∧ ∀ H2, (∀ b xs, H b = none → H1 b = some (.lst xs) → H2 b = some (.lst xs)) → At o' H2 n q w t := by
  obtain ⟨oN, k, d⟩ := nw
  refine ⟨ovr H o oN q, ⟨fun b hb => ?_, fun b r hr hb => ?_⟩, fun H2 f => ?_⟩
  · unfold ovr
    cases e : H b with
    | none => exact absurd e hb
    | some u => rfl
  · unfold ovr at hr
    rw [hb] at hr
    cases e : oN b with
    | none =>
      have hr : (oN b).map (· ++ q) = some r := hr
      rw [e] at hr
      cases hr
    | some r' => exact (d b r' e).2
  · refine (k.under q).frame fun b r xs hr _ hx => ?_
    have hr : (oN b).map (· ++ q) = some r := hr
    cases e : oN b with
    | none => rw [e] at hr; cases hr
    | some r' =>
      refine ⟨f b xs (d b r' e).1 hx, ?_⟩
      unfold ovr
      rw [(d b r' e).1]
      exact hr
theorem Ext.after {o o' : Ow} {H H1 : Hp} {c : Addr} {u : HO} (x : Ext o o' H H1) (dm : Dom o H) (s : Same H H1) : Dom o' (upd H1 c u) := fun b r hr => by
  by_cases q : b = c
  · rw [q, upd_same]; intro z; cases z
  · rw [upd_ne q]
    cases e : H b with
    | none => exact x.new b r hr e
    | some v => rw [s b v e]; intro z; cases z
end L2

namespace L2
open PySem PySem.Spec PyProof.Rows

/-! ### zip of two lists; t + u where t may be empty -/
/-- zip of the lists at a and b -/
def Itz (K : PySem.W.Frag) (a b : Addr) : It :=
  ⟨fun i H => ∃ xs ys x y, SqL K H a xs ∧ SqL K H b ys ∧ xs[i]? = some x ∧ ys[i]? = some y,
   fun i H v H' => ∃ T x y, v = .ref T ∧ H T = none ∧ H' = upd H T (.tup [x, y]) ∧ (∀ xs, SqL K H a xs → xs[i]? = some x) ∧ ∀ ys, SqL K H b ys → ys[i]? = some y,
   fun i H => ∃ xs ys, SqL K H a xs ∧ SqL K H b ys ∧ min xs.length ys.length = i⟩
theorem turn_zip {P : Program} {w : World} {K : PySem.W.Frag} {es : List Expr} {k : Nat} {pos : Pos} (a b z TI TO i1 i2 : Addr) (D : ZipApart z TI TO i1 i2 a b) :
    Turn P w K (.Tuple es k pos) (Itz K a b) [z, TI, TO, i1, i2] z (fun i h => IsZip h z TI TO .none ∧ IsPair h TI (.ref i1) (.ref i2) ∧ (∃ x y, IsPair h TO x y) ∧ h.IsListIter i1 a i ∧ h.IsListIter i2 b i) where
  mem := by simp
  obj := fun i h st c hc => by
    obtain ⟨hz, hTI, ⟨x, y, hTO⟩, ⟨o1, ho1, hc1, hd1⟩, o2, ho2, hc2, hd2⟩ := st
    simp only [List.mem_cons, List.not_mem_nil, or_false] at hc
    rcases hc with rfl | rfl | rfl | rfl | rfl
    · exact ⟨_, hz, fun v z => by cases z⟩
    · exact ⟨_, hTI, fun v z => by cases z⟩
    · exact ⟨_, hTO, fun v z => by cases z⟩
    · exact ⟨o1, ho1, fun v z => by rw [hd1] at z; cases z⟩
    · exact ⟨o2, ho2, fun v z => by rw [hd2] at z; cases z⟩
  keep := fun i h h' st k => by
    obtain ⟨hz, hTI, ⟨x, y, hTO⟩, h1, h2⟩ := st
    exact ⟨k z (by simp) _ hz, k TI (by simp) _ hTI, ⟨x, y, k TO (by simp) _ hTO⟩, h1.at fun o e => k i1 (by simp) o e, h2.at fun o e => k i2 (by simp) o e⟩
  item := by
    intro X hP hw hK hc i pins s σ H E I hf st hg
    subst hP hw hK
    obtain ⟨xs, ys, x, y, hq1, hq2, hx, hy⟩ := hg
    obtain ⟨its1, rv1, p1, _⟩ := I.list hq1
    obtain ⟨its2, rv2, p2, _⟩ := I.list hq2
    obtain ⟨u1, hu1, ru1⟩ := rv1.get hx
    obtain ⟨u2, hu2, ru2⟩ := rv2.get hy
    obtain ⟨hz, hTI, hTO, h1, h2⟩ := st
    have hlt : i < min its1.toArray.size its2.toArray.size := by
      obtain ⟨l1, _⟩ := List.getElem?_eq_some_iff.mp hu1
      obtain ⟨l2, _⟩ := List.getElem?_eq_some_iff.mp hu2
      simp only [List.size_toArray]
      omega
    have W := WalksT.zip2 (prog := X.prog) (w := X.w) (I.ok.hd hc) z TI TO i1 i2 a b D its1.toArray its2.toArray
    refine W.item i s _ _ hlt ⟨hz, hTI, hTO, h1, h2, p1.isList, p2.isList⟩ fun T vals h1 tk hp hT hIs hm hk => ?_
    obtain ⟨v1, v2, e1, e2, rfl⟩ := hp
    have ey1 : v1 = u1 := by
      have : its1.toArray[i]? = some u1 := by simpa using hu1
      rw [this] at e1
      exact (Option.some.inj e1).symm
    have ey2 : v2 = u2 := by
      have : its2.toArray[i]? = some u2 := by simpa using hu2
      rw [this] at e2
      exact (Option.some.inj e2).symm
    subst ey1 ey2
    refine ⟨_, rfl, W.go es k pos i T _ _ _ hm fun h2 st2 hk2 => ?_⟩
    have hTn : H T = none := I.hok.fresh hT
    have hap := W.apart i T h1 hm
    have hwf : ∀ c ∈ [z, TO, i1, i2], FpOk X pins H c := fun c hc => hf c (by simp only [List.mem_cons, List.not_mem_nil, or_false] at hc ⊢; rcases hc with q | q | q | q <;> simp [q])
    have I1 : Inv X pins σ H { s with heap := h2, toks := tk } := I.turns (t' := tk) (fun c o hc e => hk2 c o hc (hk c o hc e)) hwf
    have hT2 : h2.IsTuple T #[v1, v2] := by
      obtain ⟨o, ho, r⟩ := hIs
      exact ⟨o, hk2 T o hap ho, r⟩
    have hs0 : X.s₀.heap.objs.size ≤ T := Nat.le_trans I.sz hT
    have nTI : T ≠ TI := fun q => by
      subst q
      exact absurd (Nat.lt_of_lt_of_le (Heap.lt_size hTI) hT) (Nat.lt_irrefl _)
    have fT : ∀ c ∈ [z, TI, TO, i1, i2], upd H T (.tup [x, y]) c = none := fun c hc => by
      rw [upd_ne (fun q => ?_)]
      · exact (hf c hc).1
      · simp only [List.mem_cons, List.not_mem_nil, or_false] at hc
        rcases hc with rfl | rfl | rfl | rfl | rfl
        · exact hap (by simp [← q])
        · exact nTI q.symm
        · exact hap (by simp [← q])
        · exact hap (by simp [← q])
        · exact hap (by simp [← q])
    have I2 : Inv X pins σ (upd H T (.tup [x, y])) { s with heap := h2, toks := tk } := by
      refine I1.adopt hTn (Heap.get?_none_of_le hs0) (Nat.ne_of_gt (Nat.lt_of_lt_of_le I.lt hT)) (fun z c e q => ?_) (fun p hp q => ?_) ⟨le_ble rfl, [v1, v2], .cons ru1 (.cons ru2 .nil), hT2⟩
      · obtain ⟨v, q1⟩ := I.cell z c e
        exact absurd (Nat.lt_of_lt_of_le q1.lt (by rw [q]; exact hT)) (Nat.lt_irrefl _)
      · exact absurd (Nat.lt_of_lt_of_le (Heap.lt_size (I.pin p hp).1) (by rw [q]; exact hT)) (Nat.lt_irrefl _)
    exact ⟨.ref T, _, I2, rfl, ⟨T, x, y, rfl, hTn, rfl, fun us hu => by rw [I.list_inj hu hq1]; exact hx, fun us hu => by rw [I.list_inj hu hq2]; exact hy⟩, ⟨st2.1, st2.2.1, st2.2.2.1, st2.2.2.2.1, st2.2.2.2.2.1⟩, fT⟩
  done := by
    intro X hP hw hK hc i pins s σ H E I hf st hg
    subst hP hw hK
    obtain ⟨xs, ys, hq1, hq2, hm⟩ := hg
    obtain ⟨its1, rv1, p1, _⟩ := I.list hq1
    obtain ⟨its2, rv2, p2, _⟩ := I.list hq2
    obtain ⟨hz, hTI, hTO, h1, h2⟩ := st
    have W := WalksT.zip2 (prog := X.prog) (w := X.w) (I.ok.hd hc) z TI TO i1 i2 a b D its1.toArray its2.toArray
    have en : min its1.toArray.size its2.toArray.size = i := by
      simp only [List.size_toArray]
      rw [← rv1.length, ← rv2.length]
      exact hm
    refine W.done s _ _ (by rw [en]; exact ⟨hz, hTI, hTO, h1, h2, p1.isList, p2.isList⟩) fun h' tk hk => ⟨rfl, ?_⟩
    exact I.turns (t' := tk) (wr := [z, TO, i1, i2]) hk fun c hc => hf c (by simp only [List.mem_cons, List.not_mem_nil, or_false] at hc ⊢; rcases hc with q | q | q | q <;> simp [q])
  self := fun A i s Q E st h => wpAny_pyIter_zip st.1 h
theorem bt_zip : bootBuiltins "zip" = some (.type "zip") := by decide +kernel
def iZip (K : PySem.W.Frag) (ta : TA) : TI := fun σ H R => ta σ H fun vs H1 => ∃ a b, vs = [.ref a, .ref b] ∧ (∃ xs, SqL K H1 a xs) ∧ (∃ ys, SqL K H1 b ys) ∧ R (Itz K a b) H1
theorem pi_zip {X : Cx} {es : List Expr} {k : Nat} {tpos p pos : Pos} {a b : Expr} {ta : TA} (hg : Gl X "zip") (hm : X.mg "zip" = none) (ha : PA X [a, b] ta)
    (hs : starEach [a, b] X.env = [(false, eval a X.env), (false, eval b X.env)] := by rfl) (hs2 : starEach [b] X.env = [(false, eval b X.env)] := by rfl) : PI X (.Tuple es k tpos) (.Call (.Name "zip" p) [a, b] [] pos) (iZip X.K ta) := by
  unfold PA at *; unfold PI at *
  exact by
    intro pins s σ H R I h
    refine wpAny_Call_Name_kw (ld_blt I hg hm bt_zip ?_ (by decide) (by decide))
    refine PyProof.Rows.callWith_type1 (thn (ha pos pins s σ H _ I h) fun us s1 ⟨vs, H1, I1, r, q⟩ => ?_) (by rw [hs, hs2]) (by rw [hs2]; rfl)
    obtain ⟨c, d, rfl, ⟨xs, hq1⟩, ⟨ys, hq2⟩, q⟩ := q
    obtain ⟨u1, u2, rfl, ru1, ru2⟩ : ∃ u1 u2, us = [u1, u2] ∧ RelV (.ref c) u1 ∧ RelV (.ref d) u2 := by
      cases r with
      | cons h1 r => cases r with
        | cons h2 r => cases r; exact ⟨_, _, rfl, h1, h2⟩
    cases ru1
    cases ru2
    obtain ⟨its1, rv1, p1, _⟩ := I1.list hq1
    obtain ⟨its2, rv2, p2, _⟩ := I1.list hq2
    refine call_zip_2 p1.isList p2.isList fun h' hz hTI hTO hi1 hi2 hsz hk => ?_
    refine wpAny_pyIter_zip hz ?_
    have l1 : c < s1.heap.objs.size := by obtain ⟨o, ho, _⟩ := p1.isList; exact Heap.lt_size ho
    have l2 : d < s1.heap.objs.size := by obtain ⟨o, ho, _⟩ := p2.isList; exact Heap.lt_size ho
    have I2 : Inv X pins σ H1 { s1 with heap := h' } := I1.kept (t' := s1.toks) hk
    refine ⟨_, [s1.heap.objs.size + 4, s1.heap.objs.size + 2, s1.heap.objs.size + 3, s1.heap.objs.size, s1.heap.objs.size + 1], _, _, H1, rfl, I2, turn_zip c d _ _ _ _ _ (zipApart_new l1 l2), ⟨hz, hTI, ⟨_, _, hTO⟩, hi1, hi2⟩, fun e he => ?_, q⟩
    have hle : s1.heap.objs.size ≤ e := by
      simp only [List.mem_cons, List.not_mem_nil, or_false] at he
      rcases he with rfl | rfl | rfl | rfl | rfl
      · exact Nat.le_add_right _ 4
      · exact Nat.le_add_right _ 2
      · exact Nat.le_add_right _ 3
      · exact Nat.le_refl _
      · exact Nat.le_add_right _ 1
    exact I1.fpOk hle (I1.hok.fresh hle)

/-- a for over zip of two lists -/
theorem for_zip {K : PySem.W.Frag} {a b : Addr} {xs ys : List V} {g : TG} {tb : TS} {D : Ends} {σ : St} {H : Hp} (Pv : Nat → St → Hp → Prop) (h0 : Pv 0 σ H) (hl : ∀ i σ H, i ≤ min xs.length ys.length → Pv i σ H → SqL K H a xs ∧ SqL K H b ys)
    (hs : ∀ (i : Nat) x y T σ H, xs[i]? = some x → ys[i]? = some y → Pv i σ H → H T = none → g (.ref T) σ (upd H T (.tup [x, y])) fun σ2 H2 => tb { D with nx := Pv (i + 1), ct := Pv (i + 1), bk := D.nx } σ2 H2) (hd : ∀ σ H, Pv (min xs.length ys.length) σ H → D.nx σ H) :
    ∃ W : Nat → Nat → St → Hp → Prop, (∃ m, W 0 m σ H) ∧ ∀ i m σ H, W i m σ H →
      ((Itz K a b).stop i H ∧ D.nx σ H) ∨ ((Itz K a b).go i H ∧ ∃ N : St → Hp → Prop, (∀ σ' H', N σ' H' → ∃ m', m' < m ∧ W (i + 1) m' σ' H') ∧ ∀ v H', (Itz K a b).yld i H v H' → g v σ H' fun σ2 H2 => tb { D with nx := N, ct := N, bk := D.nx } σ2 H2) := by
  refine ⟨fun i m σ H => m = min xs.length ys.length - i ∧ i ≤ min xs.length ys.length ∧ Pv i σ H, ⟨min xs.length ys.length, by simp, Nat.zero_le _, h0⟩, ?_⟩
  rintro i m σ H ⟨rfl, hi, p⟩
  obtain ⟨q1, q2⟩ := hl i σ H hi p
  by_cases hlt : i < min xs.length ys.length
  · have l1 : i < xs.length := by omega
    have l2 : i < ys.length := by omega
    refine .inr ⟨⟨xs, ys, xs[i], ys[i], q1, q2, List.getElem?_eq_getElem l1, List.getElem?_eq_getElem l2⟩, Pv (i + 1), fun σ' H' p' => ⟨min xs.length ys.length - (i + 1), by omega, rfl, hlt, p'⟩, fun v H' y => ?_⟩
    obtain ⟨T, x, y, rfl, hT, rfl, e1, e2⟩ := y
    exact hs i x y T σ H (e1 xs q1) (e2 ys q2) p hT
  · have e : i = min xs.length ys.length := by omega
    subst e
    exact .inl ⟨⟨xs, ys, q1, q2, rfl⟩, hd σ H p⟩
def rCatT1 (K : PySem.W.Frag) : R2 := fun x y H Q => ∃ a b xs ys, x = .ref a ∧ y = .ref b ∧ SqT K H a xs ∧ SqT K H b ys ∧ ys ≠ [] ∧ xs.length + ys.length ≤ sizeLine ∧
  (xs = [] → Q (.ref b) H) ∧ (xs ≠ [] → ∀ p, H p = none → Q (.ref p) (upd H p (.tup (xs ++ ys))))
theorem op_catT1 {X : Cx} : OpR X (binaryOp .Add) (rCatT1 X.K) := by
  unfold OpR at *
  exact by
    intro pins s σ H x y v u Q I rx ry h
    obtain ⟨a, b, xs, ys, rfl, rfl, ha, hb, hy, hz, q1, q2⟩ := h
    cases rx
    cases ry
    by_cases hx : xs = []
    · obtain ⟨its, r1, p1, _⟩ := I.tuple ha
      obtain ⟨its2, r2, p2, _⟩ := I.tuple hb
      have hv : its = [] := r1.nil_iff.mpr hx
      obtain ⟨⟨cls, dd, data, sl⟩, ho, hc, n, hd⟩ := id p1
      obtain ⟨⟨cls2, dd2, data2, sl2⟩, ho2, hc2, n2, hd2⟩ := id p2
      simp only at hc hd hc2 hd2
      subst hc hd hc2 hd2
      exact concat_meets ⟨_, ho, rfl⟩ ⟨_, ho2, rfl⟩ noFill_tuple_add seq_tuple_add PySem.F.slot_tuple_add PySem.F.entry_tuple_add (PySem.F.args_tuple_add_2 _ _)
        (tuple_addW0 a b its.toArray its2.toArray n n2 dd dd2 sl sl2 (by simp [hv])) ⟨ho, ho2, ⟨.ref b, H, I, rfl, q1 hx⟩⟩
    · have op := op_catT (X := X)
      unfold OpR at op
      exact op pins s σ H (.ref a) (.ref b) _ _ Q I rfl rfl ⟨a, b, xs, ys, rfl, rfl, ha, hb, hx, hz, fun e => absurd e hy, fun _ => q2 hx⟩

end L2
namespace L2
open PySem PySem.Spec PyProof.Rows
/-! ### list(d): the keys -/
end L2

namespace L2
open PySem PySem.Spec PyProof.Rows

/-! ### sep.join(list of texts) -/
theorem vals_strs : ∀ {ys : List Str} {us : List Value}, Vals (ys.map V.str) us → StrsAre us ys
  | [], _, .nil => .nil
  | _ :: _, _, .cons ⟨_, h⟩ r => by
    subst h
    exact .cons _ _ (vals_strs r)
theorem mt_join {X : Cx} : MtR X "str.join" (fun x xs H Q => ∃ sep a ys, x = .str sep ∧ xs = [.ref a] ∧ SqL X.K H a (ys.map V.str) ∧ sep.length ≤ 16 ∧ (ys.map (·.length)).sum + ys.length ≤ 1048576 ∧ Q (.str (Txt.join sep ys)) H) := by
  unfold MtR at *
  exact by
    intro pins s σ H x xs v us Q I rx r h
    obtain ⟨sep, a, ys, rfl, rfl, hq, h1, h2, q⟩ := h
    obtain ⟨t, rfl⟩ := rx
    obtain ⟨u, rfl, ru⟩ := vals1 r
    cases ru
    obtain ⟨its, rv, pl, _⟩ := I.list hq
    exact join_listW pl.isList (vals_strs rv) h1 h2 fun t' k => ⟨.str _, H, I.tok _, ⟨_, rfl⟩, q⟩

/-! ### isinstance of own things, by an own class -/
structure IAsk (K : PySem.W.Frag) (C : Addr) : Prop where
  ha : PySem.W.findIn K (.ref C) "__class__" = some (some (.builtin "object.__class__"))
  hn : PySem.W.specialIn K (.builtin "object.__class__") "__get__" = some (some (.builtin "getset_descriptor.__get__"))
  htk : PySem.W.takesIn K (.builtin "object.__class__") = some true
  hm : PySem.W.mroIn K C (.type "object") = some true
theorem rIsiA.ins {K : PySem.W.Frag} {H : Hp} {a C D dx : Addr} {fs : List (Str × V)} {b : Bool} {Q : VK} (h : H a = some (.ins C dx fs)) (cl : Cls K C) (q : IAsk K C) (k : PySem.W.kitOne K (.ref C) (.ref D) = some b) (hQ : Q (.bl b) H) : rIsiA K [.ref a, .ref D] H Q :=
  .inl ⟨.ref a, .ref D, _, _, _, rfl, .own D, .ins h cl q.ha q.hn q.htk q.hm, k, hQ⟩
theorem rIsiA.tyC {K : PySem.W.Frag} {H : Hp} {x : V} {n : String} {D : Addr} {b : Bool} {Q : VK} (t : TyOf K H x (.type n)) (k : PySem.W.kitOne K (.type n) (.ref D) = some b) (q : Q (.bl b) H) : rIsiA K [x, .ref D] H Q := .inl ⟨x, .ref D, _, _, _, rfl, .own D, t, k, q⟩
end L2

namespace L2
open PySem PySem.Spec PyProof.Rows
section
variable {X : Cx}
end

/-! ### some items of a new list's, in a new list -/
structure Pk {n : Nat} (ws : List V) (ts : List (Tr n)) (i : Nat) (idx : List Nat) (acc : List V) (us : List (Tr n)) : Prop where
  la : acc.length = idx.length
  lu : us.length = idx.length
  lt : ∀ k ∈ idx, k < i
  nd : idx.Nodup
  at_ : ∀ j k : Nat, idx[j]? = some k → acc[j]? = ws[k]? ∧ us[j]? = ts[k]?
theorem Pk.nil {n : Nat} {ws : List V} {ts : List (Tr n)} : Pk ws ts 0 [] [] [] := ⟨rfl, rfl, fun _ h => (nomatch h), List.nodup_nil, fun _ _ h => (by rw [List.getElem?_nil] at h; cases h)⟩
theorem Pk.drop {n : Nat} {ws : List V} {ts : List (Tr n)} {i : Nat} {idx : List Nat} {acc : List V} {us : List (Tr n)} (h : Pk ws ts i idx acc us) : Pk ws ts (i + 1) idx acc us :=
  ⟨h.la, h.lu, fun k hk => Nat.lt_succ_of_lt (h.lt k hk), h.nd, h.at_⟩
theorem Pk.keep {n : Nat} {ws : List V} {ts : List (Tr n)} {i : Nat} {idx : List Nat} {acc : List V} {us : List (Tr n)} {w : V} {t : Tr n} (h : Pk ws ts i idx acc us) (hw : ws[i]? = some w) (ht : ts[i]? = some t) : Pk ws ts (i + 1) (idx ++ [i]) (acc ++ [w]) (us ++ [t]) := by
  refine ⟨by rw [List.length_append, List.length_append, h.la]; rfl, by rw [List.length_append, List.length_append, h.lu]; rfl, fun k hk => ?_, ?_, fun j k hk => ?_⟩
  · rcases List.mem_append.mp hk with q | q
    · exact Nat.lt_succ_of_lt (h.lt k q)
    · rw [List.mem_singleton.mp q]; exact Nat.lt_succ_self i
  · rw [List.nodup_append]
    exact ⟨h.nd, List.nodup_cons.mpr ⟨List.not_mem_nil, List.nodup_nil⟩, fun x hx y hy e => by rw [e, List.mem_singleton.mp hy] at hx; exact Nat.lt_irrefl _ (h.lt _ hx)⟩
  · by_cases q : j < idx.length
    · rw [List.getElem?_append_left q] at hk
      rw [List.getElem?_append_left (by rw [h.la]; exact q), List.getElem?_append_left (by rw [h.lu]; exact q)]
      exact h.at_ j k hk
    · rw [List.getElem?_append_right (by omega)] at hk
      obtain ⟨h1, e1⟩ := List.getElem?_eq_some_iff.mp hk
      have j0 : j - idx.length = 0 := by simpa using h1
      rw [j0] at hk
      cases (Option.some.inj hk : i = k)
      rw [List.getElem?_append_right (by rw [h.la]; omega), List.getElem?_append_right (by rw [h.lu]; omega), h.la, h.lu, j0]
      exact ⟨hw.symm, ht.symm⟩
end L2

namespace L2
open PySem PySem.Spec PyProof.Rows

end L2

namespace L2
open PySem PySem.Spec PyProof.Rows

/-! ### dicts that are alike -/
section
variable {X : Cx} {pins : List (Addr × Obj)} {σ : St} {H : Hp} {s : Shared}
end

/-! ### loops over a dict: it is frozen while the loop walks it, and thawed behind -/
section
variable {X : Cx} {pins : List (Addr × Obj)} {σ : St} {H : Hp} {s : Shared} {d : Addr} {u0 u1 : HO}
end
end L2

namespace L2
open PySem PySem.Spec PyProof.Rows

/-! ### o.m(..) where m may raise; d.clear() -/
def tMethS (C : Addr) (m : Str) (sp : Sp) (dvs : List V) (Ez : St → XK) (ta : TE) (t : TA) : TE := fun σ H Q => ta σ H fun x H1 => ∃ a dx fs, x = .ref a ∧ H1 a = some (.ins C dx fs) ∧ fs.lookup m = none ∧
  t σ H1 fun vs H2 => sp (x :: (vs ++ dvs)) H2 Q (Ez σ)
section
variable {X : Cx} {CX : CXT} {k : Nat} {f C : Addr} {fd : FuncData} {ps : List Str} {sp : Sp} {dvs : List V} {ds : List Value} {Ez : St → XK} {x m : Str} {p pos apos : Pos} {e o : Expr} {es : List Expr} {ta : TE} {t : TA}
theorem pe_methS {pl : Sem Bool} (he : PE X o ta) (c : Cls X.K C) (hm : Meth X.K C m f) (F : FnOk X.prog X.w X.K X.mg X.base CX k f fd ps sp) (hr : Room k X.A) (hb : Binds X.K fd ps ds) (hd : Vals dvs ds) (hx : PassesS CX X Ez) (ha : PA X (e :: es) t)
    (hst : starEach (e :: es) X.env = (false, eval e X.env) :: starEach es X.env := by rfl) (hpl : (backTo pos (starEach es X.env)).any (·.1) = false := by rfl)
    (ht : eval (.Call (.Attribute o m apos) (e :: es) [] pos) X.env = (do
      let ov ← eval o X.env
      standAt apos.atName
      let (f, first) ← holding [ov] (getMethod ov m pl)
      callWith pos f first (backTo pos (starEach (e :: es) X.env)) (backToKw pos (keywordEach [] X.env))) := by rfl) :
    PE X (.Call (.Attribute o m apos) (e :: es) [] pos) (tMethS C m sp dvs Ez ta t) := by
  unfold PE at *; unfold PA at *
  exact by
    intro pins s σ H Q I h
    refine PySem.W.methodCall_KW (pl := pl) (thn (he pins s σ H _ I h) fun u s1 ⟨x, H1, I1, rx, a, dx, fs, ex, ea, l, q⟩ => ?_) ht
    subst ex
    obtain rfl : u = Value.ref a := rx
    refine getmeth_ok I1 ea c hm l ?_
    refine PySem.W.callWith_K (first := [.ref a]) (h₀ := X.base) I.ok.mod.kin hm.kp (thn (ha pos pins s1 σ H1 _ I1 q) fun us s2 ⟨vs, H2, I2, r, q2⟩ => ⟨I2.kIn, ?_⟩) hst hpl
    exact run_fnS (us := .ref a :: us) (vs := .ref a :: vs) F hr hb hd hx I2 (.cons rfl r) q2

end
end L2
namespace L2
open PySem PySem.Spec PyProof.Rows
end L2

namespace L2
open PySem PySem.Spec PyProof.Rows

/-! ### sorted(d): the numbers that are its keys -/
section
variable {prog : Program} {w : World} {A : Around} {E : Value → Shared → Prop} {s : Shared} {T : String} {r d : Addr} {n : Nat} {P : Nat → Value → Prop} {OK : Heap → Prop}
end
section
variable {X : Cx}
end
theorem cut_take (xs : List V) (i : Nat) (h : i ≤ xs.length) : cutV xs none (some (0 + (i : Int))) = xs.take i := by
  rw [Int.zero_add]
  unfold cutV
  rw [HT.sIx_nat, HT.sIx_none, Nat.min_eq_left h, List.drop_zero, Nat.sub_zero]
section
variable {X : Cx}
theorem mt_lclear : MtR X "list.clear" (fun x vs H Q => ∃ l xs, x = .ref l ∧ vs = [] ∧ H l = some (.lst xs) ∧ Q .non (upd H l (.lst []))) := by
  unfold MtR at *
  exact by
    intro pins s σ H x vs v us Q I rx rv h
    obtain ⟨l, xs, rfl, rfl, hH, q⟩ := h
    cases rx
    cases rv
    obtain ⟨z, its, n, r, hl, e⟩ := I.lstM hH
    refine call_meets PySem.F.slot_list_clear ⟨_, e, rfl⟩ PySem.F.entry_list_clear (PySem.F.args_list_clear_1 _) (AutoSeq1.list_clear_list_0 l its.toArray n (by rw [List.size_toArray]; omega)) ⟨e, ?_⟩
    exact ⟨.non, _, I.lset (its' := []) hH e rfl .nil (Nat.zero_le _), rfl, q⟩

end
theorem cut_lit (xs : List V) (k : Nat) : cutV xs none (some (k : Int)) = xs.take k := by
  unfold cutV
  rw [HT.sIx_nat, HT.sIx_none, List.drop_zero, Nat.sub_zero]
  have h := List.take_take (i := k) (j := xs.length) (l := xs)
  rw [List.take_length] at h
  exact h.symm
end L2

namespace L2
open PySem PySem.Spec PyProof.Rows

/-! ### lists of dicts that are alike (their keys are numbers) -/
theorem dict_anyW {P P' : Program} {w w' : World} {h : Heap} {a : Addr} {vs : List (Key × Value)} (d : h.DictOf (mixKind P w) a vs) (hi : ∀ p ∈ vs, ∃ n : Int, p.1 = Sum.inl n) : h.DictOf (mixKind P' w') a vs := by
  obtain ⟨o, es, ep, g, c, hd, hk, hp, hn⟩ := d
  have pp : ∀ {el : List DictEntry} {vl : List (Key × Value)}, Pairs (mixKind P w) el vl → (∀ p ∈ vl, ∃ n : Int, p.1 = Sum.inl n) → Pairs (mixKind P' w') el vl ∧ ∀ e ∈ el, ∃ n : Int, keyIs (Sum.inl n) e.key = true := by
    intro el vl h
    induction h with
    | nil => intro _; exact ⟨.nil, fun _ h => nomatch h⟩
    | @cons e kv es kvs h1 h2 _ ih =>
      intro hi
      obtain ⟨i1, i2⟩ := ih fun p hp => hi p (List.mem_cons_of_mem _ hp)
      refine ⟨.cons h1 h2 i1, fun x hx => ?_⟩
      rcases List.mem_cons.mp hx with q | q
      · obtain ⟨n, hn⟩ := hi kv (List.mem_cons_self ..)
        rw [q]
        exact ⟨n, by rw [← hn]; exact h1⟩
      · exact i2 x q
  obtain ⟨p1, p2⟩ := pp hp hi
  refine ⟨o, es, ep, g, c, hd, fun e he => ?_, p1, hn⟩
  obtain ⟨k, k1, k2⟩ := hk e he
  obtain ⟨n, hn'⟩ := p2 e (by simpa using he)
  have e1 : k = Sum.inl n := (mixKind P w).inj e.key k (Sum.inl n) k1 hn'
  subst e1
  exact ⟨_, k1, k2⟩
theorem kv_ints {ka : List (Key × V)} {va : List (Key × Value)} (r : KV ka va) (hi : ∀ p ∈ ka, ∃ n : Int, p.1 = Sum.inl n) : ∀ p ∈ va, ∃ n : Int, p.1 = Sum.inl n := by
  unfold KV at r
  induction r with
  | nil => exact fun _ h => nomatch h
  | @cons p q ps qs h t ih =>
    intro x hx
    rcases List.mem_cons.mp hx with e | e
    · obtain ⟨n, hn⟩ := hi p (List.mem_cons_self ..)
      rw [e, ← h.1]
      exact ⟨n, hn⟩
    · exact ih (fun p hp => hi p (List.mem_cons_of_mem _ hp)) x e
def DEq (K : PySem.W.Frag) (H : Hp) (n : Nat) (u v : V) : Prop := ∃ a b ka kb, u = .ref a ∧ v = .ref b ∧ Rd H a (.dK ka) ∧ Rd H b (.dK kb) ∧ ka.length = kb.length ∧ (∀ p ∈ ka, ∃ y, valV kb p.1 = some y ∧ EqD K H n p.2 y true) ∧ (∀ p ∈ ka, ∃ m : Int, p.1 = Sum.inl m) ∧ ∀ p ∈ kb, ∃ m : Int, p.1 = Sum.inl m
section
variable {X : Cx} {pins : List (Addr × Obj)} {σ : St} {H : Hp} {s : Shared}
theorem hits_at (I : Inv X pins σ H s) {A : Around} {n : Nat} {kb : List (Key × V)} {vb : List (Key × Value)} (rb : KV kb vb) (hu : A.units + n < cLine) : ∀ {ka : List (Key × V)} {va : List (Key × Value)}, KV ka va →
    (∀ p ∈ ka, ∃ y, valV kb p.1 = some y ∧ EqD X.K H n p.2 y true) → PySem.W.KeqHits A s vb va true := by
  intro ka va r
  unfold KV at r
  induction r with
  | nil => intro _; exact .nil
  | @cons p q ps qs h t ih =>
    intro hall
    obtain ⟨y, hy, he⟩ := hall p (List.mem_cons_self ..)
    obtain ⟨w, hw, rw'⟩ := RelO.some_of (v := y) (o := valueAt vb q.1) (by rw [← hy, h.1]; exact rb.val q.1)
    obtain ⟨q1, q2⟩ := q
    exact PySem.W.KeqHits.hit (e := true) (b := true) hw (EqD.at I n A p.2 y true q2 w hu he h.2 rw') (ih fun p' hp' => hall p' (List.mem_cons_of_mem _ hp'))
theorem DEq.at (I : Inv X pins σ H s) {A : Around} {n : Nat} {x y : V} {u v : Value} (hu : A.units + 1 + n < cLine) (h : DEq X.K H n x y) (rx : RelV x u) (ry : RelV y v) : SeqAt.EqAt A s u v true := by
  obtain ⟨a, b, ka, kb, rfl, rfl, ha, hb, hl, hall, ia, ib⟩ := h
  cases rx
  cases ry
  obtain ⟨za, da, va, ra, oa⟩ := dk_rd I.hok ha
  obtain ⟨zb, db, vb, rb, ob⟩ := dk_rd I.hok hb
  by_cases hab : a = b
  · subst hab
    exact SeqAt.EqAt.same _
  · refine SeqAt.EqAt.of_refs hab fun prog w E Q hq => ?_
    have oa' := dict_anyW (P' := prog) (w' := w) oa (kv_ints ra ia)
    have ob' := dict_anyW (P' := prog) (w' := w) ob (kv_ints rb ib)
    refine PySem.W.keq_eq da db oa' ob' (by omega) (fun _ => hits_at (A := A.in1) I rb (by show A.units + 1 + n < cLine; exact hu) ra hall) ?_
    rw [← ra.length, ← rb.length, hl, beq_self_eq_true, Bool.true_and]
    exact hq
end
end L2
namespace L2
open PySem PySem.Spec PyProof.Rows
/-! ### list(range(a, b, c)) -/
end L2

namespace L2
open PySem PySem.Spec PyProof.Rows
structure RoomH (k : Nat) (A : Around) : Prop where
  dp : A.depth + 3 * k + 5 < recursionLimit
  un : A.units + 16 * k + 200 < cLine
theorem RoomH.mono {j k : Nat} {A : Around} (r : RoomH k A) (h : j ≤ k) : RoomH j A := ⟨by have := r.dp; omega, by have := r.un; omega⟩
theorem RoomH.deeper {k : Nat} {A : Around} (r : RoomH (k + 1) A) (env : Env) : RoomH k (A.deeper env) :=
  ⟨by have := r.dp; show A.depth + 1 + 3 * k + 5 < _; omega, by have := r.un; show A.units + 3 + 16 * k + 200 < _; omega⟩
theorem RoomH.depth {k : Nat} {A : Around} (r : RoomH k A) : A.depth < recursionLimit := by have := r.dp; omega
def cxOfH (CX : CXT) (P : Program) (w : World) (K : PySem.W.Frag) (mg : Str → Option Value) (base : Heap) (N : List Str) (qual : Str) (scope : Scope) (f : Addr) (cd : Value) (A : Around) (outer : List Env) (s : Shared) (H : Hp) (E : XK) : Cx where
  prog := P
  w := w
  K := K
  mg := mg
  base := base
  A := A.deeper (envOfC qual scope s.heap.objs.size f cd)
  N := N
  s₀ := s
  H₀ := H
  env := envOfC qual scope s.heap.objs.size f cd
  outer := outer
  stack := envOfC qual scope s.heap.objs.size f cd :: outer
  ex := []
  calm := false
  fn := fun _ => true
  pn := []
  xe := fun e s' => wpAny (model P w) (A.deeper (envOfC qual scope s.heap.objs.size f cd)) (leaving (envOfC qual scope s.heap.objs.size f cd) e) (fun _ s'' => CX outer H s E e s'') (fun e' s'' => CX outer H s E e' s'') s'

theorem inv_startH {CX : CXT} {P : Program} {w : World} {K : PySem.W.Frag} {mg : Str → Option Value} {base : Heap} {N ps : List Str} {qual : Str} {scope : Scope} {f : Addr} {cd : Value} {A : Around} {outer : List Env} {s s1 : Shared} {H : Hp} {E : XK} {us : List Value} {vs : List V}
    (S : FnScope N ps scope) (e0 : Env0 P w K mg base A outer s H) (hl : vs.length = ps.length) (r : Vals vs us)
    (x : InCallC s s.heap.objs.size (bindL (envOfC qual scope s.heap.objs.size f cd).kindOf (ps.zip us) fun _ => none) (cellsFrom (s.heap.objs.size + 1) scope.names []) (bindC (envOfC qual scope s.heap.objs.size f cd).kindOf (ps.zip us) fun _ => none) s1) :
    Inv (cxOfH CX P w K mg base N qual scope f cd A outer s H E) [] (start N vs) H s1 := by
  have hpl : ps.length ≤ N.length := by have := congrArg List.length S.pre; rw [List.length_take] at this; omega
  obtain ⟨h1, tk, rfl, hk⟩ := x.done
  have noA : ∀ b : Addr, b ∉ (cxOfH CX P w K mg base N qual scope f cd A outer s H E).ex := fun b z => absurd (show b ∈ ([] : List Addr) from z) (by simp)
  refine ⟨⟨e0.mod, S.kind, rfl, rfl, Nat.le_refl _, fun y z c h1 h2 => ?_, fun y hy => ?_, fun y c _ h => ?_, fun z => Bool.noConfusion z, Around.frames_deeper e0.frames, .inr ⟨rfl, rfl⟩, fun b z => absurd z (noA b), e0.bs, e0.bsz, fun b _ _ => noA b, fun b z => absurd z (noA b), e0.funs, e0.frf⟩,
    rfl, e0.bare, Un.kept hk, ⟨_, x.toInCall.ns, fun i y v h1 h2 h3 => ?_⟩, fun y c h => ⟨_, x.cell y c h⟩, e0.hok.fresh (Nat.le_refl _), fun y c h => ?_, fun p hp => absurd (show p ∈ ([] : List (Addr × Obj)) from hp) (by simp), e0.hok.kept hk, ?_⟩
  · exact name_of_addr x.apart (PySem.mem_of_lookup h1) (PySem.mem_of_lookup h2)
  · have hy : scope.names.lookup y = some .cell ∨ scope.names.lookup y = some .free := hy
    rcases hy with hy | hy
    · exact cell_has hy
    · exact absurd rfl (S.nofree _ (PySem.mem_of_lookup hy))
  · exact Nat.le_of_lt (x.above y c (PySem.mem_of_lookup h))
  · have hi : i < vs.length := by
      unfold start at h2
      by_cases hi : i < vs.length
      · exact hi
      · rw [List.getElem?_append_right (by simpa using hi)] at h2
        rw [List.getElem?_replicate] at h2
        split at h2 <;> cases h2
    have ha : vs[i]? = some v := by
      unfold start at h2
      rw [List.getElem?_append_left (by simpa using hi), List.getElem?_map] at h2
      cases e : vs[i]? with
      | none => rw [e] at h2; cases h2
      | some a => rw [e] at h2; cases h2; rfl
    obtain ⟨u, hu, rv⟩ := r.get ha
    have hp : ps[i]? = some y := by
      rw [← S.pre, List.getElem?_take_of_lt (by omega)]; exact h1
    have ndP : ps.Nodup := by rw [← S.pre]; exact S.nd.sublist (List.take_sublist _ _)
    refine ⟨u, rv, ?_⟩
    rcases S.par y (List.mem_of_getElem? hp) with k | k
    · exact .inl ⟨k, bindL_get ndP hp hu k⟩
    · obtain ⟨c, e⟩ := cell_has (n := s.heap.objs.size + 1) k
      refine .inr ⟨.inl k, c, e, ?_⟩
      have q := x.cell y c e
      rw [bindC_get ndP hp hu (by show scope.names.lookup y ≠ _; rw [k]; decide)] at q
      exact q
  · exact e0.hok.fresh (Nat.le_of_lt (x.above y c (PySem.mem_of_lookup h)))
  · unfold start
    show _ = N.length
    rw [List.length_append, List.length_map, List.length_replicate]
    omega

structure FnOkH (P : Program) (w : World) (K : PySem.W.Frag) (mg : Str → Option Value) (base : Heap) (CX : CXT) (k : Nat) (f : Addr) (fd : FuncData) (ps : List Str) (sp : Sp) : Prop where
  len : ∀ vs H Q E, sp vs H Q E → vs.length = ps.length
  run : ∀ (A : Around) (outer : List Env) (s : Shared) (H : Hp) (args : Args) (us : List Value) (vs : List V) (Q : VK) (E : XK), RoomH k A → Env0 P w K mg base A outer s H → BindsTo s fd args (ps.zip us) → Vals vs us → sp vs H Q E →
    codeAny (model P w) A (.call (.ref f) args) (CR CX outer P w H s Q E) s
theorem Room.h {k : Nat} {A : Around} {o : Option Value} (r : Room k A) : RoomH k (A.mark o) := ⟨r.dp, r.un⟩
section
variable {X : Cx} {CX : CXT} {k : Nat} {f C : Addr} {fd : FuncData} {ps : List Str} {sp : Sp} {dvs : List V} {ds : List Value} {E : XK} {x m : Str} {p pos apos : Pos} {e o : Expr} {es : List Expr} {ta : TE} {t : TA}
theorem run_fnH {pins : List (Addr × Obj)} {σ : St} {H : Hp} {s : Shared} {Q : VK} {us : List Value} {vs : List V} (F : FnOkH X.prog X.w X.K X.mg X.base CX k f fd ps sp) (hr : RoomH k X.A) (hb : Binds X.K fd ps ds) (hd : Vals dvs ds) (hx : Passes CX X E)
    (I : Inv X pins σ H s) (r : Vals vs us) (h : sp (vs ++ dvs) H Q E) : wpAny (model X.prog X.w) X.A (call (.ref f) us) (EP X pins σ Q) X.xe s := by
  have r2 : Vals (vs ++ dvs) (us ++ ds) := r.append hd
  have hl : (us ++ ds).length = ps.length := by rw [← r2.length]; exact F.len _ _ _ _ h
  refine wpAny_call (codeAny_mono (F.run X.A X.stack s H ⟨us, []⟩ (us ++ ds) (vs ++ dvs) Q E hr I.env0 (hb s us I.kIn hl) r2 h) fun r s' hq => ?_)
  cases r with
  | error e => exact hx pins σ H s e s' I hq
  | ok fl =>
    cases fl with
    | ret u => exact I.after hq
    | next => exact False.elim hq
    | brk => exact False.elim hq
    | cont => exact False.elim hq

theorem pe_callH (F : FnOkH X.prog X.w X.K X.mg X.base CX k f fd ps sp) (hr : RoomH k X.A) (hg : Gl X x) (hm : X.mg x = some (.ref f)) (hk : PySem.W.keepIn X.K (.ref f) = true) (hb : Binds X.K fd ps ds) (hd : Vals dvs ds) (hx : Passes CX X E)
    (ha : PA X (e :: es) t) (hdb : (x == ("__debug__" : Str)) = false := by decide) (he : starEach (e :: es) X.env = (false, eval e X.env) :: starEach es X.env := by rfl) (hpl : (backTo pos (starEach es X.env)).any (·.1) = false := by rfl) :
    PE X (.Call (.Name x p) (e :: es) [] pos) (tCall sp dvs E t) := by
  unfold PE at *; unfold PA at *
  exact by
    intro pins s σ H Q I h
    refine wpAny_Call_Name_kw (ld_glob I hg hm ?_ hdb)
    refine PySem.W.callWith_K (h₀ := X.base) I.ok.mod.kin hk (thn (ha pos pins s σ H _ I h) fun us s1 ⟨vs, H1, I1, r, q⟩ => ⟨I1.kIn, ?_⟩) he hpl
    exact run_fnH F hr hb hd hx I1 r q

end
theorem fn_ofH {CX : CXT} {P : Program} {w : World} {K : PySem.W.Frag} {mg : Str → Option Value} {base : Heap} {k : Nat} {f : Addr} {name qual : Str} {params : Arguments} {body : List Stmt} {scope : Scope} {dV kV doc pm cdv ct oc : Value} {an od : Option Addr}
    {osl : Array (Option Value)} {N ps : List Str} {sp : Sp} (lk : K.lookup f = some ⟨oc, od, .func (PySem.W.fnOf name qual params body scope dV kV doc pm an cdv ct), osl⟩) (hcd : PySem.W.codeIn K cdv qual = true) (S : FnScope N ps scope)
    (len : ∀ vs H Q E, sp vs H Q E → vs.length = ps.length)
    (hbody : ∀ (A : Around) (outer : List Env) (s : Shared) (H : Hp) (vs : List V) (Q : VK) (E : XK), RoomH k (A.deeper (envOfC qual scope s.heap.objs.size f cdv)) → sp vs H Q E →
      ∃ t, PSs (cxOfH CX P w K mg base N qual scope f cdv A outer s H E) body t ∧ t { nx := fun _ H' => Q .non H', rt := Q } (start N vs) H) :
    FnOkH P w K mg base CX (k + 1) f (PySem.W.fnOf name qual params body scope dV kV doc pm an cdv ct) ps sp := by
  unfold PSs at *
  exact by
    refine ⟨len, fun A outer s H args us vs Q E hr e0 hb r hsp => ?_⟩
    have hl := len _ _ _ _ hsp
    have KX : K.In s.heap := e0.mod.kin.keeps fun b o e => (e0.bs b o e).1
    have lim : s.heap.NoLimit := e0.mod.nolimit.keeps fun b o e => (e0.bs b o e).1
    have hkind : ∀ y ∈ ps.zip us, scope.names.lookup y.1 = some .local ∨ (scope.names.lookup y.1 = some .cell ∧ ((cellsFrom (s.heap.objs.size + 1) scope.names []).lookup y.1).isSome = true) := fun ⟨n, v⟩ hy => by
      rcases S.par n (List.of_mem_zip hy).1 with q | q
      · exact .inl q
      · exact .inr ⟨q, PySem.W.cellsFrom_some _ _ _ (.inl q)⟩
    refine codeAny_call_function hr.depth (KX _ _ lk) rfl S.co S.gen rfl (PySem.W.codeRec_of KX hcd) (hb _ _ _ _ ?_)
    refine wpAny_newFunctionEnv_cells S.kind hkind fun env he s1 x => ?_
    subst he
    refine ⟨lim.keeps x.toInCall.keep, codeAny_func ?_⟩
    obtain ⟨t, ht, hq⟩ := hbody A outer s H vs Q E (hr.deeper _) hsp
    have I : Inv (cxOfH CX P w K mg base N qual scope f cdv A outer s H E) [] (start N vs) H s1 := inv_startH S e0 hl r x
    refine wpAny_mono (ht [] s1 (start N vs) H _ I hq) (fun fl s' hs => ?_) fun e s' hs => hs
    have fin : ∀ {σ' : St} {H' : Hp} {v : V} {u : Value}, Inv (cxOfH CX P w K mg base N qual scope f cdv A outer s H E) [] σ' H' s' → RelV v u → Q v H' → CE outer P w H s Q u s' :=
      fun {σ' H' v u} J rv q => ⟨v, H', J.os, J.bare, J.base, J.hok, rv, q⟩
    cases fl with
    | ret u =>
      obtain ⟨v, σ', H', J, rv, q⟩ := hs
      exact fin J rv q
    | next =>
      obtain ⟨σ', H', J, q⟩ := hs
      exact fin (v := V.non) (u := Value.none) J rfl q
    | brk =>
      obtain ⟨_, _, _, q⟩ := hs
      exact False.elim q
    | cont =>
      obtain ⟨_, _, _, q⟩ := hs
      exact False.elim q

section
variable {P : Program} {w : World} {K : PySem.W.Frag} {mg : Str → Option Value} {base : Heap}
theorem Fun.okH {x qual : Str} {st : Stmt} {f : Addr} {fd : FuncData} {N ps : List Str} {k : Nat} {sp : Sp} (F : Fun K x qual st f fd) (S : FnScope N ps (defScope st)) (len : ∀ vs H Q E, sp vs H Q E → vs.length = ps.length)
    (hbody : ∀ (cdv : Value) (A : Around) (outer : List Env) (s : Shared) (H : Hp) (vs : List V) (Q : VK) (E : XK), RoomH k (A.deeper (envOfC qual (defScope st) s.heap.objs.size f cdv)) → sp vs H Q E →
      ∃ t, PSs (cxOfH CX0 P w K mg base N qual (defScope st) f cdv A outer s H E).nox (defBody st) t ∧ t { nx := fun _ H' => Q .non H', rt := Q } (start N vs) H) : FnOkH P w K mg base CX0 (k + 1) f fd ps sp := by
  obtain ⟨oc, od, kV, doc, pm, an, cdv, ct, osl, rfl, lk, hcd⟩ := F.ex
  refine fn_ofH lk hcd S len fun A outer s H vs Q E hr hsp => ?_
  obtain ⟨t, h, q⟩ := hbody cdv A outer s H vs Q E hr hsp
  exact ⟨t, h.nox, q⟩
end
end L2


set_option maxHeartbeats 200000
namespace My
open PySem L2
local macro_rules | `(tactic| walk_at "rd") => `(tactic| repeat (first
  | refine ⟨_, rfl, ?_⟩
  | refine ⟨_, _, rfl, rfl, ?_⟩
  | refine ⟨_, _, rfl, ?_⟩
  | refine ⟨(by show (0 : Int) < _; decide), ?_⟩
  | refine ⟨(⟨by decide, by decide⟩ : CDiv _ _), ?_⟩
  | refine ⟨(⟨by decide, by decide⟩ : CDivB _ _), ?_⟩
  | refine ⟨(⟨by decide, by decide, by decide⟩ : CPow _ _), ?_⟩
  | refine ⟨(.inr ⟨by decide, by decide⟩ : CMul _ _), ?_⟩
  | refine ⟨(.inl ⟨by decide, by decide⟩ : CMul _ _), ?_⟩
  | refine ⟨Own.int, ?_⟩
  | refine ⟨Own.bl, ?_⟩
  | refine ⟨Own.str, ?_⟩
  | refine ⟨Own.non, ?_⟩
  | refine ⟨rfl, ?_⟩))
def isI : V → Bool
  | .int _ => true
  | _ => false
def inR (m : Int) : V → Bool
  | .int i => decide (1 ≤ i) && decide (i ≤ m)
  | _ => false
def spW (K : PySem.W.Frag) : Sp := fun vs H Q _ => ∃ x, vs = [x] ∧ Own K H x ∧ Q (.bl (isI x)) H
def spR (K : PySem.W.Frag) (m : Int) : Sp := fun vs H Q _ => ∃ x, vs = [x] ∧ Own K H x ∧ Q (.bl (inR m x)) H
def ranks : List V := [.str "genus", .str "species", .str "form"]
def letter (c : Nat) : Bool := decide (97 ≤ c) && decide (c ≤ 122)
def isWord : V → Bool
  | .str z => (decide (1 ≤ (z.length : Int)) && decide ((z.length : Int) ≤ 12)) && z.cps.toList.all letter
  | _ => false
theorem isWord_str (z : Str) : isWord (.str z) = ((decide (1 ≤ (z.length : Int)) && decide ((z.length : Int) ≤ 12)) && z.cps.toList.all letter) := rfl
def isRank : V → Bool
  | .str z => inV (.str z) ranks
  | _ => false
def fits : V → Prop
  | .str z => z.length ≤ sizeLine
  | _ => True
def spWord (K : PySem.W.Frag) : Sp := fun vs H Q _ => ∃ x, vs = [x] ∧ Own K H x ∧ fits x ∧ ∀ H', Same H H' → Q (.bl (isWord x)) H'
def spRank (K : PySem.W.Frag) : Sp := fun vs H Q _ => ∃ x, vs = [x] ∧ Own K H x ∧ Q (.bl (isRank x)) H
theorem le_one (a c : Nat) : (!decide ((⟨#[c]⟩ : Str).cps.toList < (⟨#[a]⟩ : Str).cps.toList)) = decide (a ≤ c) := by
  have e : ((⟨#[c]⟩ : Str).cps.toList < (⟨#[a]⟩ : Str).cps.toList) ↔ c < a := by
    show [c] < [a] ↔ c < a
    rw [List.cons_lt_cons_iff]
    simp
  by_cases h : c < a
  · rw [decide_eq_true (e.mpr h), decide_eq_false (by omega)]; rfl
  · rw [decide_eq_false (fun z => h (e.mp z)), decide_eq_true (by omega)]; rfl
theorem le_a (c : Nat) : (!decide ((⟨#[c]⟩ : Str).cps.toList < (Str.ofString "a").cps.toList)) = decide (97 ≤ c) := le_one 97 c
theorem le_z (c : Nat) : (!decide ((Str.ofString "z").cps.toList < (⟨#[c]⟩ : Str).cps.toList)) = decide (c ≤ 122) := le_one c 122
theorem take_one {α : Type} {l : List α} {i : Nat} {x : α} (h : l[i]? = some x) : l.take (i + 1) = l.take i ++ [x] := by
  rw [List.take_succ, h]; rfl
def underFits (r u : V) : Bool := if r = .str "genus" then decide (u = .non) else inR 1000000000 u
def tieFits (r s b : V) : Bool := if b = .non then inR 1000000000 s else (!decide (r = .str "genus")) && (decide (s = .non) && inR 1000000000 b)
/-- the first rule that bars it, 0 where none does -/
def whyH (n d r w : V) : Nat := if inR 1000000000 n = false then 1 else if inR 1000000 d = false then 2 else if isRank r = false then 3 else if isWord w = false then 4 else 0
def why (n d r w u s b : V) : Nat := if whyH n d r w ≠ 0 then whyH n d r w else if underFits r u = false then 5 else if tieFits r s b = false then 5 else 0
set_option genInjectivity false in
set_option genSizeOfSpec false in
set_option genSizeOf false in
structure Ex where
  c1 : Addr
  c2 : Addr
  c3 : Addr
  c4 : Addr
  c5 : Addr
def Ex.at (x : Ex) : Nat → Addr
  | 1 => x.c1
  | 2 => x.c2
  | 3 => x.c3
  | 4 => x.c4
  | _ => x.c5
def spHead (K : PySem.W.Frag) (x : Ex) : Sp := fun vs H Q E => ∃ n d r w, vs = [n, d, r, w] ∧ Own K H n ∧ Own K H d ∧ Own K H r ∧ Own K H w ∧ fits w ∧
  ∀ H', Same H H' → (whyH n d r w = 0 → Q .non H') ∧ (whyH n d r w ≠ 0 → E (.ref (x.at (whyH n d r w))) none H')
def spUnder (K : PySem.W.Frag) : Sp := fun vs H Q _ => ∃ z u, vs = [.str z, u] ∧ Own K H u ∧ Q (.bl (underFits (.str z) u)) H
def spTie (K : PySem.W.Frag) : Sp := fun vs H Q _ => ∃ z s b, vs = [.str z, s, b] ∧ Own K H s ∧ Own K H b ∧ Q (.bl (tieFits (.str z) s b)) H
def fields (n d r w u s b k : V) : List (Str × V) := [("number", n), ("day", d), ("rank", r), ("word", w), ("under", u), ("sheet", s), ("base", b), ("described", k)]
def spInit (K : PySem.W.Frag) (C : Addr) (x : Ex) : Sp := fun vs H Q E => ∃ a dx n d r w u s b k, vs = [.ref a, n, d, r, w, u, s, b, k] ∧ H a = some (.ins C dx []) ∧ Own K H n ∧ Own K H d ∧ Own K H r ∧ Own K H w ∧ fits w ∧ Own K H u ∧ Own K H s ∧ Own K H b ∧
  ∀ H', Same H H' → (why n d r w u s b = 0 → Q .non (upd H' a (.ins C dx (fields n d r w u s b k)))) ∧ (why n d r w u s b ≠ 0 → E (.ref (x.at (why n d r w u s b))) none H')
theorem Same.upd {H H' : Hp} {p : Addr} {o : HO} (e : Same H H') (h : H p = none) : Same H (L2.upd H' p o) := fun b u q => by
  rw [upd_ne (ne_of_none q h)]
  exact e b u q
theorem under_g (u : V) : underFits (.str "genus") u = decide (u = .non) := by unfold underFits; rw [if_pos rfl]
theorem under_n {z : Str} (h : z ≠ "genus") (u : V) : underFits (.str z) u = inR 1000000000 u := by unfold underFits; rw [if_neg (fun q => h (V.str.inj q))]
theorem tie_n (r s : V) : tieFits r s .non = inR 1000000000 s := by unfold tieFits; rw [if_pos rfl]
theorem tie_b {b : V} (r s : V) (h : b ≠ .non) : tieFits r s b = ((!decide (r = .str "genus")) && (decide (s = .non) && inR 1000000000 b)) := by unfold tieFits; rw [if_neg h]
theorem Same.made {H : Hp} {x dx : Addr} {o o' : HO} (h1 : H x = none) (h2 : H dx = none) (ne : dx ≠ x) : Same H (L2.upd (L2.upd H dx o) x o') := fun b u q => by
  rw [upd_ne (ne_of_none q h1), upd_ne (ne_of_none q h2)]
  exact q
/-- an entry's fields -/
structure En where
  n : Int
  d : Int
  r : Str
  w : Str
  u : Option Int
  s : Option Int
  b : Option Int
  k : Bool
def optV : Option Int → V
  | none => .non
  | some i => .int i
def fieldsE (e : En) : List (Str × V) := fields (.int e.n) (.int e.d) (.str e.r) (.str e.w) (optV e.u) (optV e.s) (optV e.b) (.bl e.k)
def EntAt (H : Hp) (C : Addr) (v : V) (e : En) : Prop := ∃ a dx, v = .ref a ∧ H a = some (.ins C dx (fieldsE e))
def okE (e : En) : Prop := why (.int e.n) (.int e.d) (.str e.r) (.str e.w) (optV e.u) (optV e.s) (optV e.b) = 0
def aheadE (x y : En) : Bool := HT.lexLt [x.d, x.n] [y.d, y.n]
theorem EntAt.same {H H' : Hp} {C : Addr} {v : V} {e : En} (h : EntAt H C v e) (s : Same H H') : EntAt H' C v e := let ⟨a, dx, e1, h1⟩ := h; ⟨a, dx, e1, s _ _ h1⟩
def spAhead (C : Addr) : Sp := fun vs H Q _ => ∃ x y e f, vs = [x, y] ∧ EntAt H C x e ∧ EntAt H C y f ∧ ∀ H', Same H H' → Q (.bl (aheadE e f)) H'
/-- whether a list of things is a book, from here on -/
def lastOk : Option En → En → Bool
  | none, _ => true
  | some l, e => aheadE l e
def bookOk : List Int → Option En → List (Option En) → Bool
  | _, _, [] => true
  | _, _, none :: _ => false
  | seen, last, some e :: r => !seen.contains e.n && (lastOk last e && bookOk (seen ++ [e.n]) (some e) r)
def EntsAt (H : Hp) (C : Addr) (ws : List V) (es : List En) : Prop := ws.length = es.length ∧ ∀ (j : Nat) v e, ws[j]? = some v → es[j]? = some e → EntAt H C v e
theorem EntsAt.same {H H' : Hp} {C : Addr} {ws : List V} {es : List En} (h : EntsAt H C ws es) (s : Same H H') : EntsAt H' C ws es := ⟨h.1, fun j v e a b => (h.2 j v e a b).same s⟩
theorem all_app (a b : Str) (f : Nat → Bool) : (a ++ b).cps.toList.all f = (a.cps.toList.all f && b.cps.toList.all f) := by
  rw [Str.cps_append, Array.toList_append, List.all_append]
theorem seqNil {K : PySem.W.Frag} {H : Hp} {n : Nat} {a b : Addr} {xs : List V} (ha : SqL K H a xs) (hb : SqL K H b []) : SeqEq K H (EqD K H n) (.ref a) (.ref b) xs.isEmpty := by
  cases xs with
  | nil => exact .list (e := fun _ => true) ha hb rfl fun i x y h => (by rw [List.getElem?_nil] at h; cases h)
  | cons x r => exact .listN ha hb (by intro z; cases z)
theorem inR_int (m i : Int) : inR m (.int i) = (decide (1 ≤ i) && decide (i ≤ m)) := rfl
theorem inR_of {m i : Int} (h1 : 1 ≤ i) (h2 : i ≤ m) : inR m (.int i) = true := by rw [inR_int, decide_eq_true h1, decide_eq_true h2]; rfl
def spCell (K : PySem.W.Frag) : Sp := fun vs H Q _ => ∃ (a : Addr) (k : Int) (ns : List Int), vs = [.ref a, .int k] ∧ 0 ≤ k ∧ SqL K H a (ns.map V.int) ∧ ∀ i, Q (.int i) H
/-- one that came out rightly, and its full name -/
structure Rt where
  e : En
  nm : List Str
structure Rs where
  o : List (Int × Str)
  n : List (Int × Option (List Str))
  r : List Rt
def findN (R : List Rt) (n : Int) : Option Rt := R.find? fun x => decide (x.e.n = n)
def aboveS (r : Str) : Str := if r = Str.ofString "species" then Str.ofString "genus" else Str.ofString "species"
def nameE (R : List Rt) (e : En) : Option (List Str) :=
  if e.r = Str.ofString "genus" then some [e.w] else
    match findN R (e.u.getD 0) with
    | none => none
    | some x => if x.e.r = aboveS e.r then some (x.nm ++ [e.w]) else none
def alikeE (R : List Rt) (nm : List Str) : Str := if R.any (fun x => decide (x.nm = nm)) = true then Str.ofString "alike" else Str.ofString "right"
def basedE (R : List Rt) (e : En) (b : Int) (nm : List Str) : Str :=
  match findN R b with
  | none => Str.ofString "baseless"
  | some x => if x.e.r ≠ e.r ∨ x.e.b ≠ none then Str.ofString "baseless" else if x.e.w ≠ e.w then Str.ofString "reworded" else alikeE R nm
def outE (R : List Rt) (e : En) (nm : Option (List Str)) : Str :=
  if e.b = none ∧ e.k = false then Str.ofString "undescribed" else
    match nm with
    | none => Str.ofString "unplaced"
    | some nm => match e.b with
      | none => alikeE R nm
      | some b => basedE R e b nm
def outS (s : Rs) (e : En) : Str := outE s.r e (nameE s.r e)
def stepE (s : Rs) (e : En) : Rs := ⟨s.o ++ [(e.n, outS s e)], s.n ++ [(e.n, nameE s.r e)], if outS s e = Str.ofString "right" then s.r ++ [⟨e, (nameE s.r e).getD []⟩] else s.r⟩
def resE (es : List En) : Rs := es.foldl stepE ⟨[], [], []⟩
theorem resE_snoc (es : List En) (e : En) : resE (es ++ [e]) = stepE (resE es) e := by unfold resE; rw [List.foldl_append]; rfl
def depthR (r : Str) : Nat := if r = Str.ofString "genus" then 1 else if r = Str.ofString "species" then 2 else 3
/-- what is so of the results of a book -/
structure RsOk (s : Rs) : Prop where
  nd : (s.o.map (·.1)).Nodup
  nk : s.n.map (·.1) = s.o.map (·.1)
  sub : ∀ x ∈ s.r, x.e.n ∈ s.o.map (·.1)
  rn : (s.r.map (·.e.n)).Nodup
  nm : ∀ x ∈ s.r, (x.e.n, some x.nm) ∈ s.n
  dp : ∀ x ∈ s.r, x.nm.length = depthR x.e.r
  bs : ∀ x ∈ s.r, ∀ b, x.e.b = some b → ∃ y, findN s.r b = some y ∧ y.e.b = none ∧ y.e.r = x.e.r ∧ y.e.w = x.e.w
  ok : ∀ x ∈ s.r, okE x.e
theorem nd_len {xs ys : List Int} : ∀ (nd : xs.Nodup) (h : ∀ x ∈ xs, x ∈ ys), xs.length ≤ ys.length := by
  induction xs generalizing ys with
  | nil => intro _ _; exact Nat.zero_le _
  | cons x r ih =>
    intro nd h
    rw [List.nodup_cons] at nd
    have h1 := ih (ys := ys.erase x) nd.2 fun y hy => (List.mem_erase_of_ne (fun z => nd.1 (by rw [← z]; exact hy))).mpr (h y (List.mem_cons_of_mem _ hy))
    have hx := h x (List.mem_cons_self ..)
    rw [List.length_erase_of_mem hx] at h1
    have : 0 < ys.length := List.length_pos_of_mem hx
    rw [List.length_cons]
    omega
theorem findN_mem {R : List Rt} {n : Int} {x : Rt} (h : findN R n = some x) : x ∈ R ∧ x.e.n = n := ⟨List.mem_of_find?_eq_some h, of_decide_eq_true (List.find?_some (p := fun x : Rt => decide (x.e.n = n)) h)⟩
theorem findN_app {R Q : List Rt} {n : Int} {x : Rt} (h : findN R n = some x) : findN (R ++ Q) n = some x := by
  unfold findN at h ⊢
  rw [List.find?_append, h]
  rfl
/-- what a good entry has -/
theorem okE_rank {e : En} (h : okE e) : e.r = Str.ofString "genus" ∨ e.r = Str.ofString "species" ∨ e.r = Str.ofString "form" := by
  unfold okE why at h
  by_cases h1 : whyH (.int e.n) (.int e.d) (.str e.r) (.str e.w) = 0
  · unfold whyH at h1
    by_cases a1 : inR 1000000000 (V.int e.n) = false
    · rw [if_pos a1] at h1; cases h1
    · rw [if_neg a1] at h1
      by_cases a2 : inR 1000000 (V.int e.d) = false
      · rw [if_pos a2] at h1; cases h1
      · rw [if_neg a2] at h1
        by_cases a3 : isRank (V.str e.r) = false
        · rw [if_pos a3] at h1; cases h1
        · have a4 : isRank (V.str e.r) = true := by cases q : isRank (V.str e.r) with | true => rfl | false => exact absurd q a3
          have a5 : inV (.str e.r) ranks = true := a4
          have a6 : (eqV (.str (Str.ofString "genus")) (.str e.r) || (eqV (.str (Str.ofString "species")) (.str e.r) || (eqV (.str (Str.ofString "form")) (.str e.r) || false))) = true := a5
          simp [eqV] at a6
          rcases a6 with q | q | q
          · exact .inl q.symm
          · exact .inr (.inl q.symm)
          · exact .inr (.inr q.symm)
  · rw [if_pos h1] at h
    exact absurd h h1
theorem okE_u {e : En} (h : okE e) (hr : e.r ≠ Str.ofString "genus") : ∃ u, e.u = some u := by
  unfold okE why at h
  by_cases h1 : whyH (.int e.n) (.int e.d) (.str e.r) (.str e.w) ≠ 0
  · rw [if_pos h1] at h; exact absurd h h1
  · rw [if_neg h1] at h
    by_cases h2 : underFits (.str e.r) (optV e.u) = false
    · rw [if_pos h2] at h; cases h
    · rw [under_n hr] at h2
      cases hu : e.u with
      | none => rw [hu] at h2; exact absurd rfl h2
      | some u => exact ⟨u, rfl⟩
theorem okE_word {e : En} (h : okE e) : isWord (.str e.w) = true := by
  unfold okE why at h
  by_cases h1 : whyH (.int e.n) (.int e.d) (.str e.r) (.str e.w) = 0
  · unfold whyH at h1
    cases q : isWord (V.str e.w) with
    | true => rfl
    | false =>
      exfalso
      by_cases a1 : inR 1000000000 (V.int e.n) = false
      · rw [if_pos a1] at h1; cases h1
      · rw [if_neg a1] at h1
        by_cases a2 : inR 1000000 (V.int e.d) = false
        · rw [if_pos a2] at h1; cases h1
        · rw [if_neg a2] at h1
          by_cases a3 : isRank (V.str e.r) = false
          · rw [if_pos a3] at h1; cases h1
          · rw [if_neg a3, if_pos q] at h1; cases h1
  · rw [if_pos h1] at h
    exact absurd h h1
theorem outE_right {R : List Rt} {e : En} {nm : Option (List Str)} (h : outE R e nm = Str.ofString "right") : ∃ z, nm = some z ∧ R.any (fun x => decide (x.nm = z)) = false ∧ ∀ b, e.b = some b → ∃ y, findN R b = some y ∧ y.e.b = none ∧ y.e.r = e.r ∧ y.e.w = e.w := by
  have al : ∀ z, alikeE R z = Str.ofString "right" → R.any (fun x => decide (x.nm = z)) = false := fun z hz => by
    unfold alikeE at hz
    cases q : R.any (fun x => decide (x.nm = z)) with
    | false => rfl
    | true => rw [q, if_pos rfl] at hz; exact absurd hz (by decide +kernel)
  unfold outE at h
  by_cases h1 : e.b = none ∧ e.k = false
  · rw [if_pos h1] at h; exact absurd h (by decide +kernel)
  · rw [if_neg h1] at h
    cases nm with
    | none =>
      have h : Str.ofString "unplaced" = Str.ofString "right" := h
      exact absurd h (by decide +kernel)
    | some z =>
      cases hb : e.b with
      | none =>
        rw [hb] at h
        exact ⟨z, rfl, al z h, fun b q => nomatch q⟩
      | some b =>
        rw [hb] at h
        have h : basedE R e b z = Str.ofString "right" := h
        unfold basedE at h
        cases hf : findN R b with
        | none =>
          rw [hf] at h
          have h : Str.ofString "baseless" = Str.ofString "right" := h
          exact absurd h (by decide +kernel)
        | some y =>
          rw [hf] at h
          have h : (if y.e.r ≠ e.r ∨ y.e.b ≠ none then Str.ofString "baseless" else if y.e.w ≠ e.w then Str.ofString "reworded" else alikeE R z) = Str.ofString "right" := h
          by_cases h2 : y.e.r ≠ e.r ∨ y.e.b ≠ none
          · rw [if_pos h2] at h; exact absurd h (by decide +kernel)
          · rw [if_neg h2] at h
            by_cases h3 : y.e.w ≠ e.w
            · rw [if_pos h3] at h; exact absurd h (by decide +kernel)
            · rw [if_neg h3] at h
              refine ⟨z, rfl, al z h, fun b' q => ?_⟩
              cases Option.some.inj q
              refine ⟨y, hf, ?_, ?_, ?_⟩
              · exact Decidable.of_not_not fun q => h2 (.inr q)
              · exact Decidable.of_not_not fun q => h2 (.inl q)
              · exact Decidable.of_not_not h3
theorem nameE_len {R : List Rt} {e : En} {z : List Str} (h : nameE R e = some z) (ok : okE e) (dp : ∀ x ∈ R, x.nm.length = depthR x.e.r) : z.length = depthR e.r := by
  unfold nameE at h
  by_cases h1 : e.r = Str.ofString "genus"
  · rw [if_pos h1] at h
    cases h
    unfold depthR
    rw [if_pos h1]
    rfl
  · rw [if_neg h1] at h
    cases hf : findN R (e.u.getD 0) with
    | none => rw [hf] at h; cases h
    | some x =>
      rw [hf] at h
      have h : (if x.e.r = aboveS e.r then some (x.nm ++ [e.w]) else none) = some z := h
      by_cases h2 : x.e.r = aboveS e.r
      · rw [if_pos h2] at h
        cases h
        have hl := dp x (findN_mem hf).1
        rw [List.length_append, hl, h2]
        rcases okE_rank ok with q | q | q
        · exact absurd q h1
        · rw [q]
          show depthR (aboveS (Str.ofString "species")) + 1 = _
          decide +kernel
        · rw [q]
          show depthR (aboveS (Str.ofString "form")) + 1 = _
          decide +kernel
      · rw [if_neg h2] at h; cases h
theorem RsOk.nil : RsOk ⟨[], [], []⟩ := ⟨List.nodup_nil, rfl, fun _ h => (nomatch h), List.nodup_nil, fun _ h => (nomatch h), fun _ h => (nomatch h), fun _ h => (nomatch h), fun _ h => (nomatch h)⟩
theorem RsOk.step {s : Rs} {e : En} (h : RsOk s) (ok : okE e) (fr : e.n ∉ s.o.map (·.1)) : RsOk (stepE s e) := by
  have nd : ((stepE s e).o.map (·.1)).Nodup := by
    show ((s.o ++ [(e.n, outS s e)]).map (·.1)).Nodup
    rw [List.map_append, List.nodup_append]
    exact ⟨h.nd, List.nodup_cons.mpr ⟨List.not_mem_nil, List.nodup_nil⟩, fun x hx y hy z => fr (by rw [z, (List.mem_singleton.mp hy : y = e.n)] at hx; exact hx)⟩
  have nk : (stepE s e).n.map (·.1) = (stepE s e).o.map (·.1) := by
    show (s.n ++ [(e.n, nameE s.r e)]).map (·.1) = (s.o ++ [(e.n, outS s e)]).map (·.1)
    rw [List.map_append, List.map_append, h.nk]
    rfl
  have up : ∀ x ∈ s.r, x.e.n ∈ (stepE s e).o.map (·.1) := fun x hx => by
    show _ ∈ (s.o ++ [(e.n, outS s e)]).map (·.1)
    rw [List.map_append]
    exact List.mem_append_left _ (h.sub x hx)
  by_cases hr : outS s e = Str.ofString "right"
  · obtain ⟨z, hz, _, hb⟩ := outE_right hr
    have er : (stepE s e).r = s.r ++ [⟨e, z⟩] := by
      show (if outS s e = Str.ofString "right" then s.r ++ [⟨e, (nameE s.r e).getD []⟩] else s.r) = _
      rw [if_pos hr, hz]
      rfl
    have frr : e.n ∉ s.r.map (·.e.n) := fun q => by
      obtain ⟨x, hx, ex⟩ := List.mem_map.mp q
      exact fr (ex ▸ h.sub x hx)
    refine ⟨nd, nk, ?_, ?_, ?_, ?_, ?_, ?_⟩ <;> rw [er]
    · intro x hx
      rcases List.mem_append.mp hx with q | q
      · exact up x q
      · rw [List.mem_singleton.mp q]
        show _ ∈ (s.o ++ [(e.n, outS s e)]).map (·.1)
        rw [List.map_append]
        exact List.mem_append_right _ (List.mem_singleton.mpr rfl)
    · rw [List.map_append, List.nodup_append]
      exact ⟨h.rn, List.nodup_cons.mpr ⟨List.not_mem_nil, List.nodup_nil⟩, fun x hx y hy q => frr (by rw [q, (List.mem_singleton.mp hy : y = e.n)] at hx; exact hx)⟩
    · intro x hx
      show _ ∈ s.n ++ [(e.n, nameE s.r e)]
      rcases List.mem_append.mp hx with q | q
      · exact List.mem_append_left _ (h.nm x q)
      · rw [List.mem_singleton.mp q, hz]
        exact List.mem_append_right _ (List.mem_singleton.mpr rfl)
    · intro x hx
      rcases List.mem_append.mp hx with q | q
      · exact h.dp x q
      · rw [List.mem_singleton.mp q]
        exact nameE_len hz ok h.dp
    · intro x hx b hxb
      rcases List.mem_append.mp hx with q | q
      · obtain ⟨y, hy, r⟩ := h.bs x q b hxb
        exact ⟨y, findN_app hy, r⟩
      · rw [List.mem_singleton.mp q] at hxb ⊢
        obtain ⟨y, hy, r⟩ := hb b hxb
        exact ⟨y, findN_app hy, r⟩
    · intro x hx
      rcases List.mem_append.mp hx with q | q
      · exact h.ok x q
      · rw [List.mem_singleton.mp q]; exact ok
  · have er : (stepE s e).r = s.r := by
      show (if outS s e = Str.ofString "right" then s.r ++ [⟨e, (nameE s.r e).getD []⟩] else s.r) = _
      rw [if_neg hr]
    refine ⟨nd, nk, ?_, ?_, ?_, ?_, ?_, ?_⟩ <;> rw [er]
    · exact up
    · exact h.rn
    · intro x hx
      show _ ∈ s.n ++ [(e.n, nameE s.r e)]
      exact List.mem_append_left _ (h.nm x hx)
    · exact h.dp
    · exact h.bs
    · exact h.ok
theorem resE_keys : ∀ (es : List En), (resE es).o.map (·.1) = es.map (·.n) := by
  intro es
  unfold resE
  have : ∀ (es : List En) (s : Rs), (es.foldl stepE s).o.map (·.1) = s.o.map (·.1) ++ es.map (·.n) := by
    intro es
    induction es with
    | nil => intro s; rw [List.foldl_nil, List.map_nil, List.append_nil]
    | cons e r ih =>
      intro s
      rw [List.foldl_cons, ih]
      show (s.o ++ [(e.n, outS s e)]).map (·.1) ++ _ = _
      rw [List.map_append, List.append_assoc]
      rfl
  exact this es ⟨[], [], []⟩
theorem resE_ok {es : List En} (ok : ∀ e ∈ es, okE e) (nd : (es.map (·.n)).Nodup) : ∀ i, i ≤ es.length → RsOk (resE (es.take i)) := by
  intro i
  induction i with
  | zero => intro _; exact RsOk.nil
  | succ i ih =>
    intro hi
    have e1 : es[i]? = some es[i] := List.getElem?_eq_getElem (by omega)
    rw [take_one e1, resE_snoc]
    refine (ih (by omega)).step (ok _ (List.getElem_mem _)) fun z => ?_
    rw [resE_keys] at z
    have := nd
    have e2 : es.map (·.n) = (es.take i).map (·.n) ++ es[i].n :: (es.drop (i + 1)).map (·.n) := by
      rw [← List.map_cons, List.getElem_cons_drop, ← List.map_append, List.take_append_drop]
    rw [e2, List.nodup_append] at this
    exact this.2.2 _ z _ (List.mem_cons_self ..) rfl
theorem book_nd : ∀ {es : List En} {seen : List Int} {last : Option En}, bookOk seen last (es.map some) = true → (es.map (·.n)).Nodup ∧ ∀ e ∈ es, e.n ∉ seen
  | [], _, _, _ => ⟨List.nodup_nil, fun _ h => nomatch h⟩
  | e :: r, seen, last, h => by
    have h : (!seen.contains e.n && (lastOk last e && bookOk (seen ++ [e.n]) (some e) (r.map some))) = true := h
    rw [Bool.and_eq_true, Bool.and_eq_true] at h
    obtain ⟨h1, _, h2⟩ := h
    obtain ⟨i1, i2⟩ := book_nd h2
    have n1 : e.n ∉ seen := fun z => by
      rw [List.contains_iff_mem.mpr z] at h1
      cases h1
    refine ⟨List.nodup_cons.mpr ⟨fun z => ?_, i1⟩, fun x hx => ?_⟩
    · obtain ⟨x, hx, ex⟩ := List.mem_map.mp z
      exact i2 x hx (ex ▸ List.mem_append_right _ (List.mem_singleton.mpr rfl))
    · rcases List.mem_cons.mp hx with q | q
      · rw [q]; exact n1
      · exact fun z => i2 x q (List.mem_append_left _ z)
/-! ### in the heap -/
structure RA where
  a : Addr
  dx : Addr
  o1 : Addr
  o2 : Addr
  o3 : Addr
  o4 : Addr
def NameV (H : Hp) (v : V) (nm : Option (List Str)) : Prop := match nm with | none => v = .non | some z => ∃ t, v = .ref t ∧ H t = some (.tup (z.map V.str))
theorem NameV.same {H H' : Hp} {v : V} {nm : Option (List Str)} (h : NameV H v nm) (s : ∀ t xs, H t = some (.tup xs) → H' t = some (.tup xs)) : NameV H' v nm := by
  cases nm with
  | none => exact h
  | some z => obtain ⟨t, e, h⟩ := h; exact ⟨t, e, s _ _ h⟩
theorem EntAt.keep {H H' : Hp} {C : Addr} {v : V} {e : En} (h : EntAt H C v e) (s : ∀ t dx fs, H t = some (.ins C dx fs) → H' t = some (.ins C dx fs)) : EntAt H' C v e := let ⟨a, dx, e1, h1⟩ := h; ⟨a, dx, e1, s _ _ _ h1⟩
def resF (A : RA) : List (Str × V) := [("outs", .ref A.o1), ("names", .ref A.o2), ("rights", .ref A.o3), ("holders", .ref A.o4)]
def RightP (H : Hp) (CE : Addr) (x : Rt) (q : Key × V) : Prop := q.1 = Sum.inl x.e.n ∧ EntAt H CE q.2 x.e
def HoldP (H : Hp) (CE : Addr) (x : Rt) (q : List Key × V) : Prop := q.1 = x.nm.map Sum.inr ∧ EntAt H CE q.2 x.e
def NameP (H : Hp) (x : Int × Option (List Str)) (q : Key × V) : Prop := q.1 = Sum.inl x.1 ∧ NameV H q.2 x.2
def outsD (s : Rs) : List (Key × V) := s.o.map fun p => (Sum.inl p.1, .str p.2)
structure ResAt (H : Hp) (CR CE : Addr) (A : RA) (s : Rs) : Prop where
  at_ : H A.a = some (.ins CR A.dx (resF A))
  outs : H A.o1 = some (.dK (outsD s))
  names : ∃ kn, H A.o2 = some (.dK kn) ∧ Paired (NameP H) s.n kn
  rights : ∃ kr, H A.o3 = some (.dK kr) ∧ Paired (RightP H CE) s.r kr
  holders : ∃ kh, H A.o4 = some (.dT kh) ∧ Paired (HoldP H CE) s.r kh
  d12 : A.o1 ≠ A.o2
  d13 : A.o1 ≠ A.o3
  d23 : A.o2 ≠ A.o3
/-- all but its dicts stays -/
def FrR (A : RA) (H H' : Hp) : Prop := ∀ b u, b ≠ A.o1 → b ≠ A.o2 → b ≠ A.o3 → b ≠ A.o4 → H b = some u → H' b = some u
theorem ResAt.same {H H' : Hp} {CR CE : Addr} {A : RA} {s : Rs} (h : ResAt H CR CE A s) (sm : Same H H') : ResAt H' CR CE A s := by
  obtain ⟨a, b, ⟨kn, n1, n2⟩, ⟨kr, r1, r2⟩, ⟨kh, h1, h2⟩, d1, d2, d3⟩ := h
  exact ⟨sm _ _ a, sm _ _ b, ⟨kn, sm _ _ n1, Paired.mapP n2 fun x q z => ⟨z.1, z.2.same fun t xs e => sm _ _ e⟩⟩, ⟨kr, sm _ _ r1, Paired.mapP r2 fun x q z => ⟨z.1, z.2.same sm⟩⟩, ⟨kh, sm _ _ h1, Paired.mapP h2 fun x q z => ⟨z.1, z.2.same sm⟩⟩, d1, d2, d3⟩
theorem FrR.refl (A : RA) (H : Hp) : FrR A H H := fun b u _ _ _ _ h => h
theorem FrR.trans {A : RA} {H H1 H2 : Hp} (a : FrR A H H1) (b : FrR A H1 H2) : FrR A H H2 := fun c u n1 n2 n3 n4 h => b c u n1 n2 n3 n4 (a c u n1 n2 n3 n4 h)
theorem Same.frR {A : RA} {H H' : Hp} (s : Same H H') : FrR A H H' := fun b u _ _ _ _ h => s b u h
theorem rights_at {H : Hp} {CE : Addr} {R : List Rt} {kr : List (Key × V)} (h : Paired (RightP H CE) R kr) (n : Int) : (findN R n = none ∧ valV kr (Sum.inl n) = none) ∨ ∃ x v, findN R n = some x ∧ valV kr (Sum.inl n) = some v ∧ EntAt H CE v x.e := by
  induction h with
  | nil => exact .inl ⟨rfl, rfl⟩
  | @cons x q R kr hq t ih =>
    obtain ⟨h1, h2⟩ := hq
    by_cases e : x.e.n = n
    · refine .inr ⟨x, q.2, ?_, ?_, h2⟩
      · unfold findN; rw [List.find?_cons_of_pos (p := fun y : Rt => decide (y.e.n = n)) (decide_eq_true e)]
      · rw [valV_pos (by rw [h1, e])]
    · have e1 : findN (x :: R) n = findN R n := by unfold findN; rw [List.find?_cons_of_neg (p := fun y : Rt => decide (y.e.n = n)) (by rw [decide_eq_false e]; decide)]
      rw [e1, valV_neg (by rw [h1]; exact fun z => e (Sum.inl.inj z))]
      exact ih
theorem names_at {H : Hp} {ns : List (Int × Option (List Str))} {kn : List (Key × V)} (h : Paired (NameP H) ns kn) (nd : (ns.map (·.1)).Nodup) {n : Int} {nm : Option (List Str)} (hm : (n, nm) ∈ ns) : ∃ v, valV kn (Sum.inl n) = some v ∧ NameV H v nm := by
  induction h with
  | nil => cases hm
  | @cons x q ns kn hq t ih =>
    obtain ⟨h1, h2⟩ := hq
    rw [List.map_cons, List.nodup_cons] at nd
    rcases List.mem_cons.mp hm with e | e
    · subst e
      exact ⟨q.2, valV_pos (by rw [h1]), h2⟩
    · have ne : x.1 ≠ n := fun z => nd.1 (by rw [z]; exact List.mem_map_of_mem (f := fun p : Int × Option (List Str) => p.1) e)
      rw [valV_neg (by rw [h1]; exact fun z => ne (Sum.inl.inj z))]
      exact ih nd.2 e
theorem map_inr_inj : ∀ {a b : List Str}, a.map (Sum.inr : Str → Key) = b.map Sum.inr → a = b
  | [], [], _ => rfl
  | [], _ :: _, h => by cases h
  | _ :: _, [], h => by cases h
  | x :: a, y :: b, h => by
    rw [List.map_cons, List.map_cons] at h
    injection h with h1 h2
    rw [Sum.inr.inj h1, map_inr_inj h2]
theorem holders_at {H : Hp} {CE : Addr} {R : List Rt} {kh : List (List Key × V)} (h : Paired (HoldP H CE) R kh) (z : List Str) : (valV kh (z.map Sum.inr)).isSome = R.any (fun x => decide (x.nm = z)) := by
  induction h with
  | nil => rfl
  | @cons x q R kh hq t ih =>
    obtain ⟨h1, h2⟩ := hq
    rw [List.any_cons]
    by_cases e : x.nm = z
    · rw [valV_pos (by rw [h1, e]), decide_eq_true e]; rfl
    · rw [valV_neg (by rw [h1]; exact fun q => e (map_inr_inj q)), decide_eq_false e, Bool.false_or]
      exact ih
theorem outs_none {s : Rs} {n : Int} (h : n ∉ s.o.map (·.1)) : valV (outsD s) (Sum.inl n) = none := by
  unfold outsD
  generalize s.o = l at h
  induction l with
  | nil => rfl
  | cons p r ih =>
    rw [List.map_cons] at h ⊢
    rw [valV_neg (fun z => h (by rw [← Sum.inl.inj z]; exact List.mem_cons_self ..))]
    exact ih fun z => h (List.mem_cons_of_mem _ z)
theorem putK_new {κ : Type} [DecidableEq κ] {kvs : List (κ × V)} {k : κ} {v : V} (h : valV kvs k = none) : putK kvs k v = kvs ++ [(k, v)] := by
  unfold putK
  rw [if_neg (by rw [valV_any, h]; decide)]
theorem names_none {H : Hp} {ns : List (Int × Option (List Str))} {kn : List (Key × V)} (h : Paired (NameP H) ns kn) {n : Int} (hm : n ∉ ns.map (·.1)) : valV kn (Sum.inl n) = none := by
  induction h with
  | nil => rfl
  | @cons x q ns kn hq t ih =>
    rw [List.map_cons] at hm
    rw [valV_neg (by rw [hq.1]; exact fun z => hm (by rw [← Sum.inl.inj z]; exact List.mem_cons_self ..))]
    exact ih fun z => hm (List.mem_cons_of_mem _ z)
theorem key_strs (z : List Str) : (z.map (Sum.inr : Str → Key)).map kV = z.map V.str := by rw [List.map_map]; rfl
def spTabE (K : PySem.W.Frag) : Sp := fun vs H Q _ => ∃ z, vs = [.str z] ∧ (z = Str.ofString "species" ∨ z = Str.ofString "form") ∧ Q (.str (aboveS z)) H
def spResInit (CR CE : Addr) : Sp := fun vs H Q _ => ∃ a dx, vs = [.ref a] ∧ H a = some (.ins CR dx []) ∧ ∀ A H', A.a = a → A.dx = dx → (∀ b u, b ≠ a → H b = some u → H' b = some u) → ResAt H' CR CE A ⟨[], [], []⟩ → H A.o1 = none → H A.o2 = none → H A.o3 = none → H A.o4 = none → Q .non H'
def spNameOf (CR CE : Addr) : Sp := fun vs H Q _ => ∃ A s v e, vs = [.ref A.a, v] ∧ ResAt H CR CE A s ∧ RsOk s ∧ EntAt H CE v e ∧ okE e ∧ ∀ w H', Same H H' → NameV H' w (nameE s.r e) → Q w H'
def spOutOf (CR CE : Addr) : Sp := fun vs H Q _ => ∃ A s v e w nm, vs = [.ref A.a, v, w] ∧ ResAt H CR CE A s ∧ EntAt H CE v e ∧ okE e ∧ NameV H w nm ∧ Q (.str (outE s.r e nm)) H
def spPutR (CR CE : Addr) : Sp := fun vs H Q _ => ∃ A s v e, vs = [.ref A.a, v] ∧ ResAt H CR CE A s ∧ RsOk s ∧ EntAt H CE v e ∧ okE e ∧ e.n ∉ s.o.map (·.1) ∧ s.o.length ≤ 1000 ∧ ∀ H', FrR A H H' → ResAt H' CR CE A (stepE s e) → Q (.str (outS s e)) H'
def GoodB (H : Hp) (CE : Addr) (x : V) (es : List En) : Prop := ∃ l ws, x = .ref l ∧ H l = some (.lst ws) ∧ EntsAt H CE ws es ∧ (∀ e ∈ es, okE e) ∧ ws.length ≤ 1000 ∧ bookOk [] none (es.map some) = true
theorem GoodB.same {H H' : Hp} {CE : Addr} {x : V} {es : List En} (h : GoodB H CE x es) (s : Same H H') : GoodB H' CE x es := let ⟨l, ws, e, h1, h2, r⟩ := h; ⟨l, ws, e, s _ _ h1, h2.same s, r⟩
def lastW : Option En → List En → Option En
  | o, [] => o
  | _, x :: r => lastW (some x) r
theorem lastW_mem : ∀ {es : List En} {o : Option En} {x : En}, lastW o es = some x → o = some x ∨ x ∈ es
  | [], _, _, h => .inl h
  | y :: r, _, _, h => by
    rcases lastW_mem (es := r) h with q | q
    · cases q; exact .inr (List.mem_cons_self ..)
    · exact .inr (List.mem_cons_of_mem _ q)
theorem book_add : ∀ (es : List En) (seen : List Int) (last : Option En) (e : En), bookOk seen last (es.map some) = true → e.n ∉ seen → (∀ x ∈ es, x.n ≠ e.n) → lastOk (lastW last es) e = true → bookOk seen last ((es ++ [e]).map some) = true
  | [], seen, last, e, _, h1, _, h3 => by
    show (!seen.contains e.n && (lastOk last e && true)) = true
    have h3 : lastOk last e = true := h3
    have h1' : seen.contains e.n = false := by
      cases q : seen.contains e.n with
      | false => rfl
      | true => exact absurd (List.contains_iff_mem.mp q) h1
    rw [h1', h3]
    rfl
  | x :: r, seen, last, e, h, h1, h2, h3 => by
    have h : (!seen.contains x.n && (lastOk last x && bookOk (seen ++ [x.n]) (some x) (r.map some))) = true := h
    show (!seen.contains x.n && (lastOk last x && bookOk (seen ++ [x.n]) (some x) ((r ++ [e]).map some))) = true
    rw [Bool.and_eq_true, Bool.and_eq_true] at h ⊢
    refine ⟨h.1, h.2.1, book_add r _ _ e h.2.2 (fun z => ?_) (fun y hy => h2 y (List.mem_cons_of_mem _ hy)) h3⟩
    rcases List.mem_append.mp z with q | q
    · exact h1 q
    · exact h2 x (List.mem_cons_self ..) (List.mem_singleton.mp q).symm
theorem ahead_of {x e : En} (hd : x.d ≤ e.d) (hn : x.n < e.n) : aheadE x e = true := by
  show (if x.d = e.d then (if x.n = e.n then false else decide (x.n < e.n)) else decide (x.d < e.d)) = true
  by_cases h : x.d = e.d
  · rw [if_pos h, if_neg (by omega), decide_eq_true hn]
  · rw [if_neg h, decide_eq_true (by omega)]
/-- by rising numbers, and days that do not fall -/
structure Rise (es : List En) (n d : Int) : Prop where
  bk : bookOk [] none (es.map some) = true
  le : ∀ e ∈ es, e.n ≤ n ∧ e.d ≤ d
theorem Rise.nil (n d : Int) : Rise [] n d := ⟨rfl, fun _ h => nomatch h⟩
theorem Rise.add {es : List En} {n d : Int} {e : En} (h : Rise es n d) (hn : n < e.n) (hd : d ≤ e.d) : Rise (es ++ [e]) e.n e.d := by
  refine ⟨book_add es [] none e h.bk List.not_mem_nil (fun x hx z => by have := (h.le x hx).1; omega) ?_, fun x hx => ?_⟩
  · cases q : lastW none es with
    | none => rfl
    | some x =>
      rcases lastW_mem q with z | z
      · cases z
      · have := h.le x z
        exact ahead_of (by omega) (by omega)
  · rcases List.mem_append.mp hx with q | q
    · have := h.le x q
      exact ⟨by omega, by omega⟩
    · rw [List.mem_singleton.mp q]; exact ⟨Int.le_refl _, Int.le_refl _⟩
theorem okE_of {e : En} (h1 : inR 1000000000 (.int e.n) = true) (h2 : inR 1000000 (.int e.d) = true) (h3 : isRank (.str e.r) = true) (h4 : isWord (.str e.w) = true) (h5 : underFits (.str e.r) (optV e.u) = true) (h6 : tieFits (.str e.r) (optV e.s) (optV e.b) = true) : okE e := by
  have hw : whyH (.int e.n) (.int e.d) (.str e.r) (.str e.w) = 0 := by
    unfold whyH
    rw [if_neg (by rw [h1]; decide), if_neg (by rw [h2]; decide), if_neg (by rw [h3]; decide), if_neg (by rw [h4]; decide)]
  unfold okE why
  rw [hw, if_neg (fun z => z rfl), if_neg (by rw [h5]; decide), if_neg (by rw [h6]; decide)]
def spMixC : Sp := fun vs H Q _ => ∃ n k, vs = [.int n, .int k] ∧ 0 ≤ k ∧ k < 1000 ∧ ∀ r, 0 ≤ r → r < 2147483629 → Q (.int r) H
theorem isWord_le {z : Str} (h : isWord (.str z) = true) : z.length ≤ 12 ∧ 1 ≤ z.length ∧ z.cps.toList.all letter = true := by
  rw [isWord_str, Bool.and_eq_true, Bool.and_eq_true] at h
  have h1 := of_decide_eq_true h.1.1
  have h2 := of_decide_eq_true h.1.2
  exact ⟨by omega, by omega, h.2⟩
theorem isWord_of {z : Str} (h1 : 1 ≤ z.length) (h2 : z.length ≤ 12) (h3 : z.cps.toList.all letter = true) : isWord (.str z) = true := by
  rw [isWord_str, h3, decide_eq_true (by omega), decide_eq_true (by omega)]
  rfl
def RowG (H : Hp) (v : V) (e : En) : Prop := ∃ a s, v = .ref a ∧ e.s = some s ∧ H a = some (.lst [.int e.n, .int e.d, .str e.w, .int s, .bl e.k])
theorem RowG.same {H H' : Hp} {v : V} {e : En} (h : RowG H v e) (s : Same H H') : RowG H' v e := let ⟨a, x, e1, e2, h1⟩ := h; ⟨a, x, e1, e2, s _ _ h1⟩
def RowsG (H : Hp) (ws : List V) (es : List En) : Prop := ws.length = es.length ∧ ∀ (j : Nat) v e, ws[j]? = some v → es[j]? = some e → RowG H v e
theorem RowsG.same {H H' : Hp} {ws : List V} {es : List En} (h : RowsG H ws es) (s : Same H H') : RowsG H' ws es := ⟨h.1, fun j v e a b => (h.2 j v e a b).same s⟩
theorem rel_push {α : Type} {P : V → α → Prop} {ws : List V} {es : List α} {w : V} {e : α} (h : ws.length = es.length ∧ ∀ (j : Nat) v e, ws[j]? = some v → es[j]? = some e → P v e) (hw : P w e) : (ws ++ [w]).length = (es ++ [e]).length ∧ ∀ (j : Nat) v x, (ws ++ [w])[j]? = some v → (es ++ [e])[j]? = some x → P v x := by
  refine ⟨by rw [List.length_append, List.length_append, h.1]; rfl, fun j v x hv hx => ?_⟩
  by_cases hj : j < ws.length
  · rw [List.getElem?_append_left hj] at hv
    rw [List.getElem?_append_left (by rw [← h.1]; exact hj)] at hx
    exact h.2 j v x hv hx
  · rw [List.getElem?_append_right (by omega)] at hv
    rw [List.getElem?_append_right (by rw [← h.1]; omega)] at hx
    obtain ⟨h1, e1⟩ := List.getElem?_eq_some_iff.mp hv
    have j0 : j - ws.length = 0 := by simpa using h1
    rw [j0] at hv
    rw [← h.1, j0] at hx
    cases Option.some.inj hv
    cases Option.some.inj hx
    exact hw
theorem RowsG.ne {H : Hp} {l a : Addr} {ws r : List V} {es : List En} {n : Int} (hR : RowsG H ws es) (hL : H l = some (.lst ws)) (ha : H a = some (.lst (.int n :: r))) : a ≠ l := fun z => by
  rw [z, hL] at ha
  have e : ws = .int n :: r := by injection ha with ha; injection ha
  have h0 : ws[0]? = some (.int n) := by rw [e]; rfl
  have hl : 0 < es.length := by rw [← hR.1, e]; exact Nat.succ_pos _
  obtain ⟨_, _, q, _⟩ := hR.2 0 _ _ h0 (List.getElem?_eq_getElem hl)
  cases q
/-- a dict of numbers; a like one -/
def LikeD (K : PySem.W.Frag) (H : Hp) (ka kb : List (Key × V)) : Prop := ka.length = kb.length ∧ (∀ p ∈ ka, ∃ y, valV kb p.1 = some y ∧ EqD K H 2 p.2 y true) ∧ ∀ p ∈ ka, ∃ n : Int, p.1 = Sum.inl n
theorem valV_self {kvs : List (Key × V)} (nd : (kvs.map (·.1)).Nodup) {p : Key × V} (h : p ∈ kvs) : valV kvs p.1 = some p.2 := by
  induction kvs with
  | nil => cases h
  | cons q r ih =>
    rw [List.map_cons, List.nodup_cons] at nd
    rcases List.mem_cons.mp h with e | e
    · subst e; exact valV_pos rfl
    · rw [valV_neg (fun z => nd.1 (by rw [z]; exact List.mem_map_of_mem (f := fun p : Key × V => p.1) e))]
      exact ih nd.2 e
theorem LikeD.refl {K : PySem.W.Frag} {H : Hp} {ka : List (Key × V)} (nd : (ka.map (·.1)).Nodup) (hf : ∀ p ∈ ka, flatV p.2 = true) (hn : ∀ p ∈ ka, ∃ n : Int, p.1 = Sum.inl n) : LikeD K H ka ka :=
  ⟨rfl, fun p hp => ⟨p.2, valV_self nd hp, .inl (.inl ⟨hf p hp, hf p hp, (eqV_self (hf p hp)).symm⟩)⟩, hn⟩
theorem atI_ix {α : Type} {xs : List α} {i : Int} (h0 : 0 ≤ i) (h1 : i < xs.length) : ∃ j v, j < xs.length ∧ xs[j]? = some v ∧ atI xs i = some v ∧ ixN xs.length i = some j := by
  have hj : i.toNat < xs.length := by omega
  refine ⟨i.toNat, xs[i.toNat], hj, List.getElem?_eq_getElem hj, atI_toNat h0 (List.getElem?_eq_getElem hj), ?_⟩
  unfold ixN
  rw [if_pos h0, if_pos h1]
def rowU (e : En) : List V := [.int e.n, .int e.d, .str e.r, .str e.w, optV e.u, .bl e.k]
def RowU (H : Hp) (v : V) (e : En) : Prop := ∃ a, v = .ref a ∧ H a = some (.lst (rowU e))
theorem RowU.same {H H' : Hp} {v : V} {e : En} (h : RowU H v e) (s : Same H H') : RowU H' v e := let ⟨a, e1, h1⟩ := h; ⟨a, e1, s _ _ h1⟩
def RowsU (H : Hp) (ws : List V) (es : List En) : Prop := ws.length = es.length ∧ ∀ (j : Nat) v e, ws[j]? = some v → es[j]? = some e → RowU H v e
theorem RowsU.same {H H' : Hp} {ws : List V} {es : List En} (h : RowsU H ws es) (s : Same H H') : RowsU H' ws es := ⟨h.1, fun j v e a b => (h.2 j v e a b).same s⟩
theorem RowsU.ne {H : Hp} {l a : Addr} {ws r : List V} {es : List En} {n : Int} (hR : RowsU H ws es) (hL : H l = some (.lst ws)) (ha : H a = some (.lst (.int n :: r))) : a ≠ l := fun z => by
  rw [z, hL] at ha
  have e : ws = .int n :: r := by injection ha with ha; injection ha
  have h0 : ws[0]? = some (.int n) := by rw [e]; rfl
  have hl : 0 < es.length := by rw [← hR.1, e]; exact Nat.succ_pos _
  obtain ⟨_, q, _⟩ := hR.2 0 _ _ h0 (List.getElem?_eq_getElem hl)
  cases q
theorem same_put {H G : Hp} {l : Addr} {o : HO} (h : H l = none) (s : Same H G) : Same H (upd G l o) := fun b u hb => by
  rw [upd_ne (ne_of_none hb h)]
  exact s _ _ hb
theorem join_ones : ∀ ys : List Str, (∀ y ∈ ys, y.length = 1 ∧ y.cps.toList.all letter = true) → (Str.join (Str.ofString "") ys).length = ys.length ∧ (Str.join (Str.ofString "") ys).cps.toList.all letter = true
  | [], _ => ⟨rfl, rfl⟩
  | [x], h => h x (List.mem_cons_self ..)
  | x :: y :: r, h => by
    have h1 := h x (List.mem_cons_self ..)
    have h2 := join_ones (y :: r) fun z hz => h z (List.mem_cons_of_mem _ hz)
    have e : Str.join (Str.ofString "") (x :: y :: r) = x ++ Str.ofString "" ++ Str.join (Str.ofString "") (y :: r) := rfl
    have e0 : (Str.ofString "").length = 0 := by decide +kernel
    have e1 : (Str.ofString "").cps.toList.all letter = true := by decide +kernel
    rw [e, Str.length_append, Str.length_append, all_app, all_app, h1.1, h1.2, h2.1, h2.2, e0, e1]
    exact ⟨by show _ = (y :: r).length + 1; omega, rfl⟩
theorem join_word {ys : List Str} (h : ∀ y ∈ ys, y.length = 1 ∧ y.cps.toList.all letter = true) (l1 : 1 ≤ ys.length) (l2 : ys.length ≤ 12) : isWord (.str (Txt.join (Str.ofString "") ys)) = true := by
  have e : Txt.join (Str.ofString "") ys = Str.join (Str.ofString "") ys := StrLaws.glued_eq_join _ _
  rw [e]
  obtain ⟨q1, q2⟩ := join_ones ys h
  exact isWord_of (by omega) (by omega) q2
theorem ones_sum : ∀ ys : List Str, (∀ y ∈ ys, y.length = 1 ∧ y.cps.toList.all letter = true) → (ys.map (·.length)).sum = ys.length
  | [], _ => rfl
  | x :: r, h => by
    rw [List.map_cons, List.sum_cons, (h x (List.mem_cons_self ..)).1, ones_sum r fun z hz => h z (List.mem_cons_of_mem _ hz), List.length_cons]
    omega
def Drawn (d : Int) : Prop := 0 ≤ d ∧ d < 10000000000
def spDraws : Sp := fun vs H Q _ => ∃ n k fr, vs = [.int n, .int k, .bl fr] ∧ 0 ≤ k ∧ k < 100 ∧ ∀ (ds : List Int) l H', ds.length = 10 → (∀ d ∈ ds, Drawn d) → Same H H' → H l = none → H' l = some (.lst (ds.map V.int)) → Q (.ref l) H'
def spWordsF (m : Nat) : Sp := fun vs H Q _ => ∃ n fr, vs = [.int n, .bl fr] ∧ ∀ (zs : List Str) l H', zs.length = m → (∀ z ∈ zs, isWord (.str z) = true) → Same H H' → H l = none → H' l = some (.lst (zs.map V.str)) → Q (.ref l) H'
def spAnyW : Sp := fun vs H Q _ => ∃ n, vs = [.int n] ∧ ∀ z, isWord (.str z) = true → Q (.str z) H
theorem push_drawn {ds : List Int} {x : Int} (h : ∀ d ∈ ds, Drawn d) (hx : Drawn x) : ∀ d ∈ ds ++ [x], Drawn d := fun d hd => by
  rcases List.mem_append.mp hd with q | q
  · exact h d q
  · rw [List.mem_singleton.mp q]; exact hx
/-- a row of the drawn book -/
def rowB (e : En) : List V := [.int e.n, .int e.d, .str e.r, .str e.w, optV e.u, optV e.s, optV e.b, .bl e.k]
def RowB (H : Hp) (v : V) (e : En) : Prop := ∃ a, v = .ref a ∧ H a = some (.lst (rowB e))
theorem RowB.same {H H' : Hp} {v : V} {e : En} (h : RowB H v e) (s : Same H H') : RowB H' v e := let ⟨a, e1, h1⟩ := h; ⟨a, e1, s _ _ h1⟩
def RowsB (H : Hp) (ws : List V) (es : List En) : Prop := ws.length = es.length ∧ ∀ (j : Nat) v e, ws[j]? = some v → es[j]? = some e → RowB H v e
theorem RowsB.same {H H' : Hp} {ws : List V} {es : List En} (h : RowsB H ws es) (s : Same H H') : RowsB H' ws es := ⟨h.1, fun j v e a b => (h.2 j v e a b).same s⟩
/-- a drawn book so far: well ordered, numbers and days within what so many draws can reach -/
structure BkB (es : List En) : Prop where
  bk : bookOk [] none (es.map some) = true
  ok : ∀ e ∈ es, okE e
  nn : ∀ e ∈ es, 1 ≤ e.n ∧ e.n ≤ 999000000 + 2000 * es.length
  dd : ∀ e ∈ es, 1 ≤ e.d ∧ e.d ≤ 9000 * es.length
  le : es.length ≤ 84
theorem lastW_snoc : ∀ (es : List En) (o : Option En) (e : En), lastW o (es ++ [e]) = some e
  | [], _, _ => rfl
  | x :: r, _, e => lastW_snoc r (some x) e
theorem RowsB.last {H : Hp} {ws : List V} {es : List En} (h : RowsB H ws es) (hw : ws ≠ []) : ∃ e ra, lastW none es = some e ∧ e ∈ es ∧ atI ws (-1) = some (.ref ra) ∧ H ra = some (.lst (rowB e)) := by
  have hl := h.1
  have he : es ≠ [] := fun z => hw (List.eq_nil_of_length_eq_zero (by rw [hl, z]; rfl))
  obtain ⟨w0, wv, rfl⟩ : ∃ w0 wv, ws = w0 ++ [wv] := ⟨_, _, (List.dropLast_concat_getLast hw).symm⟩
  obtain ⟨e0, ev, rfl⟩ : ∃ e0 ev, es = e0 ++ [ev] := ⟨_, _, (List.dropLast_concat_getLast he).symm⟩
  have hl0 : w0.length = e0.length := by
    rw [List.length_append, List.length_append] at hl
    exact Nat.succ.inj hl
  obtain ⟨ra, rfl, hr⟩ := h.2 w0.length wv ev (by simp) (by rw [hl0]; simp)
  exact ⟨ev, ra, lastW_snoc _ _ _, by simp, atI_last _ _, hr⟩
theorem flatI (ns : List Int) : (ns.map V.int).all flatV = true := by
  rw [List.all_eq_true]
  intro x hx
  obtain ⟨z, _, rfl⟩ := List.mem_map.mp hx
  rfl
theorem inV_ints {n : Int} : ∀ {ns : List Int}, inV (.int n) (ns.map V.int) = true ↔ n ∈ ns := by
  intro ns
  unfold inV
  rw [List.any_eq_true]
  constructor
  · rintro ⟨v, hv, q⟩
    obtain ⟨z, hz, rfl⟩ := List.mem_map.mp hv
    have : z = n := by simpa [eqV] using q
    exact this ▸ hz
  · intro h
    exact ⟨_, List.mem_map_of_mem h, by simp [eqV]⟩
def spStamp : Sp := fun vs H Q _ => ∃ l ws es x y, vs = [.ref l, .int x, .int y] ∧ H l = some (.lst ws) ∧ RowsB H ws es ∧ BkB es ∧ es.length < 84 ∧ Drawn x ∧ Drawn y ∧ ∀ (n d : Int) t H', Same H H' → H' t = some (.tup [.int n, .int d]) → (∀ e ∈ es, e.n ≠ n) → 1 ≤ n → n ≤ 999000000 + 2000 * (es.length + 1) → 1 ≤ d → d ≤ 9000 * (es.length + 1) → (∀ e, lastW none es = some e → e.d < d ∨ e.d = d ∧ e.n < n) → Q (.ref t) H'
def Some (H : Hp) (es : List En) (acc : List V) : Prop := acc.length ≤ es.length ∧ ∀ v ∈ acc, ∃ e ∈ es, RowB H v e
theorem Some.same {H H' : Hp} {es : List En} {acc : List V} (h : Some H es acc) (s : Same H H') : Some H' es acc := ⟨h.1, fun v hv => let ⟨e, he, hr⟩ := h.2 v hv; ⟨e, he, hr.same s⟩⟩
theorem RowsB.some {H : Hp} {ws : List V} {es : List En} (h : RowsB H ws es) : Some H es ws := ⟨by rw [h.1]; exact Nat.le_refl _, fun v hv => by
  obtain ⟨j, hj⟩ := List.getElem?_of_mem hv
  have hl : j < es.length := by rw [← h.1]; exact (List.getElem?_eq_some_iff.mp hj).1
  exact ⟨_, List.getElem_mem hl, h.2 j v _ hj (List.getElem?_eq_getElem hl)⟩⟩
def spPick : Sp := fun vs H Q _ => ∃ l ws es rk x y, vs = [.ref l, .str rk, .int x, .int y] ∧ H l = some (.lst ws) ∧ RowsB H ws es ∧ BkB es ∧ es ≠ [] ∧ ∀ (r : Int) H', Same H H' → 1 ≤ r → r ≤ 1000000000 → Q (.int r) H'
def spBaseB : Sp := fun vs H Q _ => ∃ l ws es rk x y, vs = [.ref l, .str rk, .int x, .int y] ∧ H l = some (.lst ws) ∧ RowsB H ws es ∧ BkB es ∧ es ≠ [] ∧ ∀ v e H', Same H H' → e ∈ es → RowB H' v e → Q v H'
/-- an entry that may stand behind the book -/
structure NextE (es : List En) (e : En) : Prop where
  ok : okE e
  nw : ∀ x ∈ es, x.n ≠ e.n
  n1 : 1 ≤ e.n
  n2 : e.n ≤ 999000000 + 2000 * (es.length + 1)
  d1 : 1 ≤ e.d
  d2 : e.d ≤ 9000 * (es.length + 1)
  la : ∀ x, lastW none es = some x → x.d < e.d ∨ x.d = e.d ∧ x.n < e.n
def spEntry : Sp := fun vs H Q _ => ∃ l ws es wl, ∃ zs : List Str, ∃ n i fr, vs = [.ref l, .ref wl, .int n, .int i, .bl fr] ∧ H l = some (.lst ws) ∧ RowsB H ws es ∧ BkB es ∧ es.length < 84 ∧ H wl = some (.lst (zs.map V.str)) ∧ zs.length = 4 ∧ (∀ z ∈ zs, isWord (.str z) = true) ∧ 0 ≤ i ∧ i < 100 ∧ ∀ v e H', Same H H' → RowB H' v e → NextE es e → Q v H'
theorem BkB.add {es : List En} {e : En} (h : BkB es) (n : NextE es e) (hl : es.length < 84) : BkB (es ++ [e]) := by
  have ll : ((es ++ [e]).length : Int) = es.length + 1 := by rw [List.length_append]; rfl
  have mem : ∀ x ∈ es ++ [e], x ∈ es ∨ x = e := fun x hx => (List.mem_append.mp hx).imp id List.mem_singleton.mp
  refine ⟨book_add es [] none e h.bk List.not_mem_nil n.nw ?_, fun x hx => ?_, fun x hx => ?_, fun x hx => ?_, ?_⟩
  · cases q : lastW none es with
    | none => rfl
    | some x =>
      show aheadE x e = true
      show (if x.d = e.d then (if x.n = e.n then false else decide (x.n < e.n)) else decide (x.d < e.d)) = true
      rcases n.la x q with z | z
      · rw [if_neg (by omega), decide_eq_true z]
      · rw [if_pos z.1, if_neg (by omega), decide_eq_true z.2]
  · rcases mem x hx with q | rfl
    · exact h.ok x q
    · exact n.ok
  · rw [ll]
    rcases mem x hx with q | rfl
    · have := h.nn x q
      exact ⟨this.1, by omega⟩
    · exact ⟨n.n1, n.n2⟩
  · rw [ll]
    rcases mem x hx with q | rfl
    · have := h.dd x q
      exact ⟨this.1, by omega⟩
    · exact ⟨n.d1, n.d2⟩
  · omega
theorem BkB.nil : BkB [] := ⟨rfl, fun _ h => (nomatch h), fun _ h => (nomatch h), fun _ h => (nomatch h), Nat.zero_le _⟩
theorem RowB.ne {H : Hp} {ws : List V} {es : List En} {l a : Addr} {e : En} (hR : RowsB H ws es) (hL : H l = some (.lst ws)) (ha : H a = some (.lst (rowB e))) : a ≠ l := fun z => by
  rw [z, hL] at ha
  have e' : ws = rowB e := by injection ha with ha; injection ha
  have h0 : ws[0]? = some (.int e.n) := by rw [e']; rfl
  have hl : 0 < es.length := by rw [← hR.1, e']; exact Nat.succ_pos _
  obtain ⟨_, q, _⟩ := hR.2 0 _ _ h0 (List.getElem?_eq_getElem hl)
  cases q
def spBookB (K : PySem.W.Frag) : Sp := fun vs H Q _ => ∃ (a : Addr) (st : Int) (ns : List Int), vs = [.ref a, .int st] ∧ 0 ≤ st ∧ st ≤ 63 ∧ SqL K H a (ns.map V.int) ∧ ns.length ≤ 63 ∧ ∀ l ws es H', Same H H' → H' l = some (.lst ws) → RowsB H' ws es → BkB es → es.length < 64 → Q (.ref l) H'
def spMade (CE : Addr) : Sp := fun vs H Q _ => ∃ l ws es, vs = [.ref l] ∧ H l = some (.lst ws) ∧ RowsB H ws es ∧ (∀ e ∈ es, okE e) ∧ es.length ≤ 84 ∧ ∀ q acc H', Same H H' → H q = none → H' q = some (.lst acc) → EntsAt H' CE acc es → Q (.ref q) H'
def spUp : Sp := fun vs H Q _ => ∃ z, vs = [.str z] ∧ (z = Str.ofString "species" ∨ z = Str.ofString "form") ∧ ∀ H', Same H H' → Q (.str (aboveS z)) H'
def upD : List (Key × V) := [(Sum.inr (Str.ofString "genus"), V.non), (Sum.inr (Str.ofString "species"), V.str (Str.ofString "genus")), (Sum.inr (Str.ofString "form"), V.str (Str.ofString "species"))]
/-- the law's own dicts: rows by number, names that are borne -/
def RowP (H : Hp) (x : Rt) (q : Key × V) : Prop := q.1 = Sum.inl x.e.n ∧ RowB H q.2 x.e
def BornP (x : Rt) (q : List Key × V) : Prop := q.1 = x.nm.map Sum.inr
theorem RowB.keep {H H' : Hp} {v : V} {e : En} (h : RowB H v e) (s : ∀ t xs, H t = some (.lst xs) → H' t = some (.lst xs)) : RowB H' v e := let ⟨a, e1, h1⟩ := h; ⟨a, e1, s _ _ h1⟩
theorem rows_at {H : Hp} {R : List Rt} {kr : List (Key × V)} (h : Paired (RowP H) R kr) (n : Int) : (findN R n = none ∧ valV kr (Sum.inl n) = none) ∨ ∃ x v, findN R n = some x ∧ valV kr (Sum.inl n) = some v ∧ RowB H v x.e := by
  induction h with
  | nil => exact .inl ⟨rfl, rfl⟩
  | @cons x q R kr hq t ih =>
    obtain ⟨h1, h2⟩ := hq
    by_cases e : x.e.n = n
    · refine .inr ⟨x, q.2, ?_, ?_, h2⟩
      · unfold findN; rw [List.find?_cons_of_pos (p := fun y : Rt => decide (y.e.n = n)) (decide_eq_true e)]
      · rw [valV_pos (by rw [h1, e])]
    · have e1 : findN (x :: R) n = findN R n := by unfold findN; rw [List.find?_cons_of_neg (p := fun y : Rt => decide (y.e.n = n)) (by rw [decide_eq_false e]; decide)]
      rw [e1, valV_neg (by rw [h1]; exact fun z => e (Sum.inl.inj z))]
      exact ih
theorem born_at {R : List Rt} {kh : List (List Key × V)} (h : Paired BornP R kh) (z : List Str) : (valV kh (z.map Sum.inr)).isSome = R.any (fun x => decide (x.nm = z)) := by
  induction h with
  | nil => rfl
  | @cons x q R kh hq t ih =>
    have h1 : q.1 = x.nm.map Sum.inr := hq
    rw [List.any_cons]
    by_cases e : x.nm = z
    · rw [valV_pos (by rw [h1, e]), decide_eq_true e]; rfl
    · rw [valV_neg (by rw [h1]; exact fun q => e (map_inr_inj q)), decide_eq_false e, Bool.false_or]
      exact ih
theorem valV_snoc {κ : Type} [DecidableEq κ] {kvs : List (κ × V)} {k : κ} {v : V} (h : valV kvs k = none) : valV (kvs ++ [(k, v)]) k = some v := by
  induction kvs with
  | nil => exact valV_pos rfl
  | cons p r ih =>
    by_cases e : p.1 = k
    · rw [valV_pos e] at h; cases h
    · rw [valV_neg e] at h
      rw [List.cons_append, valV_neg e]
      exact ih h
def spWordOf : Sp := fun vs H Q _ => ∃ v w dr db e nm R kr kb, vs = [v, w, .ref dr, .ref db] ∧ RowB H v e ∧ NameV H w nm ∧ H dr = some (.dK kr) ∧ Paired (RowP H) R kr ∧ H db = some (.dT kb) ∧ Paired BornP R kb ∧ Q (.str (outE R e nm)) H
def spSieved : Sp := fun vs H Q _ => ∃ l ws es, vs = [.ref l] ∧ H l = some (.lst ws) ∧ RowsB H ws es ∧ (∀ e ∈ es, okE e) ∧ (es.map (·.n)).Nodup ∧ es.length ≤ 84 ∧ ∀ t dw dn dr kn kr H', Same H H' → H dw = none → H dn = none → H dr = none → dw ≠ dr → dn ≠ dr → H' t = some (.tup [.ref dw, .ref dn, .ref dr]) → H' dw = some (.dK (outsD (resE es))) → H' dn = some (.dK kn) → Paired (NameP H') (resE es).n kn → H' dr = some (.dK kr) → Paired (RowP H') (resE es).r kr → Q (.ref t) H'
def row7 (e : En) : List V := [.int e.n, .int e.d, .str e.r, .str e.w, optV e.u, optV e.s, optV e.b]
theorem flat7 (e : En) : (row7 e).all flatV = true := by
  cases e with
  | mk n d r w u s b k => cases u <;> cases s <;> cases b <;> rfl
theorem eqL_self : ∀ {xs : List V}, xs.all flatV = true → eqL xs xs = true
  | [], _ => rfl
  | x :: r, h => by
    rw [List.all_cons, Bool.and_eq_true] at h
    rw [eqL, eqV_self h.1, eqL_self h.2]
    rfl
theorem cut7 (e : En) : cutV (rowB e) none (some 7) = row7 e := rfl
def spIsEntry (CE : Addr) : Sp := fun vs H Q _ => ∃ v r e, vs = [v, r] ∧ EntAt H CE v e ∧ RowB H r e ∧ ∀ H', Same H H' → Q (.bl true) H'
def spIsBook (CE : Addr) : Sp := fun vs H Q _ => ∃ q acc l ws es, vs = [.ref q, .ref l] ∧ H q = some (.lst acc) ∧ EntsAt H CE acc es ∧ H l = some (.lst ws) ∧ RowsB H ws es ∧ ∀ H', Same H H' → Q (.bl true) H'
/-! ### a clerk in the heap -/
structure CA where
  a : Addr
  dx : Addr
  e : Addr
  d : Addr
  p : Addr
  A : RA
def clF (C : CA) : List (Str × V) := [("entries", .ref C.e), ("results", .ref C.A.a), ("deeds", .ref C.d), ("piles", .ref C.p)]
structure ClAt (H : Hp) (CK CR CE : Addr) (C : CA) (es : List En) : Prop where
  at_ : H C.a = some (.ins CK C.dx (clF C))
  ents : ∃ ws, H C.e = some (.lst ws) ∧ EntsAt H CE ws es
  res : ResAt H CR CE C.A (resE es)
  deeds : H C.d = some (.lst [])
  piles : H C.p = some (.lst [])
  ned : C.e ≠ C.d
  nep : C.e ≠ C.p
/-- all but the clerk's list and dicts stays -/
def FrC (C : CA) (H H' : Hp) : Prop := ∀ b u, b ≠ C.e → b ≠ C.A.o1 → b ≠ C.A.o2 → b ≠ C.A.o3 → b ≠ C.A.o4 → H b = some u → H' b = some u
theorem ClAt.same {H H' : Hp} {CK CR CE : Addr} {C : CA} {es : List En} (h : ClAt H CK CR CE C es) (s : Same H H') : ClAt H' CK CR CE C es :=
  ⟨s _ _ h.at_, let ⟨ws, a, b⟩ := h.ents; ⟨ws, s _ _ a, b.same s⟩, h.res.same s, s _ _ h.deeds, s _ _ h.piles, h.ned, h.nep⟩
/-- the clerk's own places are none of these -/
structure Off (C : CA) (X : List Addr) : Prop where
  e : C.e ∉ X
  o1 : C.A.o1 ∉ X
  o2 : C.A.o2 ∉ X
  o3 : C.A.o3 ∉ X
  o4 : C.A.o4 ∉ X
def CA.all (C : CA) : List Addr := [C.a, C.e, C.d, C.p, C.A.a, C.A.o1, C.A.o2, C.A.o3, C.A.o4]
theorem FrC.at {C : CA} {H H' : Hp} (f : FrC C H H') {X : List Addr} (o : Off C X) {b : Addr} {u : HO} (hb : b ∈ X) (h : H b = some u) : H' b = some u :=
  f b u (fun z => o.e (z ▸ hb)) (fun z => o.o1 (z ▸ hb)) (fun z => o.o2 (z ▸ hb)) (fun z => o.o3 (z ▸ hb)) (fun z => o.o4 (z ▸ hb)) h
theorem ClAt.ins {H H' : Hp} {CK CR CE : Addr} {C : CA} {es : List En} (h : ClAt H CK CR CE C es) (f : FrC C H H') {b K dx : Addr} {fs : List (Str × V)} (hb : H b = some (.ins K dx fs)) : H' b = some (.ins K dx fs) := by
  obtain ⟨ws, w1, _⟩ := h.ents
  obtain ⟨kn, n1, _⟩ := h.res.names
  obtain ⟨kr, r1, _⟩ := h.res.rights
  obtain ⟨kh, h1, _⟩ := h.res.holders
  exact f b _ (ne_of hb w1 (by intro z; cases z)) (ne_of hb h.res.outs (by intro z; cases z)) (ne_of hb n1 (by intro z; cases z)) (ne_of hb r1 (by intro z; cases z)) (ne_of hb h1 (by intro z; cases z)) hb
theorem ClAt.tup {H H' : Hp} {CK CR CE : Addr} {C : CA} {es : List En} (h : ClAt H CK CR CE C es) (f : FrC C H H') {b : Addr} {xs : List V} (hb : H b = some (.tup xs)) : H' b = some (.tup xs) := by
  obtain ⟨ws, w1, _⟩ := h.ents
  obtain ⟨kn, n1, _⟩ := h.res.names
  obtain ⟨kr, r1, _⟩ := h.res.rights
  obtain ⟨kh, h1, _⟩ := h.res.holders
  exact f b _ (ne_of hb w1 (by intro z; cases z)) (ne_of hb h.res.outs (by intro z; cases z)) (ne_of hb n1 (by intro z; cases z)) (ne_of hb r1 (by intro z; cases z)) (ne_of hb h1 (by intro z; cases z)) hb
/-- what another clerk does leaves this one -/
theorem ClAt.keep {H H' : Hp} {CK CR CE : Addr} {C D : CA} {es fs : List En} (hC : ClAt H CK CR CE C es) (hD : ClAt H CK CR CE D fs) (f : FrC C H H') (o : Off C D.all) : ClAt H' CK CR CE D fs := by
  obtain ⟨ws, w1, w2⟩ := hD.ents
  obtain ⟨a1, a2, ⟨kn, n1, n2⟩, ⟨kr, r1, r2⟩, ⟨kh, h1, h2⟩, d1, d2, d3⟩ := hD.res
  have ent : ∀ v e, EntAt H CE v e → EntAt H' CE v e := fun v e h => h.keep fun t dx fs ht => hC.ins f ht
  refine ⟨f.at o (by simp [CA.all]) hD.at_, ⟨ws, f.at o (by simp [CA.all]) w1, w2.1, fun j v e a b => ent v e (w2.2 j v e a b)⟩, ⟨f.at o (by simp [CA.all]) a1, f.at o (by simp [CA.all]) a2, ⟨kn, f.at o (by simp [CA.all]) n1, ?_⟩, ⟨kr, f.at o (by simp [CA.all]) r1, ?_⟩, ⟨kh, f.at o (by simp [CA.all]) h1, ?_⟩, d1, d2, d3⟩, f.at o (by simp [CA.all]) hD.deeds, f.at o (by simp [CA.all]) hD.piles, hD.ned, hD.nep⟩
  · exact Paired.mapP n2 fun x q z => ⟨z.1, z.2.same fun t xs e => hC.tup f e⟩
  · exact Paired.mapP r2 fun x q z => ⟨z.1, ent _ _ z.2⟩
  · exact Paired.mapP h2 fun x q z => ⟨z.1, ent _ _ z.2⟩
def spNo : Sp := fun _ _ _ _ => False
def spSortNil : Sp := fun vs H Q _ => ∃ p, vs = [.ref p] ∧ H p = some (.lst []) ∧ ∀ q H', Same H H' → H' q = some (.lst []) → Q (.ref q) H'
def spClInit (CK CR CE : Addr) : Sp := fun vs H Q _ => ∃ a dx, vs = [.ref a] ∧ H a = some (.ins CK dx []) ∧ ∀ C H', C.a = a → C.dx = dx → (∀ b u, b ≠ a → H b = some u → H' b = some u) → ClAt H' CK CR CE C [] → H C.e = none → H C.d = none → H C.p = none → H C.A.a = none → H C.A.o1 = none → H C.A.o2 = none → H C.A.o3 = none → H C.A.o4 = none → Q .non H'
def Bad (es : List En) (e : En) : Prop := lastOk (lastW none es) e = false ∨ e.n ∈ es.map (·.n)
def spPublish (K : PySem.W.Frag) (CK CR CE NE LT : Addr) : Sp := fun vs H Q E => ∃ C es v, vs = [.ref C.a, v] ∧ ClAt H CK CR CE C es ∧ (∀ e ∈ es, okE e) ∧ (es.map (·.n)).Nodup ∧ es.length ≤ 84 ∧
  ((∃ n, TyOf K H v (.type n) ∧ PySem.W.kitOne K (.type n) (.ref CE) = some false ∧ ∀ H', Same H H' → E (.ref NE) none H') ∨
   ∃ e, EntAt H CE v e ∧ okE e ∧ ((lastOk (lastW none es) e = true ∧ e.n ∉ es.map (·.n) ∧ ∀ H', FrC C H H' → ClAt H' CK CR CE C (es ++ [e]) → Q (.str (outS (resE es) e)) H') ∨ (Bad es e ∧ ∀ H', Same H H' → E (.ref LT) none H')))
def spBookC (CK CR CE : Addr) : Sp := fun vs H Q _ => ∃ C es, vs = [.ref C.a] ∧ ClAt H CK CR CE C es ∧ ∀ q ws H', Same H H' → H q = none → H' q = some (.lst ws) → EntsAt H' CE ws es → Q (.ref q) H'
def spNilC (CK CR CE : Addr) : Sp := fun vs H Q _ => ∃ C es, vs = [.ref C.a] ∧ ClAt H CK CR CE C es ∧ ∀ q H', Same H H' → H' q = some (.lst []) → Q (.ref q) H'
def kindNE : List V := [.bl true, .bl false, .bl false, .bl false, .bl false, .bl true]
def kindLT : List V := [.bl false, .bl true, .bl false, .bl false, .bl false, .bl true]
def spKind (NE LT : Addr) : Sp := fun vs H Q _ => ∃ x, vs = [.ref x] ∧ ((H x = some (exO (.ref NE) none x) ∧ ∀ q H', Same H H' → H' q = some (.lst kindNE) → Q (.ref q) H') ∨ (H x = some (exO (.ref LT) none x) ∧ ∀ q H', Same H H' → H' q = some (.lst kindLT) → Q (.ref q) H'))
def spRefusedC (K : PySem.W.Frag) (CK CR CE : Addr) : Sp := fun vs H Q _ => ∃ C es v du, vs = [.ref C.a, v, .ref du] ∧ ClAt H CK CR CE C es ∧ (∀ e ∈ es, okE e) ∧ (es.map (·.n)).Nodup ∧ es.length ≤ 84 ∧
  ((H du = some (.lst kindNE) ∧ ∃ n, TyOf K H v (.type n) ∧ PySem.W.kitOne K (.type n) (.ref CE) = some false) ∨ (H du = some (.lst kindLT) ∧ ∃ e, EntAt H CE v e ∧ okE e ∧ Bad es e)) ∧ ∀ H', Same H H' → Q (.bl true) H'
def spOdd (K : PySem.W.Frag) (CK CR CE : Addr) : Sp := fun vs H Q _ => ∃ C es l ws m, vs = [.ref C.a, .ref l, .int m] ∧ ClAt H CK CR CE C es ∧ (∀ e ∈ es, okE e) ∧ (es.map (·.n)).Nodup ∧ es.length ≤ 84 ∧ (∀ e ∈ es, (1 ≤ e.n ∧ e.n ≤ 1000000000) ∧ 1 ≤ e.d ∧ e.d ≤ 1000000) ∧ H l = some (.lst ws) ∧ RowsB H ws es ∧ 0 ≤ m ∧ ∀ H', Same H H' → Q (.bl true) H'
theorem outs_in {S : Rs} {n : Int} (h : n ∈ S.o.map (·.1)) : (valV (outsD S) (Sum.inl n)).isSome = true := by
  unfold outsD
  generalize S.o = l at h
  induction l with
  | nil => cases h
  | cons p r ih =>
    rw [List.map_cons] at h ⊢
    by_cases e : p.1 = n
    · rw [valV_pos (by rw [e])]; rfl
    · rw [valV_neg (fun z => e (Sum.inl.inj z))]
      rcases List.mem_cons.mp h with q | q
      · exact absurd q.symm e
      · exact ih q
def mkL (n d : Int) : En := ⟨n, d, Str.ofString "genus", Str.ofString "a", none, some 5, none, true⟩
theorem okL {n d : Int} (n1 : 1 ≤ n) (n2 : n ≤ 1000000000) (d1 : 1 ≤ d) (d2 : d ≤ 1000000) : okE (mkL n d) :=
  okE_of (inR_of n1 n2) (inR_of d1 d2) (by show isRank (.str (Str.ofString "genus")) = true; decide +kernel) (by show isWord (.str (Str.ofString "a")) = true; decide +kernel) (by show underFits (.str (Str.ofString "genus")) .non = true; rw [under_g]; exact decide_eq_true rfl) (by show tieFits (.str (Str.ofString "genus")) (.int 5) .non = true; rw [tie_n]; exact inR_of (by decide) (by decide))
theorem ahead_iff (x y : En) : aheadE x y = true ↔ x.d < y.d ∨ x.d = y.d ∧ x.n < y.n := by
  show (if x.d = y.d then (if x.n = y.n then false else decide (x.n < y.n)) else decide (x.d < y.d)) = true ↔ _
  by_cases h : x.d = y.d
  · rw [if_pos h]
    by_cases h2 : x.n = y.n
    · rw [if_pos h2]
      exact ⟨fun z => (nomatch z), fun z => by omega⟩
    · rw [if_neg h2, decide_eq_true_iff]
      exact ⟨fun z => .inr ⟨h, z⟩, fun z => by omega⟩
  · rw [if_neg h, decide_eq_true_iff]
    exact ⟨fun z => .inl z, fun z => by omega⟩
theorem pigeon {ns : List Int} {num : Int} (h1 : 1 ≤ num) (h : ∀ i, 1 ≤ i → i < num → i ∈ ns) : num ≤ ns.length + 1 := by
  have nd : ((List.range (num - 1).toNat).map fun i : Nat => (i : Int) + 1).Nodup := List.Pairwise.map (R := (· ≠ ·)) _ (fun a b h z => h (by omega)) List.nodup_range
  have := nd_len nd (ys := ns) fun x hx => by
    obtain ⟨i, hi, rfl⟩ := List.mem_map.mp hx
    have := List.mem_range.mp hi
    exact h _ (by omega) (by omega)
  rw [List.length_map, List.length_range] at this
  omega
/-! ### what two clerks are told -/
def odds (es : List En) : Nat → List En
  | 0 => []
  | i + 1 => if i % 2 = 1 then odds es i ++ (es[i]?).toList else odds es i
theorem odds_sub (es : List En) : ∀ i, (odds es i).Sublist (es.take i)
  | 0 => List.nil_sublist _
  | i + 1 => by
    have h := odds_sub es i
    rw [List.take_succ]
    unfold odds
    split
    · exact h.append (List.Sublist.refl _)
    · exact h.trans (List.sublist_append_left _ _)
theorem pairs_of : ∀ {es : List En} {seen : List Int} {last : Option En}, bookOk seen last (es.map some) = true → es.Pairwise (fun x y => aheadE x y = true) ∧ ∀ l, last = some l → ∀ e ∈ es, aheadE l e = true
  | [], _, _, _ => ⟨.nil, fun _ _ _ h => nomatch h⟩
  | e :: r, seen, last, h => by
    have h : (!seen.contains e.n && (lastOk last e && bookOk (seen ++ [e.n]) (some e) (r.map some))) = true := h
    rw [Bool.and_eq_true, Bool.and_eq_true] at h
    obtain ⟨_, h1, h2⟩ := h
    obtain ⟨p1, p2⟩ := pairs_of h2
    refine ⟨List.pairwise_cons.mpr ⟨fun y hy => p2 e rfl y hy, p1⟩, fun l hl x hx => ?_⟩
    subst hl
    have h1 : aheadE l e = true := h1
    rcases List.mem_cons.mp hx with q | q
    · rw [q]; exact h1
    · have a := (ahead_iff _ _).mp h1
      have b := (ahead_iff _ _).mp (p2 e rfl x q)
      exact (ahead_iff _ _).mpr (by omega)
/-- one may follow some of those ahead of it -/
theorem follows {es : List En} (pw : es.Pairwise (fun x y => aheadE x y = true)) {i : Nat} (hi : i < es.length) {p : List En} (hp : p.Sublist (es.take i)) : lastOk (lastW none p) es[i] = true := by
  cases q : lastW none p with
  | none => rfl
  | some x =>
    rcases lastW_mem q with z | z
    · cases z
    · obtain ⟨j, hj⟩ := List.getElem?_of_mem (hp.subset z)
      obtain ⟨hj1, hj2⟩ := List.getElem?_eq_some_iff.mp hj
      rw [List.length_take] at hj1
      rw [List.getElem_take] at hj2
      show aheadE x es[i] = true
      rw [← hj2]
      exact List.pairwise_iff_getElem.mp pw j i (by omega) hi (by omega)
theorem new_no {es : List En} (nd : (es.map (·.n)).Nodup) {i : Nat} (hi : i < es.length) {p : List En} (hp : p.Sublist (es.take i)) : es[i].n ∉ p.map (·.n) := fun z => by
  obtain ⟨x, hx, ex⟩ := List.mem_map.mp z
  have z : es[i].n ∈ (es.take i).map (·.n) := ex ▸ List.mem_map_of_mem (f := fun x : En => x.n) (hp.subset hx)
  have := nd
  have e2 : es.map (·.n) = (es.take i).map (·.n) ++ es[i].n :: (es.drop (i + 1)).map (·.n) := by
    rw [← List.map_cons, List.getElem_cons_drop, ← List.map_append, List.take_append_drop]
  rw [e2, List.nodup_append] at this
  exact this.2.2 _ z _ (List.mem_cons_self ..) rfl
theorem off_of {G : Hp} {C : CA} {X : List Addr} (h : ∀ b ∈ X, G b = none) {CK CR CE : Addr} {es : List En} (c : ClAt G CK CR CE C es) : Off C X := by
  obtain ⟨ws, w1, _⟩ := c.ents
  obtain ⟨kn, n1, _⟩ := c.res.names
  obtain ⟨kr, r1, _⟩ := c.res.rights
  obtain ⟨kh, h1, _⟩ := c.res.holders
  exact ⟨fun z => (by rw [h _ z] at w1; cases w1), fun z => (by have := c.res.outs; rw [h _ z] at this; cases this), fun z => (by rw [h _ z] at n1; cases n1), fun z => (by rw [h _ z] at r1; cases r1), fun z => (by rw [h _ z] at h1; cases h1)⟩
structure Fresh (G : Hp) (C : CA) : Prop where
  a : G C.a = none
  e : G C.e = none
  d : G C.d = none
  p : G C.p = none
  A : G C.A.a = none
  o1 : G C.A.o1 = none
  o2 : G C.A.o2 = none
  o3 : G C.A.o3 = none
  o4 : G C.A.o4 = none
theorem Fresh.all {G : Hp} {C : CA} (f : Fresh G C) : ∀ b ∈ C.all, G b = none := fun b hb => by
  simp only [CA.all, List.mem_cons, List.not_mem_nil, or_false] at hb
  rcases hb with rfl | rfl | rfl | rfl | rfl | rfl | rfl | rfl | rfl
  · exact f.a
  · exact f.e
  · exact f.d
  · exact f.p
  · exact f.A
  · exact f.o1
  · exact f.o2
  · exact f.o3
  · exact f.o4
theorem ClAt.there {G : Hp} {CK CR CE : Addr} {C : CA} {es : List En} (c : ClAt G CK CR CE C es) : ∀ b ∈ C.all, G b ≠ none := fun b hb z => by
  obtain ⟨ws, w1, _⟩ := c.ents
  obtain ⟨kn, n1, _⟩ := c.res.names
  obtain ⟨kr, r1, _⟩ := c.res.rights
  obtain ⟨kh, h1, _⟩ := c.res.holders
  have c1 := c.at_
  have c2 := c.deeds
  have c3 := c.piles
  have c4 := c.res.at_
  have c5 := c.res.outs
  simp only [CA.all, List.mem_cons, List.not_mem_nil, or_false] at hb
  rcases hb with rfl | rfl | rfl | rfl | rfl | rfl | rfl | rfl | rfl
  · rw [z] at c1; cases c1
  · rw [z] at w1; cases w1
  · rw [z] at c2; cases c2
  · rw [z] at c3; cases c3
  · rw [z] at c4; cases c4
  · rw [z] at c5; cases c5
  · rw [z] at n1; cases n1
  · rw [z] at r1; cases r1
  · rw [z] at h1; cases h1
theorem Fresh.off {G : Hp} {C : CA} (f : Fresh G C) {X : List Addr} (h : ∀ b ∈ X, G b ≠ none) : Off C X := ⟨fun z => h _ z f.e, fun z => h _ z f.o1, fun z => h _ z f.o2, fun z => h _ z f.o3, fun z => h _ z f.o4⟩
/-- a list beside it grows -/
theorem ClAt.put {H : Hp} {CK CR CE : Addr} {C : CA} {es : List En} (c : ClAt H CK CR CE C es) {o : Addr} {xs ys : List V} (ho : H o = some (.lst xs)) (no : o ∉ C.all) : ClAt (upd H o (.lst ys)) CK CR CE C es := by
  have f : ∀ b u, b ≠ o → H b = some u → upd H o (.lst ys) b = some u := fun b u nb hb => by rw [upd_ne nb]; exact hb
  have m : ∀ {b : Addr}, b ∈ C.all → b ≠ o := fun hb z => no (z ▸ hb)
  obtain ⟨ws, w1, w2⟩ := c.ents
  obtain ⟨a1, a2, ⟨kn, n1, n2⟩, ⟨kr, r1, r2⟩, ⟨kh, h1, h2⟩, d1, d2, d3⟩ := c.res
  have ent : ∀ v e, EntAt H CE v e → EntAt (upd H o (.lst ys)) CE v e := fun v e h => h.keep fun t dx fs ht => f t _ (ne_of ht ho (by intro z; cases z)) ht
  refine ⟨f _ _ (m (by simp [CA.all])) c.at_, ⟨ws, f _ _ (m (by simp [CA.all])) w1, w2.1, fun j v e a b => ent v e (w2.2 j v e a b)⟩, ⟨f _ _ (m (by simp [CA.all])) a1, f _ _ (m (by simp [CA.all])) a2, ⟨kn, f _ _ (m (by simp [CA.all])) n1, ?_⟩, ⟨kr, f _ _ (m (by simp [CA.all])) r1, ?_⟩, ⟨kh, f _ _ (m (by simp [CA.all])) h1, ?_⟩, d1, d2, d3⟩, f _ _ (m (by simp [CA.all])) c.deeds, f _ _ (m (by simp [CA.all])) c.piles, c.ned, c.nep⟩
  · exact Paired.mapP n2 fun x q z => ⟨z.1, z.2.same fun t xs e => f t _ (ne_of e ho (by intro z; cases z)) e⟩
  · exact Paired.mapP r2 fun x q z => ⟨z.1, ent _ _ z.2⟩
  · exact Paired.mapP h2 fun x q z => ⟨z.1, ent _ _ z.2⟩
theorem FrC.new {C : CA} {G H H' : Hp} (f : FrC C H H') (fr : Fresh G C) (s : Same G H) : Same G H' := fun b u hb => f b u (ne_of_none hb fr.e) (ne_of_none hb fr.o1) (ne_of_none hb fr.o2) (ne_of_none hb fr.o3) (ne_of_none hb fr.o4) (s b u hb)
theorem RowsB.take {H : Hp} {ws : List V} {es : List En} (h : RowsB H ws es) (i : Nat) : RowsB H (ws.take i) (es.take i) := by
  refine ⟨by rw [List.length_take, List.length_take, h.1], fun j v x hv hx => ?_⟩
  by_cases hj : j < i
  · rw [List.getElem?_take_of_lt hj] at hv hx
    exact h.2 j v x hv hx
  · rw [List.getElem?_eq_none (by rw [List.length_take]; omega)] at hv
    cases hv

def spLaw (K : PySem.W.Frag) : Sp := fun vs H Q _ => ∃ (a : Addr) (ns : List Int), vs = [.ref a] ∧ SqL K H a (ns.map V.int) ∧ ns.length ≤ 63 ∧ ∀ H', Q (.bl true) H'


def top (i : Nat) : Stmt := PySem.Challenge.pw_rightname_k71_published.main.body.getD i (.Pass ⟨0, 0, 0, 0⟩)
abbrev s_is_whole : Stmt := top 19
abbrev s_is_day : Stmt := top 20
abbrev s_is_number : Stmt := top 21
abbrev s_is_word : Stmt := top 22
abbrev s_is_rank : Stmt := top 23
abbrev s_above : Stmt := top 24
abbrev s_refuse_head : Stmt := top 27
abbrev s_under_fits : Stmt := top 28
abbrev s_tie_fits : Stmt := top 29
abbrev s_ahead : Stmt := top 30
abbrev s_sorting_list : Stmt := top 35
abbrev s_group_list : Stmt := top 36
abbrev s_sheet_list : Stmt := top 37
abbrev s_Lcell_at : Stmt := top 41
abbrev s_Lwhole : Stmt := top 42
abbrev s_Lmixed : Stmt := top 43
abbrev s_Ldraws : Stmt := top 44
abbrev s_Lwords : Stmt := top 45
abbrev s_Lany_word : Stmt := top 46
abbrev s_Lstamp : Stmt := top 47
abbrev s_Lpick : Stmt := top 48
abbrev s_Lbase : Stmt := top 49
abbrev s_Lentry : Stmt := top 50
abbrev s_Lbook : Stmt := top 51
abbrev s_Lmade : Stmt := top 52
abbrev s_Lup : Stmt := top 53
abbrev s_Lword_of : Stmt := top 54
abbrev s_Lsieved : Stmt := top 55
abbrev s_Lis_entry : Stmt := top 56
abbrev s_Lis_book : Stmt := top 57
abbrev s_Lkind : Stmt := top 58
abbrev s_Lrefused : Stmt := top 59
abbrev s_Lodd : Stmt := top 60
abbrev s_law : Stmt := top 61
abbrev s_Entry_init : Stmt := inClass (top 26) 0
abbrev s_Results_init : Stmt := inClass (top 32) 0
abbrev s_Clerk_init : Stmt := inClass (top 39) 0
abbrev s_Results_put : Stmt := inClass (top 32) 1
abbrev s_Results_name_of : Stmt := inClass (top 32) 2
abbrev s_Results_outcome_of : Stmt := inClass (top 32) 3
abbrev s_Clerk_publish : Stmt := inClass (top 39) 1
abbrev s_Clerk_book : Stmt := inClass (top 39) 6
abbrev s_Clerk_acts : Stmt := inClass (top 39) 7
abbrev s_Clerk_sorting : Stmt := inClass (top 39) 8
theorem rb_Entry_8 {vs : List V} {us : List Value} {zs : List V} {ws : List Value} (r : Vals vs us) (rz : Vals zs ws) : Vals ((fun us ws => us ++ (match ws with | [] => [] | _ => []) : List V → List V → List V) vs zs) ((fun us ws => us ++ (match ws with | [] => [] | _ => []) : List Value → List Value → List Value) us ws) := by
  refine r.append ?_
  cases rz with
  | nil => exact .nil
  | cons _ _ => exact .nil
theorem mb_Entry_8 {K : PySem.W.Frag} {T f : Addr} {fd : FuncData} {o : Obj} {n : Nat} (F : FunD K "__init__" "Entry.__init__" s_Entry_init (.ref T) f fd) (hT : K.lookup T = some o) (hs : o.data = .seq #[.none, .none, .none, .bool true] n) : MkBinds K fd ["self", "number", "day", "rank", "word", "under", "sheet", "base", "described"] [] 8 (fun us ws => us ++ (match ws with | [] => [] | _ => [])) (fun us ws => us ++ (match ws with | [] => [] | _ => [])) :=
  .ofD F hT hs rb_Entry_8 fun _ _ _ _ _ _ y us ws h1 h2 => by
    obtain ⟨a0, us0, rfl, g0⟩ := lenS h1
    obtain ⟨a1, us1, rfl, g1⟩ := lenS g0
    obtain ⟨a2, us2, rfl, g2⟩ := lenS g1
    obtain ⟨a3, us3, rfl, g3⟩ := lenS g2
    obtain ⟨a4, us4, rfl, g4⟩ := lenS g3
    obtain ⟨a5, us5, rfl, g5⟩ := lenS g4
    obtain ⟨a6, us6, rfl, g6⟩ := lenS g5
    obtain ⟨a7, us7, rfl, g7⟩ := lenS g6
    obtain rfl := len0 g7
    obtain rfl := len0 h2
    exact ⟨⟨_, rfl, rfl⟩, rfl⟩
theorem rb_Entry_6 {vs : List V} {us : List Value} {zs : List V} {ws : List Value} (r : Vals vs us) (rz : Vals zs ws) : Vals ((fun us ws => us ++ (match ws with | [] => [.non, .bl true] | _ => []) : List V → List V → List V) vs zs) ((fun us ws => us ++ (match ws with | [] => [.none, .bool true] | _ => []) : List Value → List Value → List Value) us ws) := by
  refine r.append ?_
  cases rz with
  | nil => exact (.cons rfl (.cons rfl .nil))
  | cons _ _ => exact .nil
theorem mb_Entry_6 {K : PySem.W.Frag} {T f : Addr} {fd : FuncData} {o : Obj} {n : Nat} (F : FunD K "__init__" "Entry.__init__" s_Entry_init (.ref T) f fd) (hT : K.lookup T = some o) (hs : o.data = .seq #[.none, .none, .none, .bool true] n) : MkBinds K fd ["self", "number", "day", "rank", "word", "under", "sheet", "base", "described"] [] 6 (fun us ws => us ++ (match ws with | [] => [.none, .bool true] | _ => [])) (fun us ws => us ++ (match ws with | [] => [.non, .bl true] | _ => [])) :=
  .ofD F hT hs rb_Entry_6 fun _ _ _ _ _ _ y us ws h1 h2 => by
    obtain ⟨a0, us0, rfl, g0⟩ := lenS h1
    obtain ⟨a1, us1, rfl, g1⟩ := lenS g0
    obtain ⟨a2, us2, rfl, g2⟩ := lenS g1
    obtain ⟨a3, us3, rfl, g3⟩ := lenS g2
    obtain ⟨a4, us4, rfl, g4⟩ := lenS g3
    obtain ⟨a5, us5, rfl, g5⟩ := lenS g4
    obtain rfl := len0 g5
    obtain rfl := len0 h2
    exact ⟨⟨_, rfl, rfl⟩, rfl⟩
structure Fn (K : PySem.W.Frag) (mg : Str → Option Value) (x : Str) (st : Stmt) (ps : List Str) (f : Addr) (fd : FuncData) : Prop where
  fn : Fun K x x st f fd
  mgf : mg x = some (.ref f)
  bi : Binds K fd ps []
theorem Fn.kp {K : PySem.W.Frag} {mg : Str → Option Value} {x : Str} {st : Stmt} {ps : List Str} {f : Addr} {fd : FuncData} (F : Fn K mg x st ps f fd) : PySem.W.keepIn K (.ref f) = true := F.fn.kp
set_option genInjectivity false in
set_option genSizeOfSpec false in
set_option genSizeOf false in
structure Ad where
  a_is_whole : Addr
  d_is_whole : FuncData
  a_is_day : Addr
  d_is_day : FuncData
  a_is_number : Addr
  d_is_number : FuncData
  a_is_word : Addr
  d_is_word : FuncData
  a_is_rank : Addr
  d_is_rank : FuncData
  a_above : Addr
  d_above : FuncData
  a_refuse_head : Addr
  d_refuse_head : FuncData
  a_under_fits : Addr
  d_under_fits : FuncData
  a_tie_fits : Addr
  d_tie_fits : FuncData
  a_ahead : Addr
  d_ahead : FuncData
  a_sorting_list : Addr
  d_sorting_list : FuncData
  a_group_list : Addr
  d_group_list : FuncData
  a_sheet_list : Addr
  d_sheet_list : FuncData
  a_Lcell_at : Addr
  d_Lcell_at : FuncData
  a_Lwhole : Addr
  d_Lwhole : FuncData
  a_Lmixed : Addr
  d_Lmixed : FuncData
  a_Ldraws : Addr
  d_Ldraws : FuncData
  a_Lwords : Addr
  d_Lwords : FuncData
  a_Lany_word : Addr
  d_Lany_word : FuncData
  a_Lstamp : Addr
  d_Lstamp : FuncData
  a_Lpick : Addr
  d_Lpick : FuncData
  a_Lbase : Addr
  d_Lbase : FuncData
  a_Lentry : Addr
  d_Lentry : FuncData
  a_Lbook : Addr
  d_Lbook : FuncData
  a_Lmade : Addr
  d_Lmade : FuncData
  a_Lup : Addr
  d_Lup : FuncData
  a_Lword_of : Addr
  d_Lword_of : FuncData
  a_Lsieved : Addr
  d_Lsieved : FuncData
  a_Lis_entry : Addr
  d_Lis_entry : FuncData
  a_Lis_book : Addr
  d_Lis_book : FuncData
  a_Lkind : Addr
  d_Lkind : FuncData
  a_Lrefused : Addr
  d_Lrefused : FuncData
  a_Lodd : Addr
  d_Lodd : FuncData
  a_law : Addr
  d_law : FuncData
  c_Entry : Addr
  a_Entry_init : Addr
  t_Entry_init : Addr
  d_Entry_init : FuncData
  c_Results : Addr
  a_Results_init : Addr
  d_Results_init : FuncData
  c_Clerk : Addr
  a_Clerk_init : Addr
  d_Clerk_init : FuncData
  a_Results_put : Addr
  d_Results_put : FuncData
  a_Results_name_of : Addr
  d_Results_name_of : FuncData
  a_Results_outcome_of : Addr
  d_Results_outcome_of : FuncData
  a_Clerk_publish : Addr
  d_Clerk_publish : FuncData
  a_Clerk_book : Addr
  d_Clerk_book : FuncData
  a_Clerk_acts : Addr
  d_Clerk_acts : FuncData
  a_Clerk_sorting : Addr
  d_Clerk_sorting : FuncData
  u_MOST_LETTERS : Value
  u_LAST_DAY : Value
  u_LAST_NUMBER : Value
  u_RANKS : Addr
  u_ABOVE : Addr
  c_NoRank : Addr
  c_NoNumber : Addr
  c_NoDay : Addr
  c_NoWord : Addr
  c_NoSorting : Addr
  c_NoEntry : Addr
  c_Late : Addr
  c_RightError : Addr
  c_NoAct : Addr
  c_NoSheet : Addr
  c_NoPath : Addr
structure Txt (w : World) (K : PySem.W.Frag) (mg : Str → Option Value) (c : Ad) : Prop where
  is_whole : Fn K mg "is_whole" s_is_whole ["thing"] c.a_is_whole c.d_is_whole
  is_day : Fn K mg "is_day" s_is_day ["thing"] c.a_is_day c.d_is_day
  is_number : Fn K mg "is_number" s_is_number ["thing"] c.a_is_number c.d_is_number
  is_word : Fn K mg "is_word" s_is_word ["thing"] c.a_is_word c.d_is_word
  is_rank : Fn K mg "is_rank" s_is_rank ["thing"] c.a_is_rank c.d_is_rank
  above : Fn K mg "above" s_above ["rank"] c.a_above c.d_above
  refuse_head : Fn K mg "refuse_head" s_refuse_head ["number", "day", "rank", "word"] c.a_refuse_head c.d_refuse_head
  under_fits : Fn K mg "under_fits" s_under_fits ["rank", "under"] c.a_under_fits c.d_under_fits
  tie_fits : Fn K mg "tie_fits" s_tie_fits ["rank", "sheet", "base"] c.a_tie_fits c.d_tie_fits
  ahead : Fn K mg "ahead" s_ahead ["one", "other"] c.a_ahead c.d_ahead
  sorting_list : Fn K mg "sorting_list" s_sorting_list ["sorting"] c.a_sorting_list c.d_sorting_list
  group_list : Fn K mg "group_list" s_group_list ["group", "depth", "seen"] c.a_group_list c.d_group_list
  sheet_list : Fn K mg "sheet_list" s_sheet_list ["sheets", "seen"] c.a_sheet_list c.d_sheet_list
  Lcell_at : Fn K mg "_law_cell_at" s_Lcell_at ["_law_script", "_law_k"] c.a_Lcell_at c.d_Lcell_at
  Lwhole : Fn K mg "_law_whole" s_Lwhole ["_law_found"] c.a_Lwhole c.d_Lwhole
  Lmixed : Fn K mg "_law_mixed" s_Lmixed ["_law_cell", "_law_k"] c.a_Lmixed c.d_Lmixed
  Ldraws : Fn K mg "_law_draws" s_Ldraws ["_law_cell", "_law_k", "_law_free"] c.a_Ldraws c.d_Ldraws
  Lwords : Fn K mg "_law_words" s_Lwords ["_law_cell", "_law_free"] c.a_Lwords c.d_Lwords
  Lany_word : Fn K mg "_law_any_word" s_Lany_word ["_law_number"] c.a_Lany_word c.d_Lany_word
  Lstamp : Fn K mg "_law_stamp" s_Lstamp ["_law_book_here", "_law_one", "_law_other"] c.a_Lstamp c.d_Lstamp
  Lpick : Fn K mg "_law_pick" s_Lpick ["_law_book_here", "_law_rank", "_law_one", "_law_other"] c.a_Lpick c.d_Lpick
  Lbase : Fn K mg "_law_base" s_Lbase ["_law_book_here", "_law_rank", "_law_one", "_law_other"] c.a_Lbase c.d_Lbase
  Lentry : Fn K mg "_law_entry" s_Lentry ["_law_book_here", "_law_words_here", "_law_cell", "_law_k", "_law_free"] c.a_Lentry c.d_Lentry
  Lbook : Fn K mg "_law_book" s_Lbook ["_law_script", "_law_start"] c.a_Lbook c.d_Lbook
  Lmade : Fn K mg "_law_made" s_Lmade ["_law_book_here"] c.a_Lmade c.d_Lmade
  Lup : Fn K mg "_law_up" s_Lup ["_law_rank"] c.a_Lup c.d_Lup
  Lword_of : Fn K mg "_law_word_of" s_Lword_of ["_law_one", "_law_name", "_law_right", "_law_borne"] c.a_Lword_of c.d_Lword_of
  Lsieved : Fn K mg "_law_sieved" s_Lsieved ["_law_book_here"] c.a_Lsieved c.d_Lsieved
  Lis_entry : Fn K mg "_law_is_entry" s_Lis_entry ["_law_entry_here", "_law_one"] c.a_Lis_entry c.d_Lis_entry
  Lis_book : Fn K mg "_law_is_book" s_Lis_book ["_law_found", "_law_book_here"] c.a_Lis_book c.d_Lis_book
  Lkind : Fn K mg "_law_kind" s_Lkind ["_law_error"] c.a_Lkind c.d_Lkind
  Lrefused : Fn K mg "_law_refused" s_Lrefused ["_law_clerk", "_law_thing", "_law_due"] c.a_Lrefused c.d_Lrefused
  Lodd : Fn K mg "_law_odd" s_Lodd ["_law_clerk", "_law_book_here", "_law_mixed_here"] c.a_Lodd c.d_Lodd
  law : Fn K mg "law" s_law ["_law_script"] c.a_law c.d_law
  mg_Entry : mg "Entry" = some (.ref c.c_Entry)
  cl_Entry : Cls K c.c_Entry
  mk_Entry : Mk K c.c_Entry c.a_Entry_init
  Entry_init : FunD K "__init__" "Entry.__init__" s_Entry_init (.ref c.t_Entry_init) c.a_Entry_init c.d_Entry_init
  na_Entry_number : NoAttr K c.c_Entry "number"
  na_Entry_day : NoAttr K c.c_Entry "day"
  na_Entry_rank : NoAttr K c.c_Entry "rank"
  na_Entry_word : NoAttr K c.c_Entry "word"
  na_Entry_under : NoAttr K c.c_Entry "under"
  na_Entry_sheet : NoAttr K c.c_Entry "sheet"
  na_Entry_base : NoAttr K c.c_Entry "base"
  na_Entry_described : NoAttr K c.c_Entry "described"
  b_Entry_8 : MkBinds K c.d_Entry_init ["self", "number", "day", "rank", "word", "under", "sheet", "base", "described"] [] 8 (fun us ws => us ++ (match ws with | [] => [] | _ => [])) (fun us ws => us ++ (match ws with | [] => [] | _ => []))
  b_Entry_6 : MkBinds K c.d_Entry_init ["self", "number", "day", "rank", "word", "under", "sheet", "base", "described"] [] 6 (fun us ws => us ++ (match ws with | [] => [.none, .bool true] | _ => [])) (fun us ws => us ++ (match ws with | [] => [.non, .bl true] | _ => []))
  mg_Results : mg "Results" = some (.ref c.c_Results)
  cl_Results : Cls K c.c_Results
  Results_init : Fun K "__init__" "Results.__init__" s_Results_init c.a_Results_init c.d_Results_init
  bi_Results_init : Binds K c.d_Results_init ["self"] []
  mk_Results : Mk K c.c_Results c.a_Results_init
  na_Results_outs : NoAttr K c.c_Results "outs"
  na_Results_names : NoAttr K c.c_Results "names"
  na_Results_rights : NoAttr K c.c_Results "rights"
  na_Results_holders : NoAttr K c.c_Results "holders"
  mg_Clerk : mg "Clerk" = some (.ref c.c_Clerk)
  cl_Clerk : Cls K c.c_Clerk
  Clerk_init : Fun K "__init__" "Clerk.__init__" s_Clerk_init c.a_Clerk_init c.d_Clerk_init
  bi_Clerk_init : Binds K c.d_Clerk_init ["self"] []
  mk_Clerk : Mk K c.c_Clerk c.a_Clerk_init
  na_Clerk_entries : NoAttr K c.c_Clerk "entries"
  na_Clerk_results : NoAttr K c.c_Clerk "results"
  na_Clerk_deeds : NoAttr K c.c_Clerk "deeds"
  na_Clerk_piles : NoAttr K c.c_Clerk "piles"
  Results_put : Fun K "put" "Results.put" s_Results_put c.a_Results_put c.d_Results_put
  bi_Results_put : Binds K c.d_Results_put ["self", "entry"] []
  m_Results_put : Meth K c.c_Results "put" c.a_Results_put
  Results_name_of : Fun K "name_of" "Results.name_of" s_Results_name_of c.a_Results_name_of c.d_Results_name_of
  bi_Results_name_of : Binds K c.d_Results_name_of ["self", "entry"] []
  m_Results_name_of : Meth K c.c_Results "name_of" c.a_Results_name_of
  Results_outcome_of : Fun K "outcome_of" "Results.outcome_of" s_Results_outcome_of c.a_Results_outcome_of c.d_Results_outcome_of
  bi_Results_outcome_of : Binds K c.d_Results_outcome_of ["self", "entry", "name"] []
  m_Results_outcome_of : Meth K c.c_Results "outcome_of" c.a_Results_outcome_of
  Clerk_publish : Fun K "publish" "Clerk.publish" s_Clerk_publish c.a_Clerk_publish c.d_Clerk_publish
  bi_Clerk_publish : Binds K c.d_Clerk_publish ["self", "entry"] []
  m_Clerk_publish : Meth K c.c_Clerk "publish" c.a_Clerk_publish
  Clerk_book : Fun K "book" "Clerk.book" s_Clerk_book c.a_Clerk_book c.d_Clerk_book
  bi_Clerk_book : Binds K c.d_Clerk_book ["self"] []
  m_Clerk_book : Meth K c.c_Clerk "book" c.a_Clerk_book
  Clerk_acts : Fun K "acts" "Clerk.acts" s_Clerk_acts c.a_Clerk_acts c.d_Clerk_acts
  bi_Clerk_acts : Binds K c.d_Clerk_acts ["self"] []
  m_Clerk_acts : Meth K c.c_Clerk "acts" c.a_Clerk_acts
  Clerk_sorting : Fun K "sorting" "Clerk.sorting" s_Clerk_sorting c.a_Clerk_sorting c.d_Clerk_sorting
  bi_Clerk_sorting : Binds K c.d_Clerk_sorting ["self"] []
  m_Clerk_sorting : Meth K c.c_Clerk "sorting" c.a_Clerk_sorting
  mg_MOST_LETTERS : mg "MOST_LETTERS" = some c.u_MOST_LETTERS
  rl_MOST_LETTERS : RelV (.int 12) c.u_MOST_LETTERS
  mg_LAST_DAY : mg "LAST_DAY" = some c.u_LAST_DAY
  rl_LAST_DAY : RelV (.int 1000000) c.u_LAST_DAY
  mg_LAST_NUMBER : mg "LAST_NUMBER" = some c.u_LAST_NUMBER
  rl_LAST_NUMBER : RelV (.int 1000000000) c.u_LAST_NUMBER
  mg_RANKS : mg "RANKS" = some (.ref c.u_RANKS)
  sq_RANKS : ∀ H, SqT K H c.u_RANKS [.str "genus", .str "species", .str "form"]
  mg_ABOVE : mg "ABOVE" = some (.ref c.u_ABOVE)
  kd_ABOVE : KDict w K c.u_ABOVE ([("genus", .non), ("species", .str "genus"), ("form", .str "species")] : List (Str × V))
  mg_NoRank : mg "NoRank" = some (.ref c.c_NoRank)
  mg_NoNumber : mg "NoNumber" = some (.ref c.c_NoNumber)
  mg_NoDay : mg "NoDay" = some (.ref c.c_NoDay)
  mg_NoWord : mg "NoWord" = some (.ref c.c_NoWord)
  mg_NoSorting : mg "NoSorting" = some (.ref c.c_NoSorting)
  mg_NoEntry : mg "NoEntry" = some (.ref c.c_NoEntry)
  mg_Late : mg "Late" = some (.ref c.c_Late)
  mg_RightError : mg "RightError" = some (.ref c.c_RightError)
  mg_NoAct : mg "NoAct" = some (.ref c.c_NoAct)
  mg_NoSheet : mg "NoSheet" = some (.ref c.c_NoSheet)
  mg_NoPath : mg "NoPath" = some (.ref c.c_NoPath)
  x_NoRank : XCls K c.c_NoRank
  q_NoRank : XAsk K c.c_NoRank
  i_NoRank_NoEntry : PySem.W.kitOne K (.ref c.c_NoRank) (.ref c.c_NoEntry) = some false
  i_NoRank_Late : PySem.W.kitOne K (.ref c.c_NoRank) (.ref c.c_Late) = some false
  i_NoRank_NoAct : PySem.W.kitOne K (.ref c.c_NoRank) (.ref c.c_NoAct) = some false
  i_NoRank_NoSheet : PySem.W.kitOne K (.ref c.c_NoRank) (.ref c.c_NoSheet) = some false
  i_NoRank_NoPath : PySem.W.kitOne K (.ref c.c_NoRank) (.ref c.c_NoPath) = some false
  i_NoRank_ValueError : PySem.W.kitOne K (.ref c.c_NoRank) (.type "ValueError") = some true
  e_NoRank_RightError : PySem.W.exmOne K (.ref c.c_NoRank) (.ref c.c_RightError) = some true
  x_NoNumber : XCls K c.c_NoNumber
  q_NoNumber : XAsk K c.c_NoNumber
  i_NoNumber_NoEntry : PySem.W.kitOne K (.ref c.c_NoNumber) (.ref c.c_NoEntry) = some false
  i_NoNumber_Late : PySem.W.kitOne K (.ref c.c_NoNumber) (.ref c.c_Late) = some false
  i_NoNumber_NoAct : PySem.W.kitOne K (.ref c.c_NoNumber) (.ref c.c_NoAct) = some false
  i_NoNumber_NoSheet : PySem.W.kitOne K (.ref c.c_NoNumber) (.ref c.c_NoSheet) = some false
  i_NoNumber_NoPath : PySem.W.kitOne K (.ref c.c_NoNumber) (.ref c.c_NoPath) = some false
  i_NoNumber_ValueError : PySem.W.kitOne K (.ref c.c_NoNumber) (.type "ValueError") = some true
  e_NoNumber_RightError : PySem.W.exmOne K (.ref c.c_NoNumber) (.ref c.c_RightError) = some true
  x_NoDay : XCls K c.c_NoDay
  q_NoDay : XAsk K c.c_NoDay
  i_NoDay_NoEntry : PySem.W.kitOne K (.ref c.c_NoDay) (.ref c.c_NoEntry) = some false
  i_NoDay_Late : PySem.W.kitOne K (.ref c.c_NoDay) (.ref c.c_Late) = some false
  i_NoDay_NoAct : PySem.W.kitOne K (.ref c.c_NoDay) (.ref c.c_NoAct) = some false
  i_NoDay_NoSheet : PySem.W.kitOne K (.ref c.c_NoDay) (.ref c.c_NoSheet) = some false
  i_NoDay_NoPath : PySem.W.kitOne K (.ref c.c_NoDay) (.ref c.c_NoPath) = some false
  i_NoDay_ValueError : PySem.W.kitOne K (.ref c.c_NoDay) (.type "ValueError") = some true
  e_NoDay_RightError : PySem.W.exmOne K (.ref c.c_NoDay) (.ref c.c_RightError) = some true
  x_NoWord : XCls K c.c_NoWord
  q_NoWord : XAsk K c.c_NoWord
  i_NoWord_NoEntry : PySem.W.kitOne K (.ref c.c_NoWord) (.ref c.c_NoEntry) = some false
  i_NoWord_Late : PySem.W.kitOne K (.ref c.c_NoWord) (.ref c.c_Late) = some false
  i_NoWord_NoAct : PySem.W.kitOne K (.ref c.c_NoWord) (.ref c.c_NoAct) = some false
  i_NoWord_NoSheet : PySem.W.kitOne K (.ref c.c_NoWord) (.ref c.c_NoSheet) = some false
  i_NoWord_NoPath : PySem.W.kitOne K (.ref c.c_NoWord) (.ref c.c_NoPath) = some false
  i_NoWord_ValueError : PySem.W.kitOne K (.ref c.c_NoWord) (.type "ValueError") = some true
  e_NoWord_RightError : PySem.W.exmOne K (.ref c.c_NoWord) (.ref c.c_RightError) = some true
  x_NoSorting : XCls K c.c_NoSorting
  q_NoSorting : XAsk K c.c_NoSorting
  i_NoSorting_NoEntry : PySem.W.kitOne K (.ref c.c_NoSorting) (.ref c.c_NoEntry) = some false
  i_NoSorting_Late : PySem.W.kitOne K (.ref c.c_NoSorting) (.ref c.c_Late) = some false
  i_NoSorting_NoAct : PySem.W.kitOne K (.ref c.c_NoSorting) (.ref c.c_NoAct) = some false
  i_NoSorting_NoSheet : PySem.W.kitOne K (.ref c.c_NoSorting) (.ref c.c_NoSheet) = some false
  i_NoSorting_NoPath : PySem.W.kitOne K (.ref c.c_NoSorting) (.ref c.c_NoPath) = some false
  i_NoSorting_ValueError : PySem.W.kitOne K (.ref c.c_NoSorting) (.type "ValueError") = some true
  e_NoSorting_RightError : PySem.W.exmOne K (.ref c.c_NoSorting) (.ref c.c_RightError) = some true
  x_NoEntry : XCls K c.c_NoEntry
  q_NoEntry : XAsk K c.c_NoEntry
  i_NoEntry_NoEntry : PySem.W.kitOne K (.ref c.c_NoEntry) (.ref c.c_NoEntry) = some true
  i_NoEntry_Late : PySem.W.kitOne K (.ref c.c_NoEntry) (.ref c.c_Late) = some false
  i_NoEntry_NoAct : PySem.W.kitOne K (.ref c.c_NoEntry) (.ref c.c_NoAct) = some false
  i_NoEntry_NoSheet : PySem.W.kitOne K (.ref c.c_NoEntry) (.ref c.c_NoSheet) = some false
  i_NoEntry_NoPath : PySem.W.kitOne K (.ref c.c_NoEntry) (.ref c.c_NoPath) = some false
  i_NoEntry_ValueError : PySem.W.kitOne K (.ref c.c_NoEntry) (.type "ValueError") = some true
  e_NoEntry_RightError : PySem.W.exmOne K (.ref c.c_NoEntry) (.ref c.c_RightError) = some true
  x_Late : XCls K c.c_Late
  q_Late : XAsk K c.c_Late
  i_Late_NoEntry : PySem.W.kitOne K (.ref c.c_Late) (.ref c.c_NoEntry) = some false
  i_Late_Late : PySem.W.kitOne K (.ref c.c_Late) (.ref c.c_Late) = some true
  i_Late_NoAct : PySem.W.kitOne K (.ref c.c_Late) (.ref c.c_NoAct) = some false
  i_Late_NoSheet : PySem.W.kitOne K (.ref c.c_Late) (.ref c.c_NoSheet) = some false
  i_Late_NoPath : PySem.W.kitOne K (.ref c.c_Late) (.ref c.c_NoPath) = some false
  i_Late_ValueError : PySem.W.kitOne K (.ref c.c_Late) (.type "ValueError") = some true
  e_Late_RightError : PySem.W.exmOne K (.ref c.c_Late) (.ref c.c_RightError) = some true
  w_Entry : IAsk K c.c_Entry
  ws_Entry : PySem.W.kitOne K (.ref c.c_Entry) (.ref c.c_Entry) = some true
  wn_Entry_NoneType : PySem.W.kitOne K (.type "NoneType") (.ref c.c_Entry) = some false
  wn_Entry_int : PySem.W.kitOne K (.type "int") (.ref c.c_Entry) = some false
  wn_Entry_str : PySem.W.kitOne K (.type "str") (.ref c.c_Entry) = some false
  wn_Entry_bool : PySem.W.kitOne K (.type "bool") (.ref c.c_Entry) = some false
  wn_Entry_list : PySem.W.kitOne K (.type "list") (.ref c.c_Entry) = some false
  wn_Entry_tuple : PySem.W.kitOne K (.type "tuple") (.ref c.c_Entry) = some false
  wn_Entry_dict : PySem.W.kitOne K (.type "dict") (.ref c.c_Entry) = some false
  no_len : mg "len" = none
  no_isinstance : mg "isinstance" = none
  no_str : mg "str" = none
  no_bool : mg "bool" = none
  no_all : mg "all" = none
  no_range : mg "range" = none
  no_int : mg "int" = none
  no_list : mg "list" = none
  no_min : mg "min" = none
  no_max : mg "max" = none
  no_dict : mg "dict" = none
  no_zip : mg "zip" = none
  no_ValueError : mg "ValueError" = none
theorem sc_is_whole : FnScope ["thing"] ["thing"] (defScope s_is_whole) := ⟨rfl, rfl, rfl, by decide +kernel, rfl, by decide +kernel, by decide +kernel⟩
theorem sc_is_day : FnScope ["thing"] ["thing"] (defScope s_is_day) := ⟨rfl, rfl, rfl, by decide +kernel, rfl, by decide +kernel, by decide +kernel⟩
theorem sc_is_number : FnScope ["thing"] ["thing"] (defScope s_is_number) := ⟨rfl, rfl, rfl, by decide +kernel, rfl, by decide +kernel, by decide +kernel⟩
theorem sc_is_word : FnScope ["thing"] ["thing"] (defScope s_is_word) := ⟨rfl, rfl, rfl, by decide +kernel, rfl, by decide +kernel, by decide +kernel⟩
theorem sc_is_rank : FnScope ["thing"] ["thing"] (defScope s_is_rank) := ⟨rfl, rfl, rfl, by decide +kernel, rfl, by decide +kernel, by decide +kernel⟩
theorem sc_above : FnScope ["rank"] ["rank"] (defScope s_above) := ⟨rfl, rfl, rfl, by decide +kernel, rfl, by decide +kernel, by decide +kernel⟩
theorem sc_refuse_head : FnScope ["number", "day", "rank", "word"] ["number", "day", "rank", "word"] (defScope s_refuse_head) := ⟨rfl, rfl, rfl, by decide +kernel, rfl, by decide +kernel, by decide +kernel⟩
theorem sc_under_fits : FnScope ["rank", "under"] ["rank", "under"] (defScope s_under_fits) := ⟨rfl, rfl, rfl, by decide +kernel, rfl, by decide +kernel, by decide +kernel⟩
theorem sc_tie_fits : FnScope ["rank", "sheet", "base"] ["rank", "sheet", "base"] (defScope s_tie_fits) := ⟨rfl, rfl, rfl, by decide +kernel, rfl, by decide +kernel, by decide +kernel⟩
theorem sc_ahead : FnScope ["one", "other"] ["one", "other"] (defScope s_ahead) := ⟨rfl, rfl, rfl, by decide +kernel, rfl, by decide +kernel, by decide +kernel⟩
theorem sc_sorting_list : FnScope ["sorting", "seen"] ["sorting"] (defScope s_sorting_list) := ⟨rfl, rfl, rfl, by decide +kernel, rfl, by decide +kernel, by decide +kernel⟩
theorem sc_group_list : FnScope ["group", "depth", "seen"] ["group", "depth", "seen"] (defScope s_group_list) := ⟨rfl, rfl, rfl, by decide +kernel, rfl, by decide +kernel, by decide +kernel⟩
theorem sc_sheet_list : FnScope ["sheets", "seen", "found", "sheet"] ["sheets", "seen"] (defScope s_sheet_list) := ⟨rfl, rfl, rfl, by decide +kernel, rfl, by decide +kernel, by decide +kernel⟩
theorem sc_Lcell_at : FnScope ["_law_script", "_law_k"] ["_law_script", "_law_k"] (defScope s_Lcell_at) := ⟨rfl, rfl, rfl, by decide +kernel, rfl, by decide +kernel, by decide +kernel⟩
theorem sc_Lwhole : FnScope ["_law_found"] ["_law_found"] (defScope s_Lwhole) := ⟨rfl, rfl, rfl, by decide +kernel, rfl, by decide +kernel, by decide +kernel⟩
theorem sc_Lmixed : FnScope ["_law_cell", "_law_k"] ["_law_cell", "_law_k"] (defScope s_Lmixed) := ⟨rfl, rfl, rfl, by decide +kernel, rfl, by decide +kernel, by decide +kernel⟩
theorem sc_Ldraws : FnScope ["_law_cell", "_law_k", "_law_free", "_law_found", "_law_left", "_law_mixed_here", "_law_j"] ["_law_cell", "_law_k", "_law_free"] (defScope s_Ldraws) := ⟨rfl, rfl, rfl, by decide +kernel, rfl, by decide +kernel, by decide +kernel⟩
theorem sc_Lwords : FnScope ["_law_cell", "_law_free", "_law_letters", "_law_size", "_law_at", "_law_left", "_law_numbers", "_law_j", "_law_number", "_law_words_here", "_law_k", "_law_signs"] ["_law_cell", "_law_free"] (defScope s_Lwords) := ⟨rfl, rfl, rfl, by decide +kernel, rfl, by decide +kernel, by decide +kernel⟩
theorem sc_Lany_word : FnScope ["_law_number", "_law_size", "_law_word", "_law_j"] ["_law_number"] (defScope s_Lany_word) := ⟨rfl, rfl, rfl, by decide +kernel, rfl, by decide +kernel, by decide +kernel⟩
theorem sc_Lstamp : FnScope ["_law_book_here", "_law_one", "_law_other", "_law_day", "_law_number"] ["_law_book_here", "_law_one", "_law_other"] (defScope s_Lstamp) := ⟨rfl, rfl, rfl, by decide +kernel, rfl, by decide +kernel, by decide +kernel⟩
theorem sc_Lpick : FnScope ["_law_book_here", "_law_rank", "_law_one", "_law_other", "_law_some"] ["_law_book_here", "_law_rank", "_law_one", "_law_other"] (defScope s_Lpick) := ⟨rfl, rfl, rfl, by decide +kernel, rfl, by decide +kernel, by decide +kernel⟩
theorem sc_Lbase : FnScope ["_law_book_here", "_law_rank", "_law_one", "_law_other", "_law_some"] ["_law_book_here", "_law_rank", "_law_one", "_law_other"] (defScope s_Lbase) := ⟨rfl, rfl, rfl, by decide +kernel, rfl, by decide +kernel, by decide +kernel⟩
theorem sc_Lentry : FnScope ["_law_book_here", "_law_words_here", "_law_cell", "_law_k", "_law_free", "_law_draws_here", "_law_number", "_law_day", "_law_word", "_law_sheet", "_law_described", "_law_rank", "_law_under", "_law_base_here", "_law_root"] ["_law_book_here", "_law_words_here", "_law_cell", "_law_k", "_law_free"] (defScope s_Lentry) := ⟨rfl, rfl, rfl, by decide +kernel, rfl, by decide +kernel, by decide +kernel⟩
theorem sc_Lbook : FnScope ["_law_script", "_law_start", "_law_free", "_law_words_here", "_law_book_here", "_law_k"] ["_law_script", "_law_start"] (defScope s_Lbook) := ⟨rfl, rfl, rfl, by decide +kernel, rfl, by decide +kernel, by decide +kernel⟩
theorem sc_Lmade : FnScope ["_law_book_here", "_law_found", "_law_one"] ["_law_book_here"] (defScope s_Lmade) := ⟨rfl, rfl, rfl, by decide +kernel, rfl, by decide +kernel, by decide +kernel⟩
theorem sc_Lup : FnScope ["_law_rank"] ["_law_rank"] (defScope s_Lup) := ⟨rfl, rfl, rfl, by decide +kernel, rfl, by decide +kernel, by decide +kernel⟩
theorem sc_Lword_of : FnScope ["_law_one", "_law_name", "_law_right", "_law_borne", "_law_root"] ["_law_one", "_law_name", "_law_right", "_law_borne"] (defScope s_Lword_of) := ⟨rfl, rfl, rfl, by decide +kernel, rfl, by decide +kernel, by decide +kernel⟩
theorem sc_Lsieved : FnScope ["_law_book_here", "_law_right", "_law_names", "_law_borne", "_law_words_here", "_law_one", "_law_name", "_law_over"] ["_law_book_here"] (defScope s_Lsieved) := ⟨rfl, rfl, rfl, by decide +kernel, rfl, by decide +kernel, by decide +kernel⟩
theorem sc_Lis_entry : FnScope ["_law_entry_here", "_law_one", "_law_found"] ["_law_entry_here", "_law_one"] (defScope s_Lis_entry) := ⟨rfl, rfl, rfl, by decide +kernel, rfl, by decide +kernel, by decide +kernel⟩
theorem sc_Lis_book : FnScope ["_law_found", "_law_book_here", "_law_entry_here", "_law_one"] ["_law_found", "_law_book_here"] (defScope s_Lis_book) := ⟨rfl, rfl, rfl, by decide +kernel, rfl, by decide +kernel, by decide +kernel⟩
theorem sc_Lkind : FnScope ["_law_error", "_law_told"] ["_law_error"] (defScope s_Lkind) := ⟨rfl, rfl, rfl, by decide +kernel, rfl, by decide +kernel, by decide +kernel⟩
theorem sc_Lrefused : FnScope ["_law_clerk", "_law_thing", "_law_due", "_law_kind_here", "e"] ["_law_clerk", "_law_thing", "_law_due"] (defScope s_Lrefused) := ⟨rfl, rfl, rfl, by decide +kernel, rfl, by decide +kernel, by decide +kernel⟩
theorem sc_Lodd : FnScope ["_law_clerk", "_law_book_here", "_law_mixed_here", "_law_thing", "_law_one", "_law_late", "_law_number"] ["_law_clerk", "_law_book_here", "_law_mixed_here"] (defScope s_Lodd) := ⟨rfl, rfl, rfl, by decide +kernel, rfl, by decide +kernel, by decide +kernel⟩
theorem sc_law : FnScope ["_law_script", "_law_book_here", "_law_entries", "_law_clerk", "_law_beside", "_law_other", "_law_k", "_law_mixed_here", "_law_word", "_law_found"] ["_law_script"] (defScope s_law) := ⟨rfl, rfl, rfl, by decide +kernel, rfl, by decide +kernel, by decide +kernel⟩
theorem sc_Entry_init : FnScope ["self", "number", "day", "rank", "word", "under", "sheet", "base", "described"] ["self", "number", "day", "rank", "word", "under", "sheet", "base", "described"] (defScope s_Entry_init) := ⟨rfl, rfl, rfl, by decide +kernel, rfl, by decide +kernel, by decide +kernel⟩
theorem sc_Results_init : FnScope ["self"] ["self"] (defScope s_Results_init) := ⟨rfl, rfl, rfl, by decide +kernel, rfl, by decide +kernel, by decide +kernel⟩
theorem sc_Clerk_init : FnScope ["self"] ["self"] (defScope s_Clerk_init) := ⟨rfl, rfl, rfl, by decide +kernel, rfl, by decide +kernel, by decide +kernel⟩
theorem sc_Results_put : FnScope ["self", "entry", "name", "out"] ["self", "entry"] (defScope s_Results_put) := ⟨rfl, rfl, rfl, by decide +kernel, rfl, by decide +kernel, by decide +kernel⟩
theorem sc_Results_name_of : FnScope ["self", "entry", "upper"] ["self", "entry"] (defScope s_Results_name_of) := ⟨rfl, rfl, rfl, by decide +kernel, rfl, by decide +kernel, by decide +kernel⟩
theorem sc_Results_outcome_of : FnScope ["self", "entry", "name", "base"] ["self", "entry", "name"] (defScope s_Results_outcome_of) := ⟨rfl, rfl, rfl, by decide +kernel, rfl, by decide +kernel, by decide +kernel⟩
theorem sc_Clerk_publish : FnScope ["self", "entry"] ["self", "entry"] (defScope s_Clerk_publish) := ⟨rfl, rfl, rfl, by decide +kernel, rfl, by decide +kernel, by decide +kernel⟩
theorem sc_Clerk_book : FnScope ["self"] ["self"] (defScope s_Clerk_book) := ⟨rfl, rfl, rfl, by decide +kernel, rfl, by decide +kernel, by decide +kernel⟩
theorem sc_Clerk_acts : FnScope ["self"] ["self"] (defScope s_Clerk_acts) := ⟨rfl, rfl, rfl, by decide +kernel, rfl, by decide +kernel, by decide +kernel⟩
theorem sc_Clerk_sorting : FnScope ["self"] ["self"] (defScope s_Clerk_sorting) := ⟨rfl, rfl, rfl, by decide +kernel, rfl, by decide +kernel, by decide +kernel⟩
section
variable {P : Program} {w : World} {K : PySem.W.Frag} {mg : Str → Option Value} {base : Heap} {c : Ad}

set_option maxHeartbeats 4000000 in
theorem ok_is_whole (T : Txt w K mg c) : FnOk P w K mg base CX0 1 c.a_is_whole c.d_is_whole ["thing"] (spW K) := by
  refine T.is_whole.fn.ok sc_is_whole (fun vs H Q E h => ?_) (fun cdv A outer s H vs Q E hr h => ?_)
  · obtain ⟨x, rfl, _⟩ := h
    rfl
  · obtain ⟨x, rfl, ow, k⟩ := h
    refine ⟨_, (pss_one (ps_ret (pe_and (pe_callB call_isiA rfl T.no_isinstance bt_isinstance (pa_cons (pv 0) (pa_cons (pe_bltn (v := .ty "int") rfl T.no_int bt_int rfl) pa_nil))) (pe_one (pe_not (pe_callB call_isiA rfl T.no_isinstance bt_isinstance (pa_cons (pv 0) (pa_cons (pe_bltn (v := .ty "bool") rfl T.no_bool bt_bool rfl) pa_nil)))))))), ?_⟩
    refine ⟨x, rfl, rIsiA.int ow ⟨_, rfl, ?_⟩⟩
    cases x with
    | int i => exact iteT ⟨_, rfl, rIsiA.bool ow ⟨_, rfl, k⟩⟩
    | bl b => exact iteT ⟨_, rfl, rIsiA.bool ow ⟨_, rfl, k⟩⟩
    | _ => exact iteF k

set_option maxHeartbeats 4000000 in
theorem ok_is_day (T : Txt w K mg c) : FnOk P w K mg base CX0 2 c.a_is_day c.d_is_day ["thing"] (spR K 1000000) := by
  refine T.is_day.fn.ok sc_is_day (fun vs H Q E h => ?_) (fun cdv A outer s H vs Q E hr h => ?_)
  · obtain ⟨x, rfl, _⟩ := h
    rfl
  · obtain ⟨x, rfl, ow, k⟩ := h
    refine ⟨_, (pss_one (ps_ret (pe_and (pe_call (ok_is_whole T) (hr.mono (by decide)) rfl T.is_whole.mgf T.is_whole.kp T.is_whole.bi .nil pass0 (pa_cons (pv 0) pa_nil)) (pe_one (pe_chain op_le op_le pe_int (pv 0) (pe_glob rfl T.mg_LAST_DAY T.rl_LAST_DAY)))))), ?_⟩
    refine ⟨x, rfl, x, rfl, ow, _, rfl, ?_⟩
    cases x with
    | int i =>
      refine iteT ⟨_, rfl, _, _, rfl, rfl, _, rfl, ?_⟩
      by_cases h1 : 1 ≤ i
      · rw [if_pos (decide_eq_true h1)]
        refine ⟨_, _, rfl, rfl, ?_⟩
        simpa [inR, h1] using k
      · rw [if_neg (by simp [h1])]
        simpa [inR, h1] using k
    | _ => exact iteF k

set_option maxHeartbeats 4000000 in
theorem ok_is_number (T : Txt w K mg c) : FnOk P w K mg base CX0 2 c.a_is_number c.d_is_number ["thing"] (spR K 1000000000) := by
  refine T.is_number.fn.ok sc_is_number (fun vs H Q E h => ?_) (fun cdv A outer s H vs Q E hr h => ?_)
  · obtain ⟨x, rfl, _⟩ := h
    rfl
  · obtain ⟨x, rfl, ow, k⟩ := h
    refine ⟨_, (pss_one (ps_ret (pe_and (pe_call (ok_is_whole T) (hr.mono (by decide)) rfl T.is_whole.mgf T.is_whole.kp T.is_whole.bi .nil pass0 (pa_cons (pv 0) pa_nil)) (pe_one (pe_chain op_le op_le pe_int (pv 0) (pe_glob rfl T.mg_LAST_NUMBER T.rl_LAST_NUMBER)))))), ?_⟩
    refine ⟨x, rfl, x, rfl, ow, _, rfl, ?_⟩
    cases x with
    | int i =>
      refine iteT ⟨_, rfl, _, _, rfl, rfl, _, rfl, ?_⟩
      by_cases h1 : 1 ≤ i
      · rw [if_pos (decide_eq_true h1)]
        refine ⟨_, _, rfl, rfl, ?_⟩
        simpa [inR, h1] using k
      · rw [if_neg (by simp [h1])]
        simpa [inR, h1] using k
    | _ => exact iteF k

set_option maxHeartbeats 4000000 in
theorem ok_is_word (T : Txt w K mg c) : FnOk P w K mg base CX0 1 c.a_is_word c.d_is_word ["thing"] (spWord K) := by
  refine T.is_word.fn.ok sc_is_word (fun vs H Q E h => ?_) (fun cdv A outer s H vs Q E hr h => ?_)
  · obtain ⟨x, rfl, _⟩ := h
    rfl
  · obtain ⟨x, rfl, ow, hz, k⟩ := h
    refine ⟨_, (pss_cons (ps_if (PW.pt (pw_or (pt_not (pt_val (pe_callB call_isiA rfl T.no_isinstance bt_isinstance (pa_cons (pv 0) (pa_cons (pe_bltn (v := .ty "str") rfl T.no_str bt_str rfl) pa_nil))))) (pw_or1 (pt_not (pt_chain op_le op_le pe_int (pe_callB call_len_str rfl T.no_len bt_len (pa_cons (pv 0) pa_nil)) (pe_glob rfl T.mg_MOST_LETTERS T.rl_MOST_LETTERS))))))
        (pss_one (ps_ret pe_bl))
        pss_nil)
      (pss_one (ps_ret (pe_callB (call_all rfl) rfl T.no_all bt_all (pa_cons (pe_comp (N' := ["sign"]) (js := [none]) rfl rfl (by decide +kernel) (by decide +kernel) (free_nil (by decide +kernel)) (cap_nil rfl rfl) (pi_str (pv 0)) (fun B => ⟨(pg_name (i := 0) (show List.Nodup (["sign"] : List Str) by decide +kernel) rfl (Or.inl rfl)), pifs_nil, (pe_chain op_le_str op_le_str pe_str (pv 0) pe_str)⟩)) pa_nil))))), ?_⟩
    refine ⟨x, rfl, rIsiA.str ow ⟨_, rfl, ?_⟩⟩
    cases x with
    | str z =>
      have hz : z.length ≤ sizeLine := hz
      refine iteF ?_
      walk_at "rd"
      refine ⟨hz, ?_⟩
      walk_at "rd"
      refine ite2 (fun h1 => ?_) (fun h1 => ?_)
      · walk_at "rd"
        by_cases h2 : ((z.length : Int) ≤ 12)
        · rw [decide_eq_true h2]
          refine iteF ⟨_, rfl, _, rfl, fun l B hl => ?_⟩
          have en : z.cps.toList.length = z.length := by simp [Str.length]
          refine loop_by z.cps.size (fun i σ acc H' => (∃ o, σ = [o]) ∧ acc = (z.cps.toList.take i).map (fun c => V.bl (letter c)) ∧ H' = upd H l (.lst acc)) hz ?_ ?_ ?_ ?_ ?_
          · exact ⟨⟨_, rfl⟩, rfl, rfl⟩
          · rintro i σ acc H' hi ⟨_, e, e'⟩
            refine ⟨by rw [e']; exact upd_same, ?_⟩
            rw [e, List.length_map, List.length_take]
            omega
          · intro i σ acc H' hi _
            exact hi
          · rintro i x σ acc H' H'' hi ⟨⟨o, rfl⟩, e, e'⟩ ⟨rfl, c, hc, rfl⟩
            have hc' : z.cps.toList[i]? = some c := by simpa using hc
            have fin : ∀ b, b = letter c → H'' l = some (.lst acc) ∧ Nx z.cps.size i ((∃ o, ([o].set 0 (some (V.str ⟨#[c]⟩)) : St) = [o]) ∧ acc ++ [V.bl b] = (z.cps.toList.take (i + 1)).map (fun c => V.bl (letter c)) ∧ upd H'' l (.lst (acc ++ [V.bl b])) = upd H l (.lst (acc ++ [V.bl b]))) := by
              intro b eb
              refine ⟨by rw [e']; exact upd_same, Nx.mk hi ⟨⟨_, rfl⟩, ?_, by rw [e', upd_upd]⟩⟩
              rw [take_one hc', List.map_append, ← e, eb]
              rfl
            walk_at "rd"
            rw [le_a]
            refine ite2 (fun g1 => ?_) (fun g1 => ?_)
            · walk_at "rd"
              refine fin _ ?_
              rw [le_z]
              unfold letter
              rw [g1]
              rfl
            · refine fin _ ?_
              unfold letter
              rw [eq_false_of_ne_true g1]
              rfl
          · rintro σ acc H' ⟨_, e, e'⟩
            refine ⟨rfl, l, z.cps.toList.map letter, rfl, SqL.of (by rw [e', upd_same, e, List.take_of_length_le (by simp)]; simp), ?_⟩
            have q := k H' (by rw [e']; exact Same.new hl)
            have ev : isWord (.str z) = (z.cps.toList.map letter).all id := by
              rw [isWord_str, h1, decide_eq_true h2, List.all_map]
              rfl
            rw [ev] at q
            exact q
        · rw [decide_eq_false h2]
          refine iteT ?_
          have ev : isWord (.str z) = false := by
            rw [isWord_str, decide_eq_false h2, Bool.and_false, Bool.false_and]
          have q := k H (Same.refl H)
          rw [ev] at q
          exact q
      · have ev : isWord (.str z) = false := by
          rw [isWord_str, eq_false_of_ne_true h1, Bool.false_and, Bool.false_and]
        have q := k H (Same.refl H)
        rw [ev] at q
        walk_at "rd"
        exact q
    | _ => exact iteT (k _ (Same.refl H))

set_option maxHeartbeats 4000000 in
theorem ok_is_rank (T : Txt w K mg c) : FnOk P w K mg base CX0 1 c.a_is_rank c.d_is_rank ["thing"] (spRank K) := by
  refine T.is_rank.fn.ok sc_is_rank (fun vs H Q E h => ?_) (fun cdv A outer s H vs Q E hr h => ?_)
  · obtain ⟨x, rfl, _⟩ := h
    rfl
  · obtain ⟨x, rfl, ow, k⟩ := h
    refine ⟨_, (pss_one (ps_ret (pe_and (pe_callB call_isiA rfl T.no_isinstance bt_isinstance (pa_cons (pv 0) (pa_cons (pe_bltn (v := .ty "str") rfl T.no_str bt_str rfl) pa_nil))) (pe_one (pe_cmpR op_in_seq (pv 0) (pe_glob (v := .ref c.u_RANKS) rfl T.mg_RANKS rfl) (by with_unfolding_all rfl)))))), ?_⟩
    refine ⟨x, rfl, rIsiA.str ow ⟨_, rfl, ?_⟩⟩
    cases x with
    | str z => exact iteT ⟨_, rfl, c.u_RANKS, ranks, rfl, .inr (T.sq_RANKS _), rfl, rfl, k⟩
    | _ => exact iteF k

set_option maxHeartbeats 4000000 in
theorem ok_refuse_head (T : Txt w K mg c) : FnOk P w K mg base (CXx P w) 3 c.a_refuse_head c.d_refuse_head ["number", "day", "rank", "word"] (spHead K ⟨c.c_NoNumber, c.c_NoDay, c.c_NoRank, c.c_NoWord, c.c_NoEntry⟩) := by
  refine T.refuse_head.fn.okx sc_refuse_head (fun vs H Q E h => ?_) (fun cdv A outer s H vs Q E hr h => ?_)
  · obtain ⟨n, d, r, w, rfl, _⟩ := h
    rfl
  · obtain ⟨n, d, r, w, rfl, on, od, or', ow, fw, k⟩ := h
    refine ⟨_, (pss_cons (ps_if (pt_not (pt_val (pe_call (ok_is_number T) (hr.mono (by decide)) rfl T.is_number.mgf T.is_number.kp T.is_number.bi .nil pass0 (pa_cons (pv 0) pa_nil))))
        (pss_one (ps_raise T.x_NoNumber rfl rfl T.mg_NoNumber rz_def (pa_cons pe_str pa_nil)))
        pss_nil)
      (pss_cons (ps_if (pt_not (pt_val (pe_call (ok_is_day T) (hr.mono (by decide)) rfl T.is_day.mgf T.is_day.kp T.is_day.bi .nil pass0 (pa_cons (pv 1) pa_nil))))
        (pss_one (ps_raise T.x_NoDay rfl rfl T.mg_NoDay rz_def (pa_cons pe_str pa_nil)))
        pss_nil)
      (pss_cons (ps_if (pt_not (pt_val (pe_call (ok_is_rank T) (hr.mono (by decide)) rfl T.is_rank.mgf T.is_rank.kp T.is_rank.bi .nil pass0 (pa_cons (pv 2) pa_nil))))
        (pss_one (ps_raise T.x_NoRank rfl rfl T.mg_NoRank rz_def (pa_cons pe_str pa_nil)))
        pss_nil)
      (pss_one (ps_if (pt_not (pt_val (pe_call (ok_is_word T) (hr.mono (by decide)) rfl T.is_word.mgf T.is_word.kp T.is_word.bi .nil pass0 (pa_cons (pv 3) pa_nil))))
        (pss_one (ps_raise T.x_NoWord rfl rfl T.mg_NoWord rz_def (pa_cons pe_str pa_nil)))
        pss_nil))))), ?_⟩
    walk_at "rd"
    refine ⟨on, ?_⟩
    walk_at "rd"
    refine iteB (fun h1 => ?_) (fun h1 => ?_)
    · have h1 : inR 1000000000 n = false := by simpa using h1
      have e : whyH n d r w = 1 := by unfold whyH; rw [if_pos h1]
      have q := (k H (Same.refl H)).2 (by rw [e]; decide)
      rw [e] at q
      exact ⟨le_ble rfl, q⟩
    have h1 : ¬ inR 1000000000 n = false := by simpa using h1
    walk_at "rd"
    refine ⟨od, ?_⟩
    walk_at "rd"
    refine iteB (fun h2 => ?_) (fun h2 => ?_)
    · have h2 : inR 1000000 d = false := by simpa using h2
      have e : whyH n d r w = 2 := by unfold whyH; rw [if_neg h1, if_pos h2]
      have q := (k H (Same.refl H)).2 (by rw [e]; decide)
      rw [e] at q
      exact ⟨le_ble rfl, q⟩
    have h2 : ¬ inR 1000000 d = false := by simpa using h2
    walk_at "rd"
    refine ⟨or', ?_⟩
    walk_at "rd"
    refine iteB (fun h3 => ?_) (fun h3 => ?_)
    · have h3 : isRank r = false := by simpa using h3
      have e : whyH n d r w = 3 := by unfold whyH; rw [if_neg h1, if_neg h2, if_pos h3]
      have q := (k H (Same.refl H)).2 (by rw [e]; decide)
      rw [e] at q
      exact ⟨le_ble rfl, q⟩
    have h3 : ¬ isRank r = false := by simpa using h3
    walk_at "rd"
    refine ⟨ow, fw, fun H' s1 => ?_⟩
    walk_at "rd"
    refine iteB (fun h4 => ?_) (fun h4 => ?_)
    · have h4 : isWord w = false := by simpa using h4
      have e : whyH n d r w = 4 := by unfold whyH; rw [if_neg h1, if_neg h2, if_neg h3, if_pos h4]
      have q := (k H' s1).2 (by rw [e]; decide)
      rw [e] at q
      exact ⟨le_ble rfl, q⟩
    have h4 : ¬ isWord w = false := by simpa using h4
    exact (k H' s1).1 (by unfold whyH; rw [if_neg h1, if_neg h2, if_neg h3, if_neg h4])

set_option maxHeartbeats 4000000 in
theorem ok_under_fits (T : Txt w K mg c) : FnOk P w K mg base CX0 3 c.a_under_fits c.d_under_fits ["rank", "under"] (spUnder K) := by
  refine T.under_fits.fn.ok sc_under_fits (fun vs H Q E h => ?_) (fun cdv A outer s H vs Q E hr h => ?_)
  · obtain ⟨z, u, rfl, _⟩ := h
    rfl
  · obtain ⟨z, u, rfl, ou, k⟩ := h
    refine ⟨_, (pss_cons (ps_if (pt_cmpR op_eq (pv 0) pe_str (nomark _))
        (pss_one (ps_ret (pe_cmp (pc_isN (pv 1)))))
        pss_nil)
      (pss_one (ps_ret (pe_call (ok_is_number T) (hr.mono (by decide)) rfl T.is_number.mgf T.is_number.kp T.is_number.bi .nil pass0 (pa_cons (pv 1) pa_nil))))), ?_⟩
    walk_at "rd"
    refine ite2 (fun h => ?_) (fun h => ?_)
    · have e : underFits (.str z) u = decide (u = .non) := by unfold underFits; rw [if_pos (of_decide_eq_true h)]
      rw [e] at k
      walk_at "rd"
      exact k
    · have e : underFits (.str z) u = inR 1000000000 u := by unfold underFits; rw [if_neg (fun q => h (decide_eq_true q))]
      rw [e] at k
      exact ⟨_, rfl, u, rfl, ou, k⟩

set_option maxHeartbeats 4000000 in
theorem ok_tie_fits (T : Txt w K mg c) : FnOk P w K mg base CX0 3 c.a_tie_fits c.d_tie_fits ["rank", "sheet", "base"] (spTie K) := by
  refine T.tie_fits.fn.ok sc_tie_fits (fun vs H Q E h => ?_) (fun cdv A outer s H vs Q E hr h => ?_)
  · obtain ⟨z, s', b, rfl, _⟩ := h
    rfl
  · obtain ⟨z, s', b, rfl, os, ob, k⟩ := h
    refine ⟨_, (pss_cons (ps_if (pt_cmp (pc_isN (pv 2)))
        (pss_one (ps_ret (pe_call (ok_is_number T) (hr.mono (by decide)) rfl T.is_number.mgf T.is_number.kp T.is_number.bi .nil pass0 (pa_cons (pv 1) pa_nil))))
        pss_nil)
      (pss_one (ps_ret (pe_and (pe_cmpR op_ne (pv 0) pe_str (nomark _)) (pe_and (pe_cmp (pc_isN (pv 1))) (pe_one (pe_call (ok_is_number T) (hr.mono (by decide)) rfl T.is_number.mgf T.is_number.kp T.is_number.bi .nil pass0 (pa_cons (pv 2) pa_nil)))))))), ?_⟩
    walk_at "rd"
    refine ite2 (fun h => ?_) (fun h => ?_)
    · have e : tieFits (.str z) s' b = inR 1000000000 s' := by unfold tieFits; rw [if_pos (of_decide_eq_true h)]
      rw [e] at k
      exact ⟨_, rfl, s', rfl, os, k⟩
    have hb : ¬ b = .non := fun q => h (decide_eq_true q)
    walk_at "rd"
    refine iteB (fun h1 => ?_) (fun h1 => ?_)
    · walk_at "rd"
      refine iteB (fun h2 => ?_) (fun h2 => ?_)
      · have e : tieFits (.str z) s' b = inR 1000000000 b := by
          unfold tieFits
          rw [if_neg hb, h1, h2]
          rfl
        rw [e] at k
        exact ⟨_, rfl, b, rfl, ob, k⟩
      · have e : tieFits (.str z) s' b = false := by
          unfold tieFits
          rw [if_neg hb, h2]
          simp
        rw [e] at k
        exact k
    · have e : tieFits (.str z) s' b = false := by
        unfold tieFits
        rw [if_neg hb, h1]
        rfl
      rw [e] at k
      exact k

set_option maxHeartbeats 4000000 in
theorem ok_Entry_init (T : Txt w K mg c) : FnOk P w K mg base (CXx P w) 4 c.a_Entry_init c.d_Entry_init ["self", "number", "day", "rank", "word", "under", "sheet", "base", "described"] (spInit K c.c_Entry ⟨c.c_NoNumber, c.c_NoDay, c.c_NoRank, c.c_NoWord, c.c_NoEntry⟩) := by
  refine T.Entry_init.okx sc_Entry_init (fun vs H Q E h => ?_) (fun cdv A outer s H vs Q E hr h => ?_)
  · obtain ⟨a, dx, n, d, r, w, u, s', b, kk, rfl, _⟩ := h
    rfl
  · obtain ⟨a, dx, n, d, r, w, u, s', b, kk, rfl, ha, on, od, or', ow, fw, ou, os, ob, k⟩ := h
    refine ⟨_, (pss_cons (ps_expr (pe_callS (ok_refuse_head T) (hr.mono (by decide)) rfl T.refuse_head.mgf T.refuse_head.kp T.refuse_head.bi .nil pass_def (pa_cons (pv 1) (pa_cons (pv 2) (pa_cons (pv 3) (pa_cons (pv 4) pa_nil))))))
      (pss_cons (ps_if (pt_not (pt_val (pe_call (ok_under_fits T) (hr.mono (by decide)) rfl T.under_fits.mgf T.under_fits.kp T.under_fits.bi .nil pass0 (pa_cons (pv 3) (pa_cons (pv 5) pa_nil)))))
        (pss_one (ps_raise T.x_NoEntry rfl rfl T.mg_NoEntry rz_def (pa_cons pe_str pa_nil)))
        pss_nil)
      (pss_cons (ps_if (pt_not (pt_val (pe_call (ok_tie_fits T) (hr.mono (by decide)) rfl T.tie_fits.mgf T.tie_fits.kp T.tie_fits.bi .nil pass0 (pa_cons (pv 3) (pa_cons (pv 6) (pa_cons (pv 7) pa_nil))))))
        (pss_one (ps_raise T.x_NoEntry rfl rfl T.mg_NoEntry rz_def (pa_cons pe_str pa_nil)))
        pss_nil)
      (pss_cons (ps_fld (pv 0) (pv 1) rfl)
      (pss_cons (ps_fld (pv 0) (pv 2) rfl)
      (pss_cons (ps_fld (pv 0) (pv 3) rfl)
      (pss_cons (ps_fld (pv 0) (pv 4) rfl)
      (pss_cons (ps_fld (pv 0) (pv 5) rfl)
      (pss_cons (ps_fld (pv 0) (pv 6) rfl)
      (pss_cons (ps_fld (pv 0) (pv 7) rfl)
      (pss_one (ps_fld (pv 0) (pv 8) rfl)))))))))))), ?_⟩
    refine ⟨_, rfl, _, rfl, _, rfl, _, rfl, n, d, r, w, rfl, on, od, or', ow, fw, fun H' s1 => ⟨fun h0 => ?_, fun h0 => ?_⟩⟩
    rotate_left
    · have e : why n d r w u s' b = whyH n d r w := by unfold why; rw [if_pos h0]
      have q := (k H' s1).2 (by rw [e]; exact h0)
      rw [e] at q
      exact q
    have hr3 : ∃ z : Str, r = .str z := by
      unfold whyH at h0
      split at h0
      · cases h0
      · split at h0
        · cases h0
        · split at h0
          · cases h0
          · rename_i q
            cases r <;> first | exact ⟨_, rfl⟩ | exact absurd rfl q
    obtain ⟨z, rfl⟩ := hr3
    refine ⟨_, rfl, _, rfl, z, u, rfl, ou.same s1, _, rfl, ?_⟩
    refine iteB (fun h1 => ?_) (fun h1 => ?_)
    · have h1 : underFits (.str z) u = false := by simpa using h1
      have e : why n d (.str z) w u s' b = 5 := by unfold why; rw [if_neg (by rw [h0]; decide), if_pos h1]
      have q := (k H' s1).2 (by rw [e]; decide)
      rw [e] at q
      exact ⟨le_ble rfl, q⟩
    have h1 : ¬ underFits (.str z) u = false := by simpa using h1
    refine ⟨_, rfl, _, rfl, _, rfl, z, s', b, rfl, os.same s1, ob.same s1, _, rfl, ?_⟩
    refine iteB (fun h2 => ?_) (fun h2 => ?_)
    · have h2 : tieFits (.str z) s' b = false := by simpa using h2
      have e : why n d (.str z) w u s' b = 5 := by unfold why; rw [if_neg (by rw [h0]; decide), if_neg h1, if_pos h2]
      have q := (k H' s1).2 (by rw [e]; decide)
      rw [e] at q
      exact ⟨le_ble rfl, q⟩
    have h2 : ¬ tieFits (.str z) s' b = false := by simpa using h2
    have q := (k H' s1).1 (by unfold why; rw [if_neg (by rw [h0]; decide), if_neg h1, if_neg h2])
    have a0 := s1 _ _ ha
    refine ⟨_, rfl, _, rfl, a, c.c_Entry, dx, _, rfl, a0, T.cl_Entry, T.na_Entry_number, le_ble rfl, ?_⟩
    refine ⟨_, rfl, _, rfl, a, c.c_Entry, dx, _, rfl, upd_same, T.cl_Entry, T.na_Entry_day, le_ble rfl, ?_⟩
    refine ⟨_, rfl, _, rfl, a, c.c_Entry, dx, _, rfl, upd_same, T.cl_Entry, T.na_Entry_rank, le_ble rfl, ?_⟩
    refine ⟨_, rfl, _, rfl, a, c.c_Entry, dx, _, rfl, upd_same, T.cl_Entry, T.na_Entry_word, le_ble rfl, ?_⟩
    refine ⟨_, rfl, _, rfl, a, c.c_Entry, dx, _, rfl, upd_same, T.cl_Entry, T.na_Entry_under, le_ble rfl, ?_⟩
    refine ⟨_, rfl, _, rfl, a, c.c_Entry, dx, _, rfl, upd_same, T.cl_Entry, T.na_Entry_sheet, le_ble rfl, ?_⟩
    refine ⟨_, rfl, _, rfl, a, c.c_Entry, dx, _, rfl, upd_same, T.cl_Entry, T.na_Entry_base, le_ble rfl, ?_⟩
    refine ⟨_, rfl, _, rfl, a, c.c_Entry, dx, _, rfl, upd_same, T.cl_Entry, T.na_Entry_described, le_ble rfl, ?_⟩
    rw [upd_upd, upd_upd, upd_upd, upd_upd, upd_upd, upd_upd, upd_upd]
    exact q

set_option maxHeartbeats 4000000 in
theorem ok_ahead (T : Txt w K mg c) : FnOk P w K mg base CX0 1 c.a_ahead c.d_ahead ["one", "other"] (spAhead c.c_Entry) := by
  refine T.ahead.fn.ok sc_ahead (fun vs H Q E h => ?_) (fun cdv A outer s H vs Q E hr h => ?_)
  · obtain ⟨x, y, e, f, rfl, _⟩ := h
    rfl
  · obtain ⟨x, y, e, f, rfl, hx, hy, k⟩ := h
    refine ⟨_, (pss_one (ps_ret (pe_cmpR (op_ltT hr.units0) (pe_tup (pa_cons (pe_fld (pv 0) rfl) (pa_cons (pe_fld (pv 0) rfl) pa_nil))) (pe_tup (pa_cons (pe_fld (pv 1) rfl) (pa_cons (pe_fld (pv 1) rfl) pa_nil))) (nomark _)))), ?_⟩
    obtain ⟨a, dx, rfl, ha⟩ := hx
    obtain ⟨b, dy, rfl, hb⟩ := hy
    refine ⟨_, rfl, a, _, dx, _, _, rfl, ha, T.cl_Entry, T.na_Entry_day, rfl, ?_⟩
    refine ⟨_, rfl, a, _, dx, _, _, rfl, ha, T.cl_Entry, T.na_Entry_number, rfl, le_ble rfl, fun p hp => ?_⟩
    have s1 := Same.new (o := HO.tup [.int e.d, .int e.n]) hp
    refine ⟨_, rfl, b, _, dy, _, _, rfl, s1 _ _ hb, T.cl_Entry, T.na_Entry_day, rfl, ?_⟩
    refine ⟨_, rfl, b, _, dy, _, _, rfl, s1 _ _ hb, T.cl_Entry, T.na_Entry_number, rfl, le_ble rfl, fun q hq => ?_⟩
    have s2 := Same.new (o := HO.tup [.int f.d, .int f.n]) hq
    exact ⟨p, q, [e.d, e.n], [f.d, f.n], rfl, rfl, SqT.of (s2 _ _ upd_same), SqT.of upd_same, k _ (s1.trans s2)⟩

set_option maxHeartbeats 4000000 in
theorem ok_above (T : Txt w K mg c) : FnOk P w K mg base (CXx P w) 2 c.a_above c.d_above ["rank"] (spTabE K) := by
  refine T.above.fn.okx sc_above (fun vs H Q E h => ?_) (fun cdv A outer s H vs Q E hr h => ?_)
  · obtain ⟨z, rfl, _⟩ := h
    rfl
  · obtain ⟨z, rfl, hz, k⟩ := h
    refine ⟨_, (pss_cons (ps_if (pt_not (pt_val (pe_call (ok_is_rank T) (hr.mono (by decide)) rfl T.is_rank.mgf T.is_rank.kp T.is_rank.bi .nil pass0 (pa_cons (pv 0) pa_nil))))
        (pss_one ps_never)
        pss_nil)
      (pss_one (ps_ret (pe_ix ix_kdict (pe_glob (v := .ref c.u_ABOVE) rfl T.mg_ABOVE rfl) (pv 0) (fun _ _ => rfl))))), ?_⟩
    refine ⟨_, rfl, _, rfl, Own.str, _, rfl, ?_⟩
    rcases hz with rfl | rfl
    · exact iteF ⟨_, rfl, c.u_ABOVE, _, _, _, rfl, rfl, T.kd_ABOVE, rfl, k⟩
    · exact iteF ⟨_, rfl, c.u_ABOVE, _, _, _, rfl, rfl, T.kd_ABOVE, rfl, k⟩

set_option maxHeartbeats 4000000 in
theorem ok_Results_init (T : Txt w K mg c) : FnOk P w K mg base CX0 1 c.a_Results_init c.d_Results_init ["self"] (spResInit c.c_Results c.c_Entry) := by
  refine T.Results_init.ok sc_Results_init (fun vs H Q E h => ?_) (fun cdv A outer s H vs Q E hr h => ?_)
  · obtain ⟨a, dx, rfl, _⟩ := h
    rfl
  · obtain ⟨a, dx, rfl, ha, k⟩ := h
    refine ⟨_, (pss_cut (ps_fld (pv 0) pe_dnewK rfl)
      (pss_cut (ps_fld (pv 0) pe_dnewK rfl)
      (pss_cut (ps_fld (pv 0) pe_dnewK rfl)
      (pss_one (ps_fld (pv 0) pe_dnewT rfl))))), ?_⟩
    have na : ∀ d, H d = none → d ≠ a := fun d hd z => by rw [z, ha] at hd; cases hd
    refine ⟨fun σ G => σ = [some (.ref a)] ∧ ∃ d0, (∀ b u, b ≠ a → H b = some u → G b = some u) ∧ G a = some (.ins c.c_Results dx [("outs", .ref d0)]) ∧ G d0 = some (.dK []) ∧ H d0 = none, ?_, ?_⟩
    · refine fun d0 e => ⟨_, rfl, a, _, dx, _, rfl, Same.new e _ _ ha, T.cl_Results, T.na_Results_outs, le_ble rfl, rfl, d0, fun b u nb hb => ?_, upd_same, ?_, ?_⟩
      · rw [upd_ne nb, upd_ne (ne_of_none (hb) e)]; exact hb
      · rw [upd_ne (na _ e), upd_same]
      · exact e
    rintro σ G ⟨rfl, d0, fr, ka, k0, h0⟩
    refine ⟨fun σ G => σ = [some (.ref a)] ∧ ∃ d0 d1, (∀ b u, b ≠ a → H b = some u → G b = some u) ∧ G a = some (.ins c.c_Results dx [("outs", .ref d0), ("names", .ref d1)]) ∧ G d0 = some (.dK []) ∧ H d0 = none ∧ G d1 = some (.dK []) ∧ H d1 = none ∧ d0 ≠ d1, ?_, ?_⟩
    · refine fun d1 e => ⟨_, rfl, a, _, dx, _, rfl, Same.new e _ _ ka, T.cl_Results, T.na_Results_names, le_ble rfl, rfl, d0, d1, fun b u nb hb => ?_, upd_same, ?_, ?_, ?_, ?_, ?_⟩
      · rw [upd_ne nb, upd_ne (ne_of_none (fr b u nb hb) e)]; exact fr b u nb hb
      · rw [upd_ne (na _ h0), upd_ne (ne_of_none k0 e)]; exact k0
      · exact h0
      · rw [upd_ne (na _ (show H d1 = none by
          cases q : H d1 with
          | none => rfl
          | some u => rw [fr d1 u (fun z => by rw [z, ka] at e; cases e) q] at e; cases e)), upd_same]
      · exact (show H d1 = none by
          cases q : H d1 with
          | none => rfl
          | some u => rw [fr d1 u (fun z => by rw [z, ka] at e; cases e) q] at e; cases e)
      · exact ne_of_none k0 e
    rintro σ G ⟨rfl, d0, d1, fr, ka, k0, h0, k1, h1, n01⟩
    refine ⟨fun σ G => σ = [some (.ref a)] ∧ ∃ d0 d1 d2, (∀ b u, b ≠ a → H b = some u → G b = some u) ∧ G a = some (.ins c.c_Results dx [("outs", .ref d0), ("names", .ref d1), ("rights", .ref d2)]) ∧ G d0 = some (.dK []) ∧ H d0 = none ∧ G d1 = some (.dK []) ∧ H d1 = none ∧ G d2 = some (.dK []) ∧ H d2 = none ∧ d0 ≠ d1 ∧ d0 ≠ d2 ∧ d1 ≠ d2, ?_, ?_⟩
    · refine fun d2 e => ⟨_, rfl, a, _, dx, _, rfl, Same.new e _ _ ka, T.cl_Results, T.na_Results_rights, le_ble rfl, rfl, d0, d1, d2, fun b u nb hb => ?_, upd_same, ?_, ?_, ?_, ?_, ?_, ?_, ?_, ?_, ?_⟩
      · rw [upd_ne nb, upd_ne (ne_of_none (fr b u nb hb) e)]; exact fr b u nb hb
      · rw [upd_ne (na _ h0), upd_ne (ne_of_none k0 e)]; exact k0
      · exact h0
      · rw [upd_ne (na _ h1), upd_ne (ne_of_none k1 e)]; exact k1
      · exact h1
      · rw [upd_ne (na _ (show H d2 = none by
          cases q : H d2 with
          | none => rfl
          | some u => rw [fr d2 u (fun z => by rw [z, ka] at e; cases e) q] at e; cases e)), upd_same]
      · exact (show H d2 = none by
          cases q : H d2 with
          | none => rfl
          | some u => rw [fr d2 u (fun z => by rw [z, ka] at e; cases e) q] at e; cases e)
      · exact n01
      · exact ne_of_none k0 e
      · exact ne_of_none k1 e
    rintro σ G ⟨rfl, d0, d1, d2, fr, ka, k0, h0, k1, h1, k2, h2, n01, n02, n12⟩
    refine fun d3 e => ⟨_, rfl, a, _, dx, _, rfl, Same.new e _ _ ka, T.cl_Results, T.na_Results_holders, le_ble rfl, ?_⟩
    have hf : H d3 = none := by
      cases q : H d3 with
      | none => rfl
      | some u => rw [fr d3 u (fun z => by rw [z, ka] at e; cases e) q] at e; cases e
    have m3 : ∀ b u, b ≠ a → G b = some u → upd (upd G d3 (.dT [])) a (.ins c.c_Results dx (putF "holders" (V.ref d3) [("outs", .ref d0), ("names", .ref d1), ("rights", .ref d2)])) b = some u := fun b u nb hb => by
      rw [upd_ne nb, upd_ne (ne_of_none hb e)]; exact hb
    refine k ⟨a, dx, d0, d1, d2, d3⟩ _ rfl rfl (fun b u nb hb => m3 b u nb (fr b u nb hb)) ⟨upd_same, m3 _ _ (na _ h0) k0, ⟨_, m3 _ _ (na _ h1) k1, .nil⟩, ⟨_, m3 _ _ (na _ h2) k2, .nil⟩, ⟨_, ?_, .nil⟩, n01, n02, n12⟩ h0 h1 h2 hf
    show upd (upd G d3 (.dT [])) a _ d3 = _
    rw [upd_ne (na _ hf), upd_same]

set_option maxHeartbeats 4000000 in
theorem ok_Results_name_of (T : Txt w K mg c) : FnOk P w K mg base CX0 3 c.a_Results_name_of c.d_Results_name_of ["self", "entry"] (spNameOf c.c_Results c.c_Entry) := by
  refine T.Results_name_of.ok sc_Results_name_of (fun vs H Q E h => ?_) (fun cdv A outer s H vs Q E hr h => ?_)
  · obtain ⟨A, s, v, e, rfl, _⟩ := h
    rfl
  · obtain ⟨A, s, v, e, rfl, rs, rok, hv, okk, k⟩ := h
    refine ⟨_, (pss_cons (ps_if (pt_cmpR op_eq (pe_fld (pv 1) rfl) pe_str (nomark _))
        (pss_one (ps_ret (pe_tup (pa_cons (pe_fld (pv 1) rfl) pa_nil))))
        pss_nil)
      (pss_cons (ps_set (i := 2) sc_Results_name_of.nd rfl (Or.inl rfl) (pe_dget1 (hu_of hr) (pe_fld (pv 0) rfl) (pe_fld (pv 1) rfl) ⟨rfl, rfl, rfl, rfl⟩))
      (pss_cons (ps_if (PW.pt (pw_or (pt_cmp (pc_isN (pv 2))) (pw_or1 (pt_cmpR op_ne (pe_fld (pv 2) rfl) (pe_callS (ok_above T) (hr.mono (by decide)) rfl T.above.mgf T.above.kp T.above.bi .nil passE0 (pa_cons (pe_fld (pv 1) rfl) pa_nil)) (nomark _)))))
        (pss_one (ps_ret pe_non))
        pss_nil)
      (pss_one (ps_ret (pe_op op_catT1 (pe_dget (hu_of hr) (pe_fld (pv 0) rfl) (pe_fld (pv 2) rfl) (fun _ _ => rfl)) (pe_tup (pa_cons (pe_fld (pv 1) rfl) pa_nil)))))))), ?_⟩
    have hv0 := hv
    obtain ⟨a, dx, rfl, ha⟩ := hv
    refine ⟨_, rfl, a, _, dx, _, _, rfl, ha, T.cl_Entry, T.na_Entry_rank, rfl, rfl, _, rfl, ?_⟩
    refine ite2 (fun z => ?_) (fun z => ?_)
    · have z : e.r = Str.ofString "genus" := V.str.inj (of_decide_eq_true z)
      refine ⟨_, rfl, a, _, dx, _, _, rfl, ha, T.cl_Entry, T.na_Entry_word, rfl, le_ble rfl, fun t ht => ?_⟩
      refine k _ _ (Same.new ht) ?_
      have en : nameE s.r e = some [e.w] := by unfold nameE; rw [if_pos z]
      rw [en]
      exact ⟨t, rfl, upd_same⟩
    have z : e.r ≠ Str.ofString "genus" := fun q => z (decide_eq_true (congrArg V.str q))
    obtain ⟨u, hu⟩ := okE_u okk z
    have lu : (fieldsE e).lookup (Str.ofString "under") = some (V.int u) := by show some (optV e.u) = _; rw [hu]; rfl
    obtain ⟨kr, hR, pR⟩ := rs.rights
    obtain ⟨kn, hN, pN⟩ := rs.names
    have en : nameE s.r e = match findN s.r u with | none => none | some x => if x.e.r = aboveS e.r then some (x.nm ++ [e.w]) else none := by
      unfold nameE
      rw [if_neg z, hu]
      rfl
    refine ⟨_, rfl, A.a, _, A.dx, _, _, rfl, rs.at_, T.cl_Results, T.na_Results_rights, rfl, A.o3, rfl, .inl ⟨_, .inl hR⟩, _, rfl, a, _, dx, _, _, rfl, ha, T.cl_Entry, T.na_Entry_under, lu, _, DGet.k (k := Sum.inl u) hR, ?_⟩
    rcases rights_at pR u with ⟨f1, f2⟩ | ⟨x, w, f1, f2, hx⟩
    · rw [f2]
      refine ⟨_, rfl, _, rfl, iteT ?_⟩
      refine k _ _ (Same.refl H) ?_
      rw [en, f1]
      rfl
    have hx0 := hx
    obtain ⟨xa, xdx, rfl, hxa⟩ := hx
    rw [f2]
    refine ⟨_, rfl, _, rfl, iteF ?_⟩
    rw [f1] at en
    have en : nameE s.r e = if x.e.r = aboveS e.r then some (x.nm ++ [e.w]) else none := en
    refine ⟨_, rfl, xa, _, xdx, _, _, rfl, hxa, T.cl_Entry, T.na_Entry_rank, rfl, _, rfl, a, _, dx, _, _, rfl, ha, T.cl_Entry, T.na_Entry_rank, rfl, e.r, rfl, (okE_rank okk).resolve_left z, rfl, _, rfl, ?_⟩
    refine ite2 (fun y => ?_) (fun y => ?_)
    · have y : x.e.r ≠ aboveS e.r := fun q => by rw [q, decide_eq_true rfl] at y; exact absurd y (by decide)
      refine k _ _ (Same.refl H) ?_
      rw [en, if_neg y]
      rfl
    have y : x.e.r = aboveS e.r := V.str.inj (Decidable.of_not_not (p := V.str x.e.r = V.str (aboveS e.r)) (fun q => y (by rw [decide_eq_false q]; rfl)))
    rw [if_pos y] at en
    have hm := (findN_mem f1).1
    obtain ⟨nv, hnv, nt, rfl, hnt⟩ := names_at pN (by rw [rok.nk]; exact rok.nd) (rok.nm x hm)
    have dp := rok.dp x hm
    have d3 : depthR x.e.r ≤ 3 := by
      unfold depthR
      split
      · decide
      · split <;> decide
    have d0 : 0 < depthR x.e.r := by
      unfold depthR
      split
      · decide
      · split <;> decide
    have sz : 2000 < sizeLine := le_ble rfl
    refine ⟨_, rfl, A.a, _, A.dx, _, _, rfl, rs.at_, T.cl_Results, T.na_Results_names, rfl, _, rfl, xa, _, xdx, _, _, rfl, hxa, T.cl_Entry, T.na_Entry_number, rfl, A.o2, .ref nt, rfl, ?_, ?_⟩
    · rw [← hnv]
      exact DGet.k (k := Sum.inl x.e.n) hN
    refine ⟨_, rfl, a, _, dx, _, _, rfl, ha, T.cl_Entry, T.na_Entry_word, rfl, le_ble rfl, fun t ht => ?_⟩
    have s1 := Same.new (o := HO.tup [V.str e.w]) ht
    refine ⟨nt, t, x.nm.map V.str, [V.str e.w], rfl, rfl, SqT.of (s1 _ _ hnt), SqT.of upd_same, (by intro q; cases q), ?_, fun q => ?_, fun _ p hp => ?_⟩
    · rw [List.length_map, dp]
      show _ + 1 ≤ _
      omega
    · exfalso
      have := congrArg List.length q
      rw [List.length_map, dp] at this
      have : depthR x.e.r = 0 := this
      omega
    refine k _ _ (s1.trans (Same.new hp)) ?_
    rw [en]
    exact ⟨p, rfl, by rw [upd_same, List.map_append]; rfl⟩

set_option maxHeartbeats 4000000 in
theorem ok_Results_outcome_of (T : Txt w K mg c) : FnOk P w K mg base CX0 1 c.a_Results_outcome_of c.d_Results_outcome_of ["self", "entry", "name"] (spOutOf c.c_Results c.c_Entry) := by
  refine T.Results_outcome_of.ok sc_Results_outcome_of (fun vs H Q E h => ?_) (fun cdv A outer s H vs Q E hr h => ?_)
  · obtain ⟨A, s, v, e, w, nm, rfl, _⟩ := h
    rfl
  · obtain ⟨A, s, v, e, w, nm, rfl, rs, hv, okk, hw, k⟩ := h
    refine ⟨_, (pss_cut (ps_if (PW.pt (pw_and (pt_cmp (pc_isN (pe_fld (pv 1) rfl))) (pw_and1 (pt_not (pt_val (pe_fld (pv 1) rfl))))))
        (pss_one (ps_ret pe_str))
        pss_nil)
      (pss_cons (ps_if (pt_cmp (pc_isN (pv 2)))
        (pss_one (ps_ret pe_str))
        pss_nil)
      (pss_cut (ps_if (pt_cmp (pc_notN (pe_fld (pv 1) rfl)))
        (pss_cons (ps_set (i := 3) sc_Results_outcome_of.nd rfl (Or.inl rfl) (pe_dget1 (hu_of hr) (pe_fld (pv 0) rfl) (pe_fld (pv 1) rfl) ⟨rfl, rfl, rfl, rfl⟩))
      (pss_cons (ps_if (PW.pt (pw_or (pt_cmp (pc_isN (pv 3))) (pw_or (pt_cmpR op_ne (pe_fld (pv 3) rfl) (pe_fld (pv 1) rfl) (nomark _)) (pw_or1 (pt_cmp (pc_notN (pe_fld (pv 3) rfl)))))))
        (pss_one (ps_ret pe_str))
        pss_nil)
      (pss_one (ps_if (pt_cmpR op_ne (pe_fld (pv 3) rfl) (pe_fld (pv 1) rfl) (nomark _))
        (pss_one (ps_ret pe_str))
        pss_nil))))
        pss_nil)
      (pss_cons (ps_if (pt_cmp (pc_din (hu_of hr) (pv 2) (pe_fld (pv 0) rfl)))
        (pss_one (ps_ret pe_str))
        pss_nil)
      (pss_one (ps_ret pe_str)))))), ?_⟩
    obtain ⟨a, dx, rfl, ha⟩ := hv
    obtain ⟨kr, hR, pR⟩ := rs.rights
    obtain ⟨kh, hH, pH⟩ := rs.holders
    have basef : ∀ b, e.b = some b → (fieldsE e).lookup (Str.ofString "base") = some (V.int b) := fun b hb => by show some (optV e.b) = _; rw [hb]; rfl
    have basen : e.b = none → (fieldsE e).lookup (Str.ofString "base") = some V.non := fun hb => by show some (optV e.b) = _; rw [hb]; rfl
    refine ⟨fun σ G => σ = [some (.ref A.a), some (.ref a), some w, none] ∧ G = H ∧ ¬ (e.b = none ∧ e.k = false), ?_, ?_⟩
    · cases hb : e.b with
      | some b => exact ⟨_, rfl, a, _, dx, _, _, rfl, ha, T.cl_Entry, T.na_Entry_base, basef b hb, _, rfl, iteF ⟨rfl, rfl, fun z => nomatch z.1⟩⟩
      | none =>
        refine ⟨_, rfl, a, _, dx, _, _, rfl, ha, T.cl_Entry, T.na_Entry_base, basen hb, _, rfl, iteT ?_⟩
        refine ⟨_, rfl, a, _, dx, _, _, rfl, ha, T.cl_Entry, T.na_Entry_described, rfl, ?_⟩
        cases hk : e.k with
        | true => exact ⟨_, rfl, iteF ⟨rfl, rfl, fun z => nomatch z.2⟩⟩
        | false =>
          refine ⟨_, rfl, iteT ?_⟩
          have eo : outE s.r e nm = Str.ofString "undescribed" := by unfold outE; rw [if_pos ⟨hb, hk⟩]
          rw [eo] at k
          exact k
    rintro σ G ⟨rfl, rfl, hd⟩
    cases nm with
    | none =>
      obtain rfl : w = .non := hw
      refine ⟨_, rfl, _, rfl, iteT ?_⟩
      have eo : outE s.r e none = Str.ofString "unplaced" := by unfold outE; rw [if_neg hd]
      rw [eo] at k
      exact k
    | some z =>
      obtain ⟨t, rfl, ht⟩ := hw
      refine ⟨_, rfl, _, rfl, iteF ?_⟩
      refine ⟨fun σ G' => (∃ z3, σ = [some (.ref A.a), some (.ref a), some (.ref t), z3]) ∧ G' = G ∧ outE s.r e (some z) = alikeE s.r z, ?_, ?_⟩
      · cases hb : e.b with
        | none =>
          refine ⟨_, rfl, a, _, dx, _, _, rfl, ha, T.cl_Entry, T.na_Entry_base, basen hb, _, rfl, iteF ⟨⟨_, rfl⟩, rfl, ?_⟩⟩
          unfold outE
          rw [if_neg hd, hb]
        | some b =>
          refine ⟨_, rfl, a, _, dx, _, _, rfl, ha, T.cl_Entry, T.na_Entry_base, basef b hb, _, rfl, iteT ?_⟩
          have eo : outE s.r e (some z) = basedE s.r e b z := by unfold outE; rw [if_neg hd, hb]
          rw [eo] at k
          refine ⟨_, rfl, A.a, _, A.dx, _, _, rfl, rs.at_, T.cl_Results, T.na_Results_rights, rfl, A.o3, rfl, .inl ⟨_, .inl hR⟩, _, rfl, a, _, dx, _, _, rfl, ha, T.cl_Entry, T.na_Entry_base, basef b hb, _, DGet.k (k := Sum.inl b) hR, ?_⟩
          rcases rights_at pR b with ⟨f1, f2⟩ | ⟨x, w, f1, f2, hx⟩
          · rw [f2]
            refine ⟨_, rfl, _, rfl, iteT ?_⟩
            have e2 : basedE s.r e b z = Str.ofString "baseless" := by unfold basedE; rw [f1]
            rw [e2] at k
            exact k
          obtain ⟨xa, xdx, rfl, hxa⟩ := hx
          rw [f2]
          have e2 : basedE s.r e b z = if x.e.r ≠ e.r ∨ x.e.b ≠ none then Str.ofString "baseless" else if x.e.w ≠ e.w then Str.ofString "reworded" else alikeE s.r z := by unfold basedE; rw [f1]
          refine ⟨_, rfl, _, rfl, iteF ?_⟩
          refine ⟨_, rfl, xa, _, xdx, _, _, rfl, hxa, T.cl_Entry, T.na_Entry_rank, rfl, _, rfl, a, _, dx, _, _, rfl, ha, T.cl_Entry, T.na_Entry_rank, rfl, rfl, _, rfl, ?_⟩
          refine ite2 (fun y => ?_) (fun y => ?_)
          · have y : x.e.r ≠ e.r := fun q => by rw [q, decide_eq_true rfl] at y; exact absurd y (by decide)
            rw [e2, if_pos (.inl y)] at k
            exact k
          have y : x.e.r = e.r := V.str.inj (Decidable.of_not_not (p := V.str x.e.r = V.str e.r) (fun q => y (by rw [decide_eq_false q]; rfl)))
          cases hxb : x.e.b with
          | some b' =>
            have lx : (fieldsE x.e).lookup (Str.ofString "base") = some (V.int b') := by show some (optV x.e.b) = _; rw [hxb]; rfl
            refine ⟨_, rfl, xa, _, xdx, _, _, rfl, hxa, T.cl_Entry, T.na_Entry_base, lx, _, rfl, iteT ?_⟩
            rw [e2, if_pos (.inr (by rw [hxb]; intro q; cases q))] at k
            exact k
          | none =>
            have lx : (fieldsE x.e).lookup (Str.ofString "base") = some V.non := by show some (optV x.e.b) = _; rw [hxb]; rfl
            refine ⟨_, rfl, xa, _, xdx, _, _, rfl, hxa, T.cl_Entry, T.na_Entry_base, lx, _, rfl, iteF ?_⟩
            have e3 : ¬ (x.e.r ≠ e.r ∨ x.e.b ≠ none) := fun q => q.elim (fun q => q y) (fun q => q hxb)
            rw [if_neg e3] at e2
            refine ⟨_, rfl, xa, _, xdx, _, _, rfl, hxa, T.cl_Entry, T.na_Entry_word, rfl, _, rfl, a, _, dx, _, _, rfl, ha, T.cl_Entry, T.na_Entry_word, rfl, rfl, _, rfl, ?_⟩
            refine ite2 (fun y2 => ?_) (fun y2 => ?_)
            · have y2 : x.e.w ≠ e.w := fun q => by rw [q, decide_eq_true rfl] at y2; exact absurd y2 (by decide)
              rw [e2, if_pos y2] at k
              exact k
            have y2 : x.e.w = e.w := V.str.inj (Decidable.of_not_not (p := V.str x.e.w = V.str e.w) (fun q => y2 (by rw [decide_eq_false q]; rfl)))
            refine ⟨⟨_, rfl⟩, rfl, ?_⟩
            rw [eo, e2, if_neg (fun q => q y2)]
      rintro σ G' ⟨⟨z3, rfl⟩, rfl, ea⟩
      rw [ea] at k
      have hk := holders_at pH z
      refine ⟨_, rfl, _, rfl, A.a, _, A.dx, _, _, rfl, rs.at_, T.cl_Results, T.na_Results_holders, rfl, A.o4, _, rfl, DGet.t (k := z.map Sum.inr) hH (by rw [key_strs]; exact ht), ?_⟩
      rw [hk]
      unfold alikeE at k
      cases q : s.r.any (fun x => decide (x.nm = z)) with
      | true =>
        rw [q, if_pos rfl] at k
        exact ⟨_, rfl, iteT k⟩
      | false =>
        rw [q, if_neg (by decide)] at k
        exact ⟨_, rfl, iteF k⟩

set_option maxHeartbeats 4000000 in
theorem ok_Results_put (T : Txt w K mg c) : FnOk P w K mg base CX0 4 c.a_Results_put c.d_Results_put ["self", "entry"] (spPutR c.c_Results c.c_Entry) := by
  refine T.Results_put.ok sc_Results_put (fun vs H Q E h => ?_) (fun cdv A outer s H vs Q E hr h => ?_)
  · obtain ⟨A, s, v, e, rfl, _⟩ := h
    rfl
  · obtain ⟨A, s, v, e, rfl, rs, rok, hv, okk, fr, hl, k⟩ := h
    refine ⟨_, (pss_cons (ps_set (i := 2) sc_Results_put.nd rfl (Or.inl rfl) (pe_meth (pv 0) T.cl_Results T.m_Results_name_of (ok_Results_name_of T) (hr.mono (by decide)) T.bi_Results_name_of .nil pass0 (pa_cons (pv 1) pa_nil)))
      (pss_cons (ps_set (i := 3) sc_Results_put.nd rfl (Or.inl rfl) (pe_meth (pv 0) T.cl_Results T.m_Results_outcome_of (ok_Results_outcome_of T) (hr.mono (by decide)) T.bi_Results_outcome_of .nil pass0 (pa_cons (pv 1) (pa_cons (pv 2) pa_nil))))
      (pss_cons (ps_dput (hu_of hr) (pe_fld (pv 0) rfl) (pe_fld (pv 1) rfl) (pv 3) rfl)
      (pss_cons (ps_dput (hu_of hr) (pe_fld (pv 0) rfl) (pe_fld (pv 1) rfl) (pv 2) rfl)
      (pss_cons (ps_if (pt_cmpR op_eq (pv 3) pe_str (nomark _))
        (pss_cons (ps_dput (hu_of hr) (pe_fld (pv 0) rfl) (pe_fld (pv 1) rfl) (pv 1) rfl)
      (pss_one (ps_dput (hu_of hr) (pe_fld (pv 0) rfl) (pv 2) (pv 1) rfl)))
        pss_nil)
      (pss_one (ps_ret (pv 3)))))))), ?_⟩
    have hv0 := hv
    obtain ⟨a, dx, rfl, ha⟩ := hv
    have sz : 2000 < sizeLine := le_ble rfl
    refine ⟨_, rfl, A.a, A.dx, _, rfl, rs.at_, rfl, _, rfl, A, s, .ref a, e, rfl, rs, rok, hv0, okk, fun w G1 s1 n1 => ?_⟩
    have rs1 := rs.same s1
    refine ⟨_, rfl, A.a, A.dx, _, rfl, rs1.at_, rfl, _, rfl, _, rfl, A, s, .ref a, e, w, _, rfl, rs1, hv0.same s1, okk, n1, ?_⟩
    have eo : outE s.r e (nameE s.r e) = outS s e := rfl
    rw [eo]
    have ha1 := s1 _ _ ha
    have fr1 : FrR A H G1 := Same.frR s1
    obtain ⟨r1, r2, ⟨kn, r3, r4⟩, ⟨kr, r5, r6⟩, ⟨kh, r7, r8⟩, d12, d13, d23⟩ := rs1
    clear rs
    have d14 : A.o1 ≠ A.o4 := ne_of r2 r7 (by intro z; cases z)
    have d24 : A.o2 ≠ A.o4 := ne_of r3 r7 (by intro z; cases z)
    have d34 : A.o3 ≠ A.o4 := ne_of r5 r7 (by intro z; cases z)
    have na1 : A.a ≠ A.o1 := ne_of r1 r2 (by intro z; cases z)
    have na2 : A.a ≠ A.o2 := ne_of r1 r3 (by intro z; cases z)
    have na3 : A.a ≠ A.o3 := ne_of r1 r5 (by intro z; cases z)
    have na4 : A.a ≠ A.o4 := ne_of r1 r7 (by intro z; cases z)
    have ne1 : a ≠ A.o1 := ne_of ha1 r2 (by intro z; cases z)
    have ne2 : a ≠ A.o2 := ne_of ha1 r3 (by intro z; cases z)
    have ne3 : a ≠ A.o3 := ne_of ha1 r5 (by intro z; cases z)
    have lo : (outsD s).length = s.o.length := List.length_map ..
    have ln : kn.length = s.o.length := by rw [← Paired.length r4, ← List.length_map (f := fun p : Int × Option (List Str) => p.1), rok.nk, List.length_map]
    have lr : s.r.length ≤ s.o.length := by
      have h1 : (s.r.map (·.e.n)).length ≤ (s.o.map (·.1)).length := nd_len rok.rn fun x hx => by
        obtain ⟨y, hy, rfl⟩ := List.mem_map.mp hx
        exact rok.sub y hy
      rw [List.length_map, List.length_map] at h1
      exact h1
    have lkr : kr.length ≤ 1000 := by rw [← Paired.length r6]; omega
    have lkh : kh.length ≤ 1000 := by rw [← Paired.length r8]; omega
    have po : putK (outsD s) (Sum.inl e.n) (.str (outS s e)) = outsD (stepE s e) := by
      rw [putK_new (outs_none fr)]
      show _ = (s.o ++ [(e.n, outS s e)]).map _
      rw [List.map_append]
      rfl
    refine ⟨_, rfl, _, rfl, A.a, _, A.dx, _, _, rfl, r1, T.cl_Results, T.na_Results_outs, rfl, _, rfl, a, _, dx, _, _, rfl, ha1, T.cl_Entry, T.na_Entry_number, rfl, A.o1, _, rfl, DPut.k (k := Sum.inl e.n) r2 (by omega), ?_⟩
    rw [po]
    have f2 : ∀ b u, b ≠ A.o1 → G1 b = some u → upd G1 A.o1 (.dK (outsD (stepE s e))) b = some u := fun b u nb hb => by rw [upd_ne nb]; exact hb
    have g2 : upd G1 A.o1 (.dK (outsD (stepE s e))) A.o1 = some (.dK (outsD (stepE s e))) := upd_same
    generalize upd G1 A.o1 (.dK (outsD (stepE s e))) = G2 at f2 g2 ⊢
    have nn : valV kn (Sum.inl e.n) = none := names_none r4 (by rw [rok.nk]; exact fr)
    refine ⟨_, rfl, _, rfl, A.a, _, A.dx, _, _, rfl, f2 _ _ na1 r1, T.cl_Results, T.na_Results_names, rfl, _, rfl, a, _, dx, _, _, rfl, f2 _ _ ne1 ha1, T.cl_Entry, T.na_Entry_number, rfl, A.o2, _, rfl, DPut.k (k := Sum.inl e.n) (f2 _ _ d12.symm r3) (by omega), ?_⟩
    rw [putK_new nn]
    have f3 : ∀ b u, b ≠ A.o1 → b ≠ A.o2 → G1 b = some u → upd G2 A.o2 (.dK (kn ++ [(Sum.inl e.n, w)])) b = some u := fun b u n1 n2 hb => by rw [upd_ne n2]; exact f2 b u n1 hb
    have g3 : upd G2 A.o2 (.dK (kn ++ [(Sum.inl e.n, w)])) A.o2 = some (.dK (kn ++ [(Sum.inl e.n, w)])) := upd_same
    have g3' : upd G2 A.o2 (.dK (kn ++ [(Sum.inl e.n, w)])) A.o1 = some (.dK (outsD (stepE s e))) := by rw [upd_ne d12]; exact g2
    generalize upd G2 A.o2 (.dK (kn ++ [(Sum.inl e.n, w)])) = G3 at f3 g3 g3' ⊢
    have tups : ∀ G' : Hp, (∀ b u, b ≠ A.o1 → b ≠ A.o2 → b ≠ A.o3 → b ≠ A.o4 → G1 b = some u → G' b = some u) → ∀ t xs, G1 t = some (.tup xs) → G' t = some (.tup xs) := fun G' h t xs ht => h t _ (ne_of ht r2 (by intro z; cases z)) (ne_of ht r3 (by intro z; cases z)) (ne_of ht r5 (by intro z; cases z)) (ne_of ht r7 (by intro z; cases z)) ht
    have inss : ∀ G' : Hp, (∀ b u, b ≠ A.o1 → b ≠ A.o2 → b ≠ A.o3 → b ≠ A.o4 → G1 b = some u → G' b = some u) → ∀ t C dx fs, G1 t = some (.ins C dx fs) → G' t = some (.ins C dx fs) := fun G' h t C dx fs ht => h t _ (ne_of ht r2 (by intro z; cases z)) (ne_of ht r3 (by intro z; cases z)) (ne_of ht r5 (by intro z; cases z)) (ne_of ht r7 (by intro z; cases z)) ht
    have names' : ∀ G' : Hp, (∀ b u, b ≠ A.o1 → b ≠ A.o2 → b ≠ A.o3 → b ≠ A.o4 → G1 b = some u → G' b = some u) → Paired (NameP G') (stepE s e).n (kn ++ [(Sum.inl e.n, w)]) := fun G' h => Paired.snoc (Paired.mapP r4 fun x q z => ⟨z.1, z.2.same (tups G' h)⟩) ⟨rfl, n1.same (tups G' h)⟩
    refine ⟨_, rfl, rfl, _, rfl, ?_⟩
    refine ite2 (fun z => ?_) (fun z => ?_)
    · have z : outS s e = Str.ofString "right" := V.str.inj (of_decide_eq_true z)
      obtain ⟨nm, hnm, hno, _⟩ := outE_right z
      rw [hnm] at n1
      obtain ⟨t, rfl, ht⟩ := n1
      have er : (stepE s e).r = s.r ++ [⟨e, nm⟩] := by
        show (if outS s e = Str.ofString "right" then s.r ++ [⟨e, (nameE s.r e).getD []⟩] else s.r) = _
        rw [if_pos z, hnm]
        rfl
      have nr : valV kr (Sum.inl e.n) = none := by
        rcases rights_at r6 e.n with ⟨_, q⟩ | ⟨x, v, q, _⟩
        · exact q
        · obtain ⟨q1, q2⟩ := findN_mem q
          exact absurd (q2 ▸ rok.sub x q1) fr
      have nh : valV kh (nm.map Sum.inr) = none := by
        have := holders_at r8 nm
        rw [hno] at this
        cases q : valV kh (nm.map Sum.inr) with
        | none => rfl
        | some v => rw [q] at this; cases this
      refine ⟨_, rfl, _, rfl, A.a, _, A.dx, _, _, rfl, f3 _ _ na1 na2 r1, T.cl_Results, T.na_Results_rights, rfl, _, rfl, a, _, dx, _, _, rfl, f3 _ _ ne1 ne2 ha1, T.cl_Entry, T.na_Entry_number, rfl, A.o3, _, rfl, DPut.k (k := Sum.inl e.n) (f3 _ _ d13.symm d23.symm r5) (by omega), ?_⟩
      rw [putK_new nr]
      have f4 : ∀ b u, b ≠ A.o1 → b ≠ A.o2 → b ≠ A.o3 → G1 b = some u → upd G3 A.o3 (.dK (kr ++ [(Sum.inl e.n, .ref a)])) b = some u := fun b u n1 n2 n3 hb => by rw [upd_ne n3]; exact f3 b u n1 n2 hb
      have g4 : upd G3 A.o3 (.dK (kr ++ [(Sum.inl e.n, .ref a)])) A.o3 = some (.dK (kr ++ [(Sum.inl e.n, .ref a)])) := upd_same
      have g4' : upd G3 A.o3 (.dK (kr ++ [(Sum.inl e.n, .ref a)])) A.o1 = some (.dK (outsD (stepE s e))) := by rw [upd_ne d13]; exact g3'
      have g4'' : upd G3 A.o3 (.dK (kr ++ [(Sum.inl e.n, .ref a)])) A.o2 = some (.dK (kn ++ [(Sum.inl e.n, .ref t)])) := by rw [upd_ne d23]; exact g3
      generalize upd G3 A.o3 (.dK (kr ++ [(Sum.inl e.n, .ref a)])) = G4 at f4 g4 g4' g4'' ⊢
      have nt : ∀ b xs, G1 b = some (.tup xs) → G4 b = some (.tup xs) := fun b xs hb => f4 b _ (ne_of hb r2 (by intro z; cases z)) (ne_of hb r3 (by intro z; cases z)) (ne_of hb r5 (by intro z; cases z)) hb
      refine ⟨_, rfl, _, rfl, A.a, _, A.dx, _, _, rfl, f4 _ _ na1 na2 na3 r1, T.cl_Results, T.na_Results_holders, rfl, _, rfl, A.o4, _, rfl, DPut.t (k := nm.map Sum.inr) (f4 _ _ d14.symm d24.symm d34.symm r7) (by rw [key_strs]; exact nt _ _ ht) (by omega), ?_⟩
      rw [putK_new nh]
      have f5 : ∀ b u, b ≠ A.o1 → b ≠ A.o2 → b ≠ A.o3 → b ≠ A.o4 → G1 b = some u → upd G4 A.o4 (.dT (kh ++ [(nm.map Sum.inr, .ref a)])) b = some u := fun b u n1 n2 n3 n4 hb => by rw [upd_ne n4]; exact f4 b u n1 n2 n3 hb
      refine ⟨_, rfl, k _ (fr1.trans f5) ⟨f5 _ _ na1 na2 na3 na4 r1, by rw [upd_ne d14]; exact g4', ⟨_, by rw [upd_ne d24]; exact g4'', names' _ f5⟩, ⟨_, by rw [upd_ne d34]; exact g4, ?_⟩, ⟨_, upd_same, ?_⟩, d12, d13, d23⟩⟩
      · rw [er]
        exact Paired.snoc (Paired.mapP r6 fun x q z => ⟨z.1, z.2.keep fun t dx fs h => inss _ f5 t _ dx fs h⟩) ⟨rfl, a, dx, rfl, inss _ f5 _ _ _ _ ha1⟩
      · rw [er]
        exact Paired.snoc (Paired.mapP r8 fun x q z => ⟨z.1, z.2.keep fun t dx fs h => inss _ f5 t _ dx fs h⟩) ⟨rfl, a, dx, rfl, inss _ f5 _ _ _ _ ha1⟩
    · have z : ¬ outS s e = Str.ofString "right" := fun q => z (decide_eq_true (congrArg V.str q))
      have er : (stepE s e).r = s.r := by
        show (if outS s e = Str.ofString "right" then s.r ++ [⟨e, (nameE s.r e).getD []⟩] else s.r) = _
        rw [if_neg z]
      have f5 : ∀ b u, b ≠ A.o1 → b ≠ A.o2 → b ≠ A.o3 → b ≠ A.o4 → G1 b = some u → G3 b = some u := fun b u n1 n2 n3 n4 hb => f3 b u n1 n2 hb
      refine ⟨_, rfl, k _ (fr1.trans f5) ⟨f3 _ _ na1 na2 r1, g3', ⟨_, g3, names' _ f5⟩, ⟨kr, f3 _ _ d13.symm d23.symm r5, ?_⟩, ⟨kh, f3 _ _ d14.symm d24.symm r7, ?_⟩, d12, d13, d23⟩⟩
      · rw [er]
        exact Paired.mapP r6 fun x q z => ⟨z.1, z.2.keep fun t dx fs h => inss _ f5 t _ dx fs h⟩
      · rw [er]
        exact Paired.mapP r8 fun x q z => ⟨z.1, z.2.keep fun t dx fs h => inss _ f5 t _ dx fs h⟩

set_option maxHeartbeats 4000000 in
theorem ok_Lmixed (T : Txt w K mg c) : FnOk P w K mg base CX0 1 c.a_Lmixed c.d_Lmixed ["_law_cell", "_law_k"] (spMixC) := by
  refine T.Lmixed.fn.ok sc_Lmixed (fun vs H Q E h => ?_) (fun cdv A outer s H vs Q E hr h => ?_)
  · obtain ⟨n, i, rfl, _⟩ := h
    rfl
  · obtain ⟨n, i, rfl, h0, h1, k⟩ := h
    refine ⟨_, (pss_one (ps_ret (pe_op op_mod (pe_op op_mul (pe_op op_add (pe_op op_mod (pe_op op_fdiv (pv 0) pe_int) (pe_op op_pow pe_int pe_int)) pe_int) (pe_op op_add pe_int (pe_op op_mul (pe_op op_mul pe_int (pv 1)) (pv 1)))) pe_int))), ?_⟩
    have sq : i * i ≤ 1000 * 1000 := Int.mul_le_mul (by omega) (by omega) (by omega) (by omega)
    have sq0 : 0 ≤ i * i := Int.mul_nonneg h0 h0
    have e3 : 7919 * i * i = 7919 * (i * i) := Int.mul_assoc _ _ _
    walk_at "rd"
    refine ⟨.inl ⟨by omega, by omega⟩, ?_⟩
    walk_at "rd"
    refine ⟨.inr ⟨by rw [e3]; omega, by rw [e3]; omega⟩, ?_⟩
    walk_at "rd"
    exact k _ (Int.emod_nonneg _ (by decide)) (Int.emod_lt_of_pos _ (by decide))

set_option maxHeartbeats 4000000 in
theorem ok_Ldraws (T : Txt w K mg c) : FnOk P w K mg base CX0 2 c.a_Ldraws c.d_Ldraws ["_law_cell", "_law_k", "_law_free"] (spDraws) := by
  refine T.Ldraws.fn.ok sc_Ldraws (fun vs H Q E h => ?_) (fun cdv A outer s H vs Q E hr h => ?_)
  · obtain ⟨n, i0, fr, rfl, _⟩ := h
    rfl
  · obtain ⟨n, i0, fr, rfl, h0, h1, k⟩ := h
    refine ⟨_, (pss_cons (ps_set (i := 3) sc_Ldraws.nd rfl (Or.inl rfl) (pe_lst pa_nil))
      (pss_cons (ps_set (i := 4) sc_Ldraws.nd rfl (Or.inl rfl) (pe_op op_fdiv (pv 0) pe_int))
      (pss_cons (ps_set (i := 5) sc_Ldraws.nd rfl (Or.inl rfl) (pe_call (ok_Lmixed T) (hr.mono (by decide)) rfl T.Lmixed.mgf T.Lmixed.kp T.Lmixed.bi .nil pass0 (pa_cons (pv 0) (pa_cons (pv 1) pa_nil))))
      (pss_cons (ps_for PassesOwn.never rfl (pi_range1 rfl T.no_range (pa_cons pe_int pa_nil)) (pg_name (i := 6) sc_Ldraws.nd rfl (Or.inl rfl))
        (pss_one (ps_if (PW.pt (pw_and (pt_val (pv 2)) (pw_and1 (pt_cmpR op_ge (pv 4) (pe_op op_pow pe_int pe_int) (nomark _)))))
        (pss_cons (ps_expr (pe_bm PySem.F.plainAttrs_list PySem.F.slot_list_append PySem.F.type_list_append (MtM.r mt_append) (pv 3) (pa_cons (pe_op op_mod (pv 4) (pe_op op_pow pe_int pe_int)) pa_nil)))
      (pss_one (ps_set (i := 4) sc_Ldraws.nd rfl (Or.inl rfl) (pe_op op_fdivB (pv 4) (pe_op op_pow pe_int pe_int)))))
        (pss_cut (ps_set (i := 5) sc_Ldraws.nd rfl (Or.inl rfl) (pe_op op_mod (pe_op op_mul (pe_op op_add (pe_op op_add (pv 5) (pe_op op_mul (pv 6) (pv 6))) pe_int) pe_int) pe_int))
      (pss_one (ps_expr (pe_bm PySem.F.plainAttrs_list PySem.F.slot_list_append PySem.F.type_list_append (MtM.r mt_append) (pv 3) (pa_cons (pe_op op_mod (pe_op op_mul (pv 5) pe_int) pe_int) pa_nil))))))))
      (pss_one (ps_ret (pv 3))))))), ?_⟩
    have sz : 2000 < sizeLine := le_ble rfl
    refine ⟨le_ble rfl, fun l hl => ?_⟩
    have s0 := Same.new (o := HO.lst []) hl
    have k0 := upd_same (H := H) (a := l) (o := .lst [])
    generalize upd H l (.lst []) = G0 at s0 k0 ⊢
    walk_at "rd"
    refine ⟨h0, by omega, fun r r0 r1 => ?_⟩
    walk_at "rd"
    refine ⟨by decide, by decide, ?_⟩
    refine for_range (n := 10) (lo := 0) (fun i σ G => ∃ (ds : List Int) (lf mx : Int) (z6 : Option V), σ = [some (.int n), some (.int i0), some (.bl fr), some (.ref l), some (.int lf), some (.int mx), z6] ∧ 0 ≤ mx ∧ mx < 2147483648 ∧ ds.length = i ∧ (∀ d ∈ ds, Drawn d) ∧ Same H G ∧ G l = some (.lst (ds.map V.int))) ?_ ?_ ?_
    · exact ⟨[], _, _, _, rfl, by omega, by omega, rfl, fun _ h => (nomatch h), s0, k0⟩
    · rintro i σ G hi ⟨ds, lf, mx, z6, rfl, x0, x1, hl', hw, sG, hG⟩
      have sq : (0 + (i : Int)) * (0 + (i : Int)) ≤ 10 * 10 := Int.mul_le_mul (by omega) (by omega) (by omega) (by omega)
      have sq0 : 0 ≤ (0 + (i : Int)) * (0 + (i : Int)) := Int.mul_nonneg (by omega) (by omega)
      walk_at "rd"
      cases fr with
      | true =>
        refine iteT ?_
        walk_at "rd"
        refine ite2 (fun hb => ?_) (fun _ => ?_)
        · walk_at "rd"
          refine ⟨.inl ⟨rfl, _, SqL.of hG⟩, ?_⟩
          walk_at "rd"
          refine ⟨l, _, _, rfl, rfl, hG, by rw [List.length_map]; omega, ?_⟩
          walk_at "rd"
          refine ⟨ds ++ [lf % 10000000000], _, _, _, rfl, x0, x1, by rw [List.length_append, hl']; rfl, push_drawn hw ⟨Int.emod_nonneg _ (by decide), Int.emod_lt_of_pos _ (by decide)⟩, same_put hl sG, ?_⟩
          rw [upd_same, List.map_append]
          rfl
        · refine ⟨fun σ' G' => G = G' ∧ ∃ m' : Int, σ' = [some (.int n), some (.int i0), some (.bl true), some (.ref l), some (.int lf), some (.int m'), some (.int (0 + (i : Int)))] ∧ 0 ≤ m' ∧ m' < 2147483648, ?_, ?_⟩
          · walk_at "rd"
            refine ⟨.inl ⟨by omega, by omega⟩, ?_⟩
            walk_at "rd"
            exact ⟨Int.emod_nonneg _ (by decide), Int.lt_trans (Int.emod_lt_of_pos _ (by decide)) (by decide)⟩
          rintro σ' G' ⟨rfl, m', rfl, y0, y1⟩
          walk_at "rd"
          refine ⟨.inl ⟨rfl, _, SqL.of hG⟩, ?_⟩
          walk_at "rd"
          refine ⟨l, _, _, rfl, rfl, hG, by rw [List.length_map]; omega, ?_⟩
          walk_at "rd"
          refine ⟨ds ++ [m' * 16807 % 2147483629], _, _, _, rfl, y0, y1, by rw [List.length_append, hl']; rfl, push_drawn hw ⟨Int.emod_nonneg _ (by decide), Int.lt_trans (Int.emod_lt_of_pos _ (by decide)) (by decide)⟩, same_put hl sG, ?_⟩
          rw [upd_same, List.map_append]
          rfl
      | false =>
        refine iteF (iteF ?_)
        · refine ⟨fun σ' G' => G = G' ∧ ∃ m' : Int, σ' = [some (.int n), some (.int i0), some (.bl false), some (.ref l), some (.int lf), some (.int m'), some (.int (0 + (i : Int)))] ∧ 0 ≤ m' ∧ m' < 2147483648, ?_, ?_⟩
          · walk_at "rd"
            refine ⟨.inl ⟨by omega, by omega⟩, ?_⟩
            walk_at "rd"
            exact ⟨Int.emod_nonneg _ (by decide), Int.lt_trans (Int.emod_lt_of_pos _ (by decide)) (by decide)⟩
          rintro σ' G' ⟨rfl, m', rfl, y0, y1⟩
          walk_at "rd"
          refine ⟨.inl ⟨rfl, _, SqL.of hG⟩, ?_⟩
          walk_at "rd"
          refine ⟨l, _, _, rfl, rfl, hG, by rw [List.length_map]; omega, ?_⟩
          walk_at "rd"
          refine ⟨ds ++ [m' * 16807 % 2147483629], _, _, _, rfl, y0, y1, by rw [List.length_append, hl']; rfl, push_drawn hw ⟨Int.emod_nonneg _ (by decide), Int.lt_trans (Int.emod_lt_of_pos _ (by decide)) (by decide)⟩, same_put hl sG, ?_⟩
          rw [upd_same, List.map_append]
          rfl
    · rintro σ G ⟨ds, lf, mx, z6, rfl, x0, x1, hl', hw, sG, hG⟩
      exact ⟨_, rfl, k ds l G hl' hw sG hl hG⟩

set_option maxHeartbeats 4000000 in
theorem ok_Lany_word (T : Txt w K mg c) : FnOk P w K mg base CX0 1 c.a_Lany_word c.d_Lany_word ["_law_number"] (spAnyW) := by
  refine T.Lany_word.fn.ok sc_Lany_word (fun vs H Q E h => ?_) (fun cdv A outer s H vs Q E hr h => ?_)
  · obtain ⟨n, rfl, _⟩ := h
    rfl
  · obtain ⟨n, rfl, k⟩ := h
    refine ⟨_, (pss_cons (ps_set (i := 1) sc_Lany_word.nd rfl (Or.inl rfl) (pe_op op_add pe_int (pe_op op_mod (pv 0) pe_int)))
      (pss_cons (ps_set (i := 0) sc_Lany_word.nd rfl (Or.inl rfl) (pe_op op_fdiv (pv 0) pe_int))
      (pss_cons (ps_set (i := 2) sc_Lany_word.nd rfl (Or.inl rfl) pe_str)
      (pss_cons (ps_for PassesOwn.never rfl (pi_range1 rfl T.no_range (pa_cons (pv 1) pa_nil)) (pg_name (i := 3) sc_Lany_word.nd rfl (Or.inl rfl))
        (pss_cons (ps_set (i := 2) sc_Lany_word.nd rfl (Or.inl rfl) (pe_op op_add_str (pv 2) (pe_ix ix_str pe_str (pe_op op_mod (pv 0) pe_int) (fun _ _ => rfl))))
      (pss_one (ps_set (i := 0) sc_Lany_word.nd rfl (Or.inl rfl) (pe_op op_fdiv (pv 0) pe_int)))))
      (pss_one (ps_ret (pv 2))))))), ?_⟩
    have sz : 2000 < sizeLine := le_ble rfl
    have abc : (Str.ofString "abcdefghijklmnopqrstuvwxyz").cps.toList.length = 26 := by decide +kernel
    have abl : ∀ c ∈ (Str.ofString "abcdefghijklmnopqrstuvwxyz").cps.toList, letter c = true := by decide +kernel
    have m0 := Int.emod_nonneg n (b := 12) (by decide)
    have m1 := Int.emod_lt_of_pos n (b := 12) (by decide)
    walk_at "rd"
    refine ⟨by omega, by omega, ?_⟩
    refine for_range (n := (1 + n % 12).toNat) (lo := 0) (fun j σ G' => G' = H ∧ ∃ (m : Int) (z : Str) (z3 : Option V), σ = [some (.int m), some (.int (1 + n % 12)), some (.str z), z3] ∧ z.length = j ∧ z.cps.toList.all letter = true) ?_ ?_ ?_
    · exact ⟨rfl, _, _, _, rfl, rfl, rfl⟩
    · rintro j σ G' hj ⟨rfl, m, z, z3, rfl, hz, ha⟩
      have hj' : (j : Int) < 12 := by omega
      walk_at "rd"
      obtain ⟨ch, hv, hm⟩ := atI_in (xs := (Str.ofString "abcdefghijklmnopqrstuvwxyz").cps.toList) (i := m % 26) (Int.emod_nonneg _ (by decide)) (by rw [abc]; exact Int.emod_lt_of_pos _ (by decide))
      refine ⟨_, _, ch, rfl, rfl, le_ble rfl, hv, ?_⟩
      refine ⟨_, _, rfl, rfl, ?_, ?_⟩
      · show z.length + 1 ≤ sizeLine
        omega
      · walk_at "rd"
        first | refine ⟨rfl, _, _, _, rfl, ?_, ?_⟩ | refine ⟨_, _, _, rfl, ?_, ?_⟩
        · rw [Str.length_append, hz]
          rfl
        · rw [all_app, ha]
          show (true && ([ch].all letter)) = true
          rw [List.all_cons, abl ch hm]
          rfl
    · rintro σ G' ⟨rfl, m, z, z3, rfl, hz, ha⟩
      exact ⟨_, rfl, k _ (isWord_of (by omega) (by omega) ha)⟩

set_option maxHeartbeats 4000000 in
theorem ok_Lwords (T : Txt w K mg c) : FnOk P w K mg base CX0 1 c.a_Lwords c.d_Lwords ["_law_cell", "_law_free"] (spWordsF 4) := by
  refine T.Lwords.fn.ok sc_Lwords (fun vs H Q E h => ?_) (fun cdv A outer s H vs Q E hr h => ?_)
  · obtain ⟨m, fr, rfl, _⟩ := h
    rfl
  · obtain ⟨m, fr, rfl, k⟩ := h
    refine ⟨_, (pss_cons (ps_set (i := 2) sc_Lwords.nd rfl (Or.inl rfl) pe_str)
      (pss_cons (ps_set (i := 3) sc_Lwords.nd rfl (Or.inl rfl) (pe_op op_add pe_int (pe_op op_mod (pv 0) pe_int)))
      (pss_cut (ps_set (i := 4) sc_Lwords.nd rfl (Or.inl rfl) (pe_op op_mod (pe_op op_fdiv (pv 0) pe_int) (pv 3)))
      (pss_cons (ps_set (i := 5) sc_Lwords.nd rfl (Or.inl rfl) (pe_op op_fdiv (pv 0) pe_int))
      (pss_cons (ps_set (i := 6) sc_Lwords.nd rfl (Or.inl rfl) (pe_lst pa_nil))
      (pss_cons (ps_for PassesOwn.never rfl (pi_range1 rfl T.no_range (pa_cons (pv 3) pa_nil)) (pg_name (i := 7) sc_Lwords.nd rfl (Or.inl rfl))
        (pss_cut (ps_set (i := 8) sc_Lwords.nd rfl (Or.inl rfl) (pe_op op_fdiv (pe_op op_mul (pe_op op_add (pe_op op_mod (pv 0) pe_int) pe_int) (pe_op op_add pe_int (pe_op op_mul (pe_op op_mul pe_int (pv 7)) (pv 7)))) pe_int))
      (pss_cut (ps_if (PW.pt (pw_and (pt_val (pv 1)) (pw_and1 (pt_cmpR op_ge (pv 5) pe_int (nomark _)))))
        (pss_cons (ps_set (i := 8) sc_Lwords.nd rfl (Or.inl rfl) (pe_op op_mod (pv 5) pe_int))
      (pss_one (ps_set (i := 5) sc_Lwords.nd rfl (Or.inl rfl) (pe_op op_fdiv (pv 5) pe_int))))
        pss_nil)
      (pss_one (ps_expr (pe_bm PySem.F.plainAttrs_list PySem.F.slot_list_append PySem.F.type_list_append (MtM.r mt_append) (pv 6) (pa_cons (pv 8) pa_nil)))))))
      (pss_cons (ps_set (i := 9) sc_Lwords.nd rfl (Or.inl rfl) (pe_lst pa_nil))
      (pss_cons (ps_for PassesOwn.never rfl (pi_range1 rfl T.no_range (pa_cons pe_int pa_nil)) (pg_name (i := 10) sc_Lwords.nd rfl (Or.inl rfl))
        (pss_cons (ps_set (i := 11) sc_Lwords.nd rfl (Or.inl rfl) (pe_lst pa_nil))
      (pss_cons (ps_for PassesOwn.never rfl (pi_range1 rfl T.no_range (pa_cons (pv 3) pa_nil)) (pg_name (i := 7) sc_Lwords.nd rfl (Or.inl rfl))
        (pss_one (ps_expr (pe_bm PySem.F.plainAttrs_list PySem.F.slot_list_append PySem.F.type_list_append (MtM.r mt_append) (pv 11) (pa_cons (pe_ix ix_str (pv 2) (pe_op op_mod (pe_op op_add (pe_ix ix_list (pv 6) (pv 7) (fun _ _ => rfl)) (pe_op op_mul (pe_op op_mul pe_int (pv 10)) (pe_callTy call_int1 rfl T.no_int bt_int (pa_cons (pe_cmpR op_eq (pv 7) (pv 4) (nomark _)) pa_nil)))) pe_int) (fun _ _ => rfl)) pa_nil)))))
      (pss_one (ps_expr (pe_bm PySem.F.plainAttrs_list PySem.F.slot_list_append PySem.F.type_list_append (MtM.r mt_append) (pv 9) (pa_cons (pe_bm PySem.F.plainAttrs_str PySem.F.slot_str_join PySem.F.type_str_join mt_join pe_str (pa_cons (pv 11) pa_nil)) pa_nil)))))))
      (pss_one (ps_ret (pv 9))))))))))), ?_⟩
    have sz : 2000 < sizeLine := le_ble rfl
    have abc : (Str.ofString "abcdefghijklmnopqrstuvwxyz").cps.toList.length = 26 := by decide +kernel
    have abl : ∀ c ∈ (Str.ofString "abcdefghijklmnopqrstuvwxyz").cps.toList, letter c = true := by decide +kernel
    have m0 := Int.emod_nonneg m (b := 12) (by decide)
    have m1 := Int.emod_lt_of_pos m (b := 12) (by decide)
    have c0 := Int.emod_nonneg m (b := 1000003) (by decide)
    have c1 := Int.emod_lt_of_pos m (b := 1000003) (by decide)
    walk_at "rd"
    refine ⟨fun σ' G' => H = G' ∧ ∃ at0 : Int, σ' = [some (.int m), some (.bl fr), some (.str (Str.ofString "abcdefghijklmnopqrstuvwxyz")), some (.int (1 + m % 12)), some (.int at0), none, none, none, none, none, none, none], ?_, ?_⟩
    · walk_at "rd"
      first | (refine ⟨by omega, ?_⟩; walk_at "rd") | skip
      first | exact ⟨rfl, _, rfl⟩ | exact ⟨_, rfl⟩
    rintro σ' G' ⟨rfl, at0, rfl⟩
    walk_at "rd"
    refine ⟨le_ble rfl, fun p hp => ?_⟩
    have s0 := Same.new (o := HO.lst []) hp
    have k0 := upd_same (H := H) (a := p) (o := .lst [])
    generalize upd H p (.lst []) = G0 at s0 k0 ⊢
    walk_at "rd"
    refine ⟨by omega, by omega, ?_⟩
    refine for_range (n := (1 + m % 12).toNat) (lo := 0) (fun j σ G => ∃ (ns : List Int) (lf : Int) (z7 z8 : Option V), σ = [some (.int m), some (.bl fr), some (.str (Str.ofString "abcdefghijklmnopqrstuvwxyz")), some (.int (1 + m % 12)), some (.int at0), some (.int lf), some (.ref p), z7, z8, none, none, none] ∧ ns.length = j ∧ Same H G ∧ G p = some (.lst (ns.map V.int))) ?_ ?_ ?_
    · exact ⟨[], _, _, _, rfl, rfl, s0, k0⟩
    · rintro j σ G hj ⟨ns, lf, z7, z8, rfl, hn, sG, hG⟩
      have hj' : (j : Int) < 12 := by omega
      have sq : (0 + (j : Int)) * (0 + (j : Int)) ≤ 12 * 12 := Int.mul_le_mul (by omega) (by omega) (by omega) (by omega)
      have sq0 : 0 ≤ (0 + (j : Int)) * (0 + (j : Int)) := Int.mul_nonneg (by omega) (by omega)
      have e3 : 7 * (0 + (j : Int)) * (0 + (j : Int)) = 7 * ((0 + (j : Int)) * (0 + (j : Int))) := Int.mul_assoc _ _ _
      refine ⟨fun σ' G' => G = G' ∧ ∃ num : Int, σ' = [some (.int m), some (.bl fr), some (.str (Str.ofString "abcdefghijklmnopqrstuvwxyz")), some (.int (1 + m % 12)), some (.int at0), some (.int lf), some (.ref p), some (.int (0 + (j : Int))), some (.int num), none, none, none], ?_, ?_⟩
      · walk_at "rd"
        refine ⟨.inl ⟨by omega, by omega⟩, ?_⟩
        walk_at "rd"
        refine ⟨.inl ⟨by omega, by omega⟩, ?_⟩
        walk_at "rd"
        first | exact ⟨rfl, _, rfl⟩ | exact ⟨_, rfl⟩
      rintro σ' G' ⟨rfl, num, rfl⟩
      refine ⟨fun σ' G' => G = G' ∧ ∃ lf num : Int, σ' = [some (.int m), some (.bl fr), some (.str (Str.ofString "abcdefghijklmnopqrstuvwxyz")), some (.int (1 + m % 12)), some (.int at0), some (.int lf), some (.ref p), some (.int (0 + (j : Int))), some (.int num), none, none, none], ?_, ?_⟩
      · walk_at "rd"
        cases fr with
        | true =>
          refine iteT ?_
          walk_at "rd"
          refine ite2 (fun _ => ?_) (fun _ => ?_)
          · walk_at "rd"
            first | done | exact ⟨rfl, _, _, rfl⟩ | exact ⟨_, _, rfl⟩ | exact ⟨_, rfl⟩
          · first | exact ⟨rfl, _, _, rfl⟩
        | false =>
          exact iteF (iteF ⟨rfl, _, _, rfl⟩)
      rintro σ' G' ⟨rfl, lf', num', rfl⟩
      walk_at "rd"
      refine ⟨.inl ⟨rfl, _, SqL.of hG⟩, ?_⟩
      walk_at "rd"
      refine ⟨p, _, _, rfl, rfl, hG, by rw [List.length_map]; omega, ?_⟩
      refine ⟨ns ++ [num'], _, _, _, rfl, by rw [List.length_append, hn]; rfl, same_put hp sG, ?_⟩
      rw [upd_same, List.map_append]
      rfl
    rintro σ G ⟨ns, lf, z7, z8, rfl, hn, sG, hG⟩
    refine ⟨le_ble rfl, fun l hl => ?_⟩
    have hlH := sG.free hl
    have np : p ≠ l := ne_of_none hG hl
    have s1 := sG.trans (Same.new (o := HO.lst []) hl)
    have k1 := upd_same (H := G) (a := l) (o := .lst [])
    have p1 := Same.new (o := HO.lst []) hl _ _ hG
    generalize upd G l (.lst []) = G1 at s1 k1 p1 ⊢
    walk_at "rd"
    refine ⟨by decide, by decide, ?_⟩
    refine for_range (n := 4) (lo := 0) (fun i σ G => ∃ (zs : List Str) (z7 z10 z11 : Option V), σ = [some (.int m), some (.bl fr), some (.str (Str.ofString "abcdefghijklmnopqrstuvwxyz")), some (.int (1 + m % 12)), some (.int at0), some (.int lf), some (.ref p), z7, z8, some (.ref l), z10, z11] ∧ zs.length = i ∧ (∀ z ∈ zs, isWord (.str z) = true) ∧ Same H G ∧ G p = some (.lst (ns.map V.int)) ∧ G l = some (.lst (zs.map V.str))) ?_ ?_ ?_
    · exact ⟨[], _, _, _, rfl, rfl, fun _ h => (nomatch h), s1, p1, k1⟩
    · rintro i σ G2 hi ⟨zs, z7', z10, z11, rfl, hz, hw, s2, p2, l2⟩
      walk_at "rd"
      refine ⟨le_ble rfl, fun q hq => ?_⟩
      have nq : p ≠ q := ne_of_none p2 hq
      have nl : l ≠ q := ne_of_none l2 hq
      have hqH := s2.free hq
      have s3 := s2.trans (Same.new (o := HO.lst []) hq)
      have k3 := upd_same (H := G2) (a := q) (o := .lst [])
      have p3 := Same.new (o := HO.lst []) hq _ _ p2
      have l3 := Same.new (o := HO.lst []) hq _ _ l2
      generalize upd G2 q (.lst []) = G3 at s3 k3 p3 l3 ⊢
      walk_at "rd"
      refine ⟨by omega, by omega, ?_⟩
      refine for_range (n := (1 + m % 12).toNat) (lo := 0) (fun j σ G => ∃ (ys : List Str) (z7 : Option V), σ = [some (.int m), some (.bl fr), some (.str (Str.ofString "abcdefghijklmnopqrstuvwxyz")), some (.int (1 + m % 12)), some (.int at0), some (.int lf), some (.ref p), z7, z8, some (.ref l), some (.int (0 + (i : Int))), some (.ref q)] ∧ ys.length = j ∧ (∀ y ∈ ys, y.length = 1 ∧ y.cps.toList.all letter = true) ∧ Same H G ∧ G p = some (.lst (ns.map V.int)) ∧ G l = some (.lst (zs.map V.str)) ∧ G q = some (.lst (ys.map V.str))) ?_ ?_ ?_
      · exact ⟨[], _, rfl, rfl, fun _ h => (nomatch h), s3, p3, l3, k3⟩
      · rintro j σ G4 hj ⟨ys, z7'', rfl, hy, hys, s4, p4, l4, q4⟩
        have hj' : (j : Int) < 12 := by omega
        walk_at "rd"
        refine ⟨.inl ⟨rfl, _, SqL.of q4⟩, ?_⟩
        walk_at "rd"
        obtain ⟨v, hv, hm⟩ := atI_in (xs := ns.map V.int) (i := 0 + (j : Int)) (by omega) (by rw [List.length_map]; omega)
        obtain ⟨num, _, rfl⟩ := List.mem_map.mp hm
        refine ⟨p, _, _, _, rfl, rfl, SqL.of p4, hv, ?_⟩
        walk_at "rd"
        refine .inr ⟨_, rfl, ?_⟩
        walk_at "rd"
        refine ⟨.inl ⟨by omega, by omega⟩, ?_⟩
        walk_at "rd"
        obtain ⟨bb, hbb⟩ : ∃ bb : Int, bb = (if decide (V.int (0 + (j : Int)) = V.int at0) = true then (1 : Int) else 0) := ⟨_, rfl⟩
        rw [← hbb]
        obtain ⟨ch, hv, hm⟩ := atI_in (xs := (Str.ofString "abcdefghijklmnopqrstuvwxyz").cps.toList) (i := (num + 5 * (0 + (i : Int)) * bb) % 26) (Int.emod_nonneg _ (by decide)) (by rw [abc]; exact Int.emod_lt_of_pos _ (by decide))
        refine ⟨_, _, ch, rfl, rfl, le_ble rfl, hv, ?_⟩
        refine ⟨q, _, _, rfl, rfl, q4, by rw [List.length_map]; omega, ?_⟩
        refine ⟨ys ++ [⟨#[ch]⟩], _, rfl, by rw [List.length_append, hy]; rfl, fun y hy => ?_, same_put hqH s4, by rw [upd_ne nq]; exact p4, by rw [upd_ne nl]; exact l4, by rw [upd_same, List.map_append]; rfl⟩
        rcases List.mem_append.mp hy with e | e
        · exact hys y e
        · rw [List.mem_singleton.mp e]
          refine ⟨rfl, ?_⟩
          show [ch].all letter = true
          rw [List.all_cons, abl ch hm]
          rfl
      · rintro σ G4 ⟨ys, z7'', rfl, hy, hys, s4, p4, l4, q4⟩
        have su := ones_sum ys hys
        walk_at "rd"
        refine ⟨.inl ⟨rfl, _, SqL.of l4⟩, ?_⟩
        walk_at "rd"
        refine ⟨_, q, ys, rfl, rfl, SqL.of q4, le_ble (by decide +kernel), by omega, ?_⟩
        refine ⟨l, _, _, rfl, rfl, l4, by rw [List.length_map]; omega, ?_⟩
        refine ⟨zs ++ [Txt.join (Str.ofString "") ys], _, _, _, rfl, by rw [List.length_append, hz]; rfl, fun y hy' => ?_, same_put hlH s4, by rw [upd_ne np]; exact p4, by rw [upd_same, List.map_append]; rfl⟩
        rcases List.mem_append.mp hy' with e | e
        · exact hw y e
        · rw [List.mem_singleton.mp e]
          exact join_word hys (by omega) (by omega)
    · rintro σ G ⟨zs, z7', z10, z11, rfl, hz, hw, s2, p2, l2⟩
      exact ⟨_, rfl, k zs l G hz hw s2 hlH l2⟩

set_option maxHeartbeats 4000000 in
theorem ok_Lstamp (T : Txt w K mg c) : FnOk P w K mg base CX0 1 c.a_Lstamp c.d_Lstamp ["_law_book_here", "_law_one", "_law_other"] (spStamp) := by
  refine T.Lstamp.fn.ok sc_Lstamp (fun vs H Q E h => ?_) (fun cdv A outer s H vs Q E hr h => ?_)
  · obtain ⟨l, ws, es, x, y, rfl, _⟩ := h
    rfl
  · obtain ⟨l, ws, es, x, y, rfl, hL, hR, hB, h84, dx, dy, k⟩ := h
    refine ⟨_, (pss_cons (ps_set (i := 3) sc_Lstamp.nd rfl (Or.inl rfl) (pe_op op_add pe_int (pe_op op_mod (pv 1) pe_int)))
      (pss_cons (ps_set (i := 4) sc_Lstamp.nd rfl (Or.inl rfl) (pe_op op_add pe_int (pe_op op_mod (pv 2) pe_int)))
      (pss_cut (ps_if (pt_cmpR op_eq (pe_op op_mod (pe_op op_fdiv (pv 1) pe_int) pe_int) pe_int (nomark _))
        (pss_one (ps_set (i := 4) sc_Lstamp.nd rfl (Or.inl rfl) (pe_op op_add pe_int (pe_op op_mod (pv 2) pe_int))))
        pss_nil)
      (pss_cut (ps_if (pt_cmpR (op_neD (hu62 hr)) (pv 0) (pe_lst pa_nil) (nomark _))
        (pss_cut (ps_set (i := 3) sc_Lstamp.nd rfl (Or.inl rfl) (pe_op op_add (pe_ix ix_list (pe_ix ix_list (pv 0) (pe_un un_neg pe_int) (fun _ _ => rfl)) pe_int (fun _ _ => rfl)) (pe_ix ix_list (pe_lst (pa_cons pe_int (pa_cons pe_int (pa_cons pe_int (pa_cons (pe_op op_mod (pe_op op_fdiv (pv 1) pe_int) pe_int) pa_nil))))) (pe_op op_mod (pe_op op_fdiv (pv 1) pe_int) pe_int) (fun _ _ => rfl))))
      (pss_one (ps_if (PW.pt (pw_and (pt_cmpR op_eq (pv 3) (pe_ix ix_list (pe_ix ix_list (pv 0) (pe_un un_neg pe_int) (fun _ _ => rfl)) pe_int (fun _ _ => rfl)) (nomark _)) (pw_and1 (pt_cmpR op_le (pv 4) (pe_ix ix_list (pe_ix ix_list (pv 0) (pe_un un_neg pe_int) (fun _ _ => rfl)) pe_int (fun _ _ => rfl)) (nomark _)))))
        (pss_one (ps_set (i := 4) sc_Lstamp.nd rfl (Or.inl rfl) (pe_op op_add (pe_op op_add (pe_ix ix_list (pe_ix ix_list (pv 0) (pe_un un_neg pe_int) (fun _ _ => rfl)) pe_int (fun _ _ => rfl)) pe_int) (pe_op op_mod (pv 2) pe_int))))
        pss_nil)))
        pss_nil)
      (pss_cut (ps_while PassesOwn.never (pt_cmpR op_in_seq (pv 4) (pe_comp (N' := ["_law_there"]) (js := [none]) rfl rfl (by decide +kernel) (by decide +kernel) (free_nil (by decide +kernel)) (cap_nil rfl rfl) (pi_list (pv 0)) (fun B => ⟨(pg_name (i := 0) (show List.Nodup (["_law_there"] : List Str) by decide +kernel) rfl (Or.inl rfl)), pifs_nil, (pe_ix ix_list (pv 0) pe_int (fun _ _ => rfl))⟩)) (by with_unfolding_all rfl))
        (pss_one (ps_set (i := 4) sc_Lstamp.nd rfl (Or.inl rfl) (pe_op op_add (pv 4) pe_int))))
      (pss_one (ps_ret (pe_tup (pa_cons (pv 4) (pa_cons (pv 3) pa_nil)))))))))), ?_⟩
    have sz : 2000 < sizeLine := le_ble rfl
    have lw := hR.1
    have a0 := Int.emod_nonneg x (b := 5) (by decide)
    have a1 := Int.emod_lt_of_pos x (b := 5) (by decide)
    have b0 := Int.emod_nonneg y (b := 999000000) (by decide)
    have b1 := Int.emod_lt_of_pos y (b := 999000000) (by decide)
    have c0 := Int.emod_nonneg y (b := 100) (by decide)
    have c1 := Int.emod_lt_of_pos y (b := 100) (by decide)
    have e0 := Int.emod_nonneg y (b := 1000) (by decide)
    have e1 := Int.emod_lt_of_pos y (b := 1000) (by decide)
    walk_at "rd"
    refine ⟨fun σ' G' => H = G' ∧ ∃ num : Int, σ' = [some (.ref l), some (.int x), some (.int y), some (.int (1 + x % 5)), some (.int num)] ∧ 1 ≤ num ∧ num ≤ 999000000, ?_, ?_⟩
    · walk_at "rd"
      refine ite2 (fun _ => ?_) (fun _ => ?_)
      · walk_at "rd"
        exact ⟨by omega, by omega⟩
      · exact ⟨rfl, _, rfl, by omega, by omega⟩
    rintro σ' G' ⟨rfl, num, rfl, n0, n1⟩
    refine ⟨fun σ' G' => Same H G' ∧ ∃ day num : Int, σ' = [some (.ref l), some (.int x), some (.int y), some (.int day), some (.int num)] ∧ 1 ≤ num ∧ num ≤ 999000000 + 2000 * (es.length : Int) + 1001 ∧ 1 ≤ day ∧ day ≤ 9000 * ((es.length : Int) + 1) ∧ (∀ e, lastW none es = some e → e.d < day ∨ e.d = day ∧ e.n < num), ?_, ?_⟩
    · refine ⟨_, rfl, le_ble rfl, fun q0 hq0 => ?_⟩
      have t0 := Same.new (o := HO.lst []) hq0
      have hL0 := t0 _ _ hL
      have hR0 := hR.same t0
      refine ⟨0, _, by decide, seqNil (SqL.of hL0) (SqL.of upd_same), _, rfl, ?_⟩
      generalize upd H q0 (.lst []) = G4 at t0 hL0 hR0 ⊢
      refine iteB (fun he => ?_) (fun he => ?_)
      · have wne : ws ≠ [] := fun z => by rw [z] at he; exact absurd he (by decide)
        obtain ⟨e, ra, le, em, hat, hra⟩ := hR0.last wne
        have en := hB.nn e em
        have ed := hB.dd e em
        have f0 : atI (rowB e) 0 = some (.int e.n) := atI_nat (j := 0) rfl
        have f1 : atI (rowB e) 1 = some (.int e.d) := atI_nat (j := 1) rfl
        refine ⟨fun σ' G' => Same G4 G' ∧ ∃ day : Int, σ' = [some (.ref l), some (.int x), some (.int y), some (.int day), some (.int num)] ∧ e.d ≤ day ∧ day ≤ e.d + 8999, ?_, ?_⟩
        · walk_at "rd"
          refine ⟨l, _, _, _, rfl, rfl, SqL.of hL0, hat, ?_⟩
          walk_at "rd"
          refine ⟨ra, _, _, _, rfl, rfl, SqL.of hra, f1, ?_⟩
          walk_at "rd"
          refine ⟨le_ble rfl, fun q1 hq1 => ?_⟩
          walk_at "rd"
          obtain ⟨sv, hsv, hsm⟩ := atI_in (xs := [V.int 0, V.int 0, V.int 1, V.int (x / 60 % 9000)]) (i := x / 15 % 4) (Int.emod_nonneg _ (by decide)) (by show _ < (4 : Int); exact Int.emod_lt_of_pos _ (by decide))
          obtain ⟨st, rfl, st0, st1⟩ : ∃ st : Int, sv = .int st ∧ 0 ≤ st ∧ st < 9000 := by
            have b0 := Int.emod_nonneg (x / 60) (b := 9000) (by decide)
            have b1 := Int.emod_lt_of_pos (x / 60) (b := 9000) (by decide)
            simp only [List.mem_cons, List.not_mem_nil, or_false] at hsm
            rcases hsm with rfl | rfl | rfl | rfl
            · exact ⟨_, rfl, by decide, by decide⟩
            · exact ⟨_, rfl, by decide, by decide⟩
            · exact ⟨_, rfl, by decide, by decide⟩
            · exact ⟨_, rfl, b0, b1⟩
          exact ⟨q1, _, _, _, rfl, rfl, SqL.of upd_same, hsv, _, _, rfl, rfl, Same.new hq1, _, rfl, by omega, by omega⟩
        rintro σ' G5 ⟨t5, day, rfl, d0, d1⟩
        have t45 := t0.trans t5
        have hL5 := t5 _ _ hL0
        have hra5 := t5 _ _ hra
        have fin : ∀ num' : Int, (e.d < day ∨ e.d = day ∧ e.n < num') → ∀ e', lastW none es = some e' → e'.d < day ∨ e'.d = day ∧ e'.n < num' := fun num' h e' q => by
          rw [le] at q
          cases q
          exact h
        walk_at "rd"
        refine ⟨l, _, _, _, rfl, rfl, SqL.of hL5, hat, ?_⟩
        walk_at "rd"
        refine ⟨ra, _, _, _, rfl, rfl, SqL.of hra5, f1, ?_⟩
        walk_at "rd"
        refine ite2 (fun z => ?_) (fun z => ?_)
        · have z : day = e.d := V.int.inj (of_decide_eq_true z)
          walk_at "rd"
          refine ⟨l, _, _, _, rfl, rfl, SqL.of hL5, hat, ?_⟩
          walk_at "rd"
          refine ⟨ra, _, _, _, rfl, rfl, SqL.of hra5, f0, ?_⟩
          walk_at "rd"
          refine ite2 (fun z2 => ?_) (fun z2 => ?_)
          · have z2 : num ≤ e.n := of_decide_eq_true z2
            walk_at "rd"
            refine ⟨l, _, _, _, rfl, rfl, SqL.of hL5, hat, ?_⟩
            walk_at "rd"
            refine ⟨ra, _, _, _, rfl, rfl, SqL.of hra5, f0, ?_⟩
            walk_at "rd"
            exact ⟨t45, _, _, rfl, by omega, by omega, by omega, by omega, fin _ (.inr ⟨z.symm, by omega⟩)⟩
          · have z2 : ¬ num ≤ e.n := fun q => z2 (decide_eq_true q)
            exact ⟨t45, _, _, rfl, by omega, by omega, by omega, by omega, fin _ (.inr ⟨z.symm, by omega⟩)⟩
        · have z : ¬ day = e.d := fun q => z (decide_eq_true (congrArg V.int q))
          exact iteF ⟨t45, _, _, rfl, by omega, by omega, by omega, by omega, fin _ (.inl (by omega))⟩
      · have wn : ws = [] := by
          cases ws with
          | nil => rfl
          | cons _ _ => cases he
        have en : es = [] := List.eq_nil_of_length_eq_zero (by rw [← lw, wn]; rfl)
        refine ⟨t0, _, _, rfl, by omega, by omega, by omega, by omega, fun e q => ?_⟩
        rw [en] at q
        cases q
    rintro σ' G1 ⟨s1, day, num, rfl, n0, n1, d0, d1, la⟩
    refine ⟨fun σ' G' => Same H G' ∧ ∃ num' : Int, σ' = [some (.ref l), some (.int x), some (.int y), some (.int day), some (.int num')] ∧ num ≤ num' ∧ num' ≤ 999000000 + 2000 * (es.length : Int) + 1001 ∧ (∀ e ∈ es, e.n ≠ num'), ?_, ?_⟩
    · refine ⟨fun m σ' G' => Same H G' ∧ ∃ num' : Int, σ' = [some (.ref l), some (.int x), some (.int y), some (.int day), some (.int num')] ∧ num ≤ num' ∧ num' ≤ 999000000 + 2000 * (es.length : Int) + 1001 ∧ m = (10000000000 - num').toNat, ⟨_, s1, num, rfl, Int.le_refl _, n1, rfl⟩, ?_⟩
      rintro m σ' G2 ⟨s2, num', rfl, m0, m1, rfl⟩
      have hL2 := s2 _ _ hL
      have hR2 := hR.same s2
      refine ⟨_, rfl, _, rfl, l, rfl, ⟨_, SqL.of hL2⟩, fun q B hq => ?_⟩
      refine loop_lst (xs := ws) (fun i σ acc G => (∃ o, σ = [o]) ∧ Same G2 G ∧ G q = some (.lst acc) ∧ acc = ((es.take i).map (·.n)).map V.int) (by omega) ?_ ?_ ?_ ?_
      · exact ⟨⟨_, rfl⟩, Same.new hq, upd_same, rfl⟩
      · rintro i σ acc G hi ⟨_, sG, h1, rfl⟩
        exact ⟨h1, SqL.of (sG _ _ hL2), by rw [List.length_map, List.length_map, List.length_take]; omega⟩
      · rintro i v σ acc G hx ⟨⟨o, rfl⟩, sG, h1, rfl⟩
        have hi : i < ws.length := (List.getElem?_eq_some_iff.mp hx).1
        have hie : i < es.length := by omega
        have ee : es[i]? = some es[i] := List.getElem?_eq_getElem hie
        obtain ⟨ra, rfl, hrow⟩ := hR2.2 i v _ hx ee
        have f0 : atI (rowB es[i]) 0 = some (.int es[i].n) := atI_nat (j := 0) rfl
        have hrow := sG _ _ hrow
        refine ⟨_, rfl, ra, _, _, _, rfl, rfl, SqL.of hrow, f0, h1, Nx.mk hi ⟨⟨_, rfl⟩, same_put hq sG, upd_same, ?_⟩⟩
        rw [take_one ee, List.map_append, List.map_append]
        rfl
      · rintro σ acc G ⟨_, sG, h1, rfl⟩
        rw [lw, List.take_of_length_le (Nat.le_refl _)] at h1
        refine ⟨q, _, rfl, .inl (SqL.of h1), rfl, flatI _, _, rfl, ?_⟩
        refine iteB (fun z => ?_) (fun z => ?_)
        · obtain ⟨e, he, en⟩ := List.mem_map.mp (inV_ints.mp z)
          have en2 := (hB.nn e he).2
          refine ⟨fun σ' G' => G = G' ∧ σ' = [some (.ref l), some (.int x), some (.int y), some (.int day), some (.int (num' + 1))], fun σ' G' h => ⟨(10000000000 - (num' + 1)).toNat, by omega, h.1 ▸ s2.trans sG, num' + 1, h.2, by omega, by omega, rfl⟩, ?_⟩
          walk_at "rd"
          first | done | exact rfl | exact ⟨rfl, rfl⟩
        · refine ⟨s2.trans sG, num', rfl, m0, m1, fun e he en => ?_⟩
          have : inV (.int num') ((es.map (·.n)).map V.int) = true := inV_ints.mpr (en ▸ List.mem_map_of_mem (f := fun x : En => x.n) he)
          rw [show inV (.int num') ((es.map (·.n)).map V.int) = false from z] at this
          cases this
    rintro σ' G2 ⟨s2, num', rfl, m0, m1, m2⟩
    refine ⟨_, rfl, _, rfl, le_ble rfl, fun t ht => ?_⟩
    refine k num' day t _ (s2.trans (Same.new ht)) upd_same m2 (by omega) (by omega) d0 d1 fun e q => ?_
    rcases la e q with h | h
    · exact .inl h
    · exact .inr ⟨h.1, by omega⟩

set_option maxHeartbeats 4000000 in
theorem ok_Lpick (T : Txt w K mg c) : FnOk P w K mg base CX0 1 c.a_Lpick c.d_Lpick ["_law_book_here", "_law_rank", "_law_one", "_law_other"] (spPick) := by
  refine T.Lpick.fn.ok sc_Lpick (fun vs H Q E h => ?_) (fun cdv A outer s H vs Q E hr h => ?_)
  · obtain ⟨l, ws, es, rk, x, y, rfl, _⟩ := h
    rfl
  · obtain ⟨l, ws, es, rk, x, y, rfl, hL, hR, hB, ne, k⟩ := h
    refine ⟨_, (pss_cut (ps_setComp (i := 4) sc_Lpick.nd rfl rfl (N' := ["_law_there", "_law_rank"]) (js := [none, some 1]) rfl rfl (by decide +kernel) (by decide +kernel) (free_of ["_law_rank"] (by decide +kernel) (fm_cons (.inl rfl) fm_nil)) (cap_of rfl (fm_cons (fun j e => nomatch e) (fm_cons (fun j e => by cases e; exact ⟨rfl, rfl, .inl rfl⟩) fm_nil))) (pi_list (pv 0)) (fun B => ⟨(pg_name (i := 0) (show List.Nodup (["_law_there", "_law_rank"] : List Str) by decide +kernel) rfl (Or.inl rfl)), (pifs_one (PW.pt (pw_and (pt_cmpR op_eq (pe_ix ix_list (pv 0) pe_int (fun _ _ => rfl)) (pv 1) (nomark _)) (pw_and1 (pt_cmp (pc_isN (pe_ix ix_list (pv 0) pe_int (fun _ _ => rfl)))))))), (pv 0)⟩))
      (pss_cut (ps_if (PW.pt (pw_or (pt_cmpR (op_eqD (hu62 hr)) (pv 4) (pe_lst pa_nil) (nomark _)) (pw_or1 (pt_cmpR op_eq (pe_op op_mod (pv 2) pe_int) pe_int (nomark _)))))
        (pss_one (ps_set (i := 4) sc_Lpick.nd rfl (Or.inl rfl) (pv 0)))
        pss_nil)
      (pss_cons (ps_if (pt_cmpR op_eq (pe_op op_mod (pe_op op_fdiv (pv 2) pe_int) pe_int) pe_int (nomark _))
        (pss_one (ps_ret (pe_op op_add pe_int (pe_op op_mod (pv 3) (pe_op op_pow pe_int pe_int)))))
        pss_nil)
      (pss_one (ps_ret (pe_ix ix_list (pe_ix ix_list (pv 4) (pe_op op_mod (pv 3) (pe_callB call_len_seq rfl T.no_len bt_len (pa_cons (pv 4) pa_nil))) (fun _ _ => rfl)) pe_int (fun _ _ => rfl))))))), ?_⟩
    have sz : 2000 < sizeLine := le_ble rfl
    have lw := hR.1
    have l84 := hB.le
    refine ⟨fun σ' G' => Same H G' ∧ ∃ q acc, σ' = [some (.ref l), some (.str rk), some (.int x), some (.int y), some (.ref q)] ∧ G' q = some (.lst acc) ∧ Some G' es acc, ?_, ?_⟩
    · refine ⟨_, rfl, l, rfl, ⟨_, SqL.of hL⟩, fun q B hq => ?_⟩
      refine loop_lst (xs := ws) (fun i σ acc G => (∃ o, σ = [o, some (.str rk)]) ∧ Same H G ∧ G q = some (.lst acc) ∧ acc.length ≤ i ∧ ∀ v ∈ acc, ∃ e ∈ es, RowB H v e) (by omega) ?_ ?_ ?_ ?_
      · exact ⟨⟨_, rfl⟩, Same.new hq, upd_same, Nat.zero_le _, fun _ h => nomatch h⟩
      · rintro i σ acc G hi ⟨_, sG, h1, h2, _⟩
        exact ⟨h1, SqL.of (sG _ _ hL), by omega⟩
      · rintro i v σ acc G hx ⟨⟨o, rfl⟩, sG, h1, h2, h3⟩
        have hi : i < ws.length := (List.getElem?_eq_some_iff.mp hx).1
        have hie : i < es.length := by omega
        have ee : es[i]? = some es[i] := List.getElem?_eq_getElem hie
        have hrw := hR.2 i v _ hx ee
        obtain ⟨ra, rfl, hrow⟩ := hR.2 i v _ hx ee
        have em := List.getElem_mem hie
        generalize es[i] = e at hrow em hrw
        have f2 : atI (rowB e) 2 = some (.str e.r) := atI_nat (j := 2) rfl
        have f6 : atI (rowB e) 6 = some (optV e.b) := atI_nat (j := 6) rfl
        have hrow := sG _ _ hrow
        have no : Nx ws.length i ((∃ o', [some (V.ref ra), some (V.str rk)] = [o', some (V.str rk)]) ∧ Same H G ∧ G q = some (.lst acc) ∧ acc.length ≤ i + 1 ∧ ∀ v ∈ acc, ∃ e ∈ es, RowB H v e) := Nx.mk hi ⟨⟨_, rfl⟩, sG, h1, by omega, h3⟩
        walk_at "rd"
        refine ⟨ra, _, _, _, rfl, rfl, SqL.of hrow, f2, ?_⟩
        walk_at "rd"
        refine ite2 (fun _ => ?_) (fun _ => iteF no)
        walk_at "rd"
        refine ⟨ra, _, _, _, rfl, rfl, SqL.of hrow, f6, ?_⟩
        walk_at "rd"
        refine iteB (fun _ => ?_) (fun _ => no)
        refine ⟨_, rfl, h1, Nx.mk hi ⟨⟨_, rfl⟩, same_put hq sG, upd_same, by rw [List.length_append]; exact Nat.add_le_add_right h2 1, fun v hv => ?_⟩⟩
        rcases List.mem_append.mp hv with z | z
        · exact h3 v z
        · rw [List.mem_singleton.mp z]; exact ⟨e, em, hrw⟩
      · rintro σ acc G ⟨_, sG, h1, h2, h3⟩
        exact ⟨sG, q, acc, rfl, h1, by omega, fun v hv => let ⟨e, he, hr⟩ := h3 v hv; ⟨e, he, hr.same sG⟩⟩
    rintro σ' G1 ⟨s1, q, acc, rfl, hq, hS⟩
    refine ⟨fun σ' G' => Same H G' ∧ ∃ q acc, σ' = [some (.ref l), some (.str rk), some (.int x), some (.int y), some (.ref q)] ∧ G' q = some (.lst acc) ∧ Some G' es acc ∧ acc ≠ [], ?_, ?_⟩
    · refine ⟨_, rfl, le_ble rfl, fun q0 hq0 => ?_⟩
      have t0 := Same.new (o := HO.lst []) hq0
      have hq1 := t0 _ _ hq
      have hS1 := hS.same t0
      have hL1 := (s1.trans t0) _ _ hL
      have hR1 := hR.same (s1.trans t0)
      refine ⟨0, _, by decide, seqNil (SqL.of hq1) (SqL.of upd_same), _, rfl, ?_⟩
      generalize upd G1 q0 (.lst []) = G4 at t0 hq1 hS1 hL1 hR1 ⊢
      have wne : ws ≠ [] := fun z => ne (List.eq_nil_of_length_eq_zero (by rw [← lw, z]; rfl))
      refine iteB (fun _ => iteT ?_) (fun he => ?_)
      · exact ⟨_, rfl, s1.trans t0, l, ws, rfl, hL1, hR1.some, wne⟩
      · have ane : acc ≠ [] := fun z => by rw [z] at he; cases he
        walk_at "rd"
        refine ite2 (fun _ => ?_) (fun _ => ?_)
        · exact ⟨_, rfl, s1.trans t0, l, ws, rfl, hL1, hR1.some, wne⟩
        · exact ⟨s1.trans t0, q, acc, rfl, hq1, hS1, ane⟩
    clear hq hS s1
    rintro σ' G2 ⟨s2, q, acc, rfl, hq, hS, ane⟩
    have ap : 0 < acc.length := List.length_pos_iff.mpr ane
    obtain ⟨v, hv, hm⟩ := atI_in (xs := acc) (i := y % (acc.length : Int)) (Int.emod_nonneg _ (by omega)) (Int.emod_lt_of_pos _ (by omega))
    obtain ⟨e, he, hr⟩ := hS.2 v hm
    
    have n9 := hB.nn e he
    obtain ⟨ra, rfl, hrow⟩ := hr
    have f0 : atI (rowB e) 0 = some (.int e.n) := atI_nat (j := 0) rfl
    walk_at "rd"
    refine ite2 (fun _ => ?_) (fun _ => ?_)
    · walk_at "rd"
      refine k _ G2 s2 ?_ ?_
      · have := Int.emod_nonneg y (b := 1000000000) (by decide)
        show 1 ≤ 1 + y % 1000000000
        omega
      · have := Int.emod_lt_of_pos y (b := 1000000000) (by decide)
        show 1 + y % 1000000000 ≤ 1000000000
        omega
    · walk_at "rd"
      refine ⟨q, _, rfl, .inl (SqL.of hq), ?_⟩
      walk_at "rd"
      refine ⟨by show (0 : Int) < acc.length; omega, ?_⟩
      refine ⟨q, _, _, _, rfl, rfl, SqL.of hq, hv, ?_⟩
      walk_at "rd"
      exact ⟨ra, _, _, _, rfl, rfl, SqL.of hrow, f0, k _ G2 s2 (by omega) (by omega)⟩

set_option maxHeartbeats 4000000 in
theorem ok_Lbase (T : Txt w K mg c) : FnOk P w K mg base CX0 1 c.a_Lbase c.d_Lbase ["_law_book_here", "_law_rank", "_law_one", "_law_other"] (spBaseB) := by
  refine T.Lbase.fn.ok sc_Lbase (fun vs H Q E h => ?_) (fun cdv A outer s H vs Q E hr h => ?_)
  · obtain ⟨l, ws, es, rk, x, y, rfl, _⟩ := h
    rfl
  · obtain ⟨l, ws, es, rk, x, y, rfl, hL, hR, hB, ne, k⟩ := h
    refine ⟨_, (pss_cut (ps_setComp (i := 4) sc_Lbase.nd rfl rfl (N' := ["_law_there", "_law_rank"]) (js := [none, some 1]) rfl rfl (by decide +kernel) (by decide +kernel) (free_of ["_law_rank"] (by decide +kernel) (fm_cons (.inl rfl) fm_nil)) (cap_of rfl (fm_cons (fun j e => nomatch e) (fm_cons (fun j e => by cases e; exact ⟨rfl, rfl, .inl rfl⟩) fm_nil))) (pi_list (pv 0)) (fun B => ⟨(pg_name (i := 0) (show List.Nodup (["_law_there", "_law_rank"] : List Str) by decide +kernel) rfl (Or.inl rfl)), (pifs_one (PW.pt (pw_and (pt_cmpR op_eq (pe_ix ix_list (pv 0) pe_int (fun _ _ => rfl)) (pv 1) (nomark _)) (pw_and1 (pt_cmp (pc_isN (pe_ix ix_list (pv 0) pe_int (fun _ _ => rfl)))))))), (pv 0)⟩))
      (pss_cut (ps_if (PW.pt (pw_or (pt_cmpR (op_eqD (hu62 hr)) (pv 4) (pe_lst pa_nil) (nomark _)) (pw_or1 (pt_cmpR op_eq (pe_op op_mod (pv 2) pe_int) pe_int (nomark _)))))
        (pss_one (ps_set (i := 4) sc_Lbase.nd rfl (Or.inl rfl) (pv 0)))
        pss_nil)
      (pss_one (ps_ret (pe_ix ix_list (pv 4) (pe_op op_mod (pv 3) (pe_callB call_len_seq rfl T.no_len bt_len (pa_cons (pv 4) pa_nil))) (fun _ _ => rfl)))))), ?_⟩
    have sz : 2000 < sizeLine := le_ble rfl
    have lw := hR.1
    have l84 := hB.le
    refine ⟨fun σ' G' => Same H G' ∧ ∃ q acc, σ' = [some (.ref l), some (.str rk), some (.int x), some (.int y), some (.ref q)] ∧ G' q = some (.lst acc) ∧ Some G' es acc, ?_, ?_⟩
    · refine ⟨_, rfl, l, rfl, ⟨_, SqL.of hL⟩, fun q B hq => ?_⟩
      refine loop_lst (xs := ws) (fun i σ acc G => (∃ o, σ = [o, some (.str rk)]) ∧ Same H G ∧ G q = some (.lst acc) ∧ acc.length ≤ i ∧ ∀ v ∈ acc, ∃ e ∈ es, RowB H v e) (by omega) ?_ ?_ ?_ ?_
      · exact ⟨⟨_, rfl⟩, Same.new hq, upd_same, Nat.zero_le _, fun _ h => nomatch h⟩
      · rintro i σ acc G hi ⟨_, sG, h1, h2, _⟩
        exact ⟨h1, SqL.of (sG _ _ hL), by omega⟩
      · rintro i v σ acc G hx ⟨⟨o, rfl⟩, sG, h1, h2, h3⟩
        have hi : i < ws.length := (List.getElem?_eq_some_iff.mp hx).1
        have hie : i < es.length := by omega
        have ee : es[i]? = some es[i] := List.getElem?_eq_getElem hie
        have hrw := hR.2 i v _ hx ee
        obtain ⟨ra, rfl, hrow⟩ := hR.2 i v _ hx ee
        have em := List.getElem_mem hie
        generalize es[i] = e at hrow em hrw
        have f2 : atI (rowB e) 2 = some (.str e.r) := atI_nat (j := 2) rfl
        have f6 : atI (rowB e) 6 = some (optV e.b) := atI_nat (j := 6) rfl
        have hrow := sG _ _ hrow
        have no : Nx ws.length i ((∃ o', [some (V.ref ra), some (V.str rk)] = [o', some (V.str rk)]) ∧ Same H G ∧ G q = some (.lst acc) ∧ acc.length ≤ i + 1 ∧ ∀ v ∈ acc, ∃ e ∈ es, RowB H v e) := Nx.mk hi ⟨⟨_, rfl⟩, sG, h1, by omega, h3⟩
        walk_at "rd"
        refine ⟨ra, _, _, _, rfl, rfl, SqL.of hrow, f2, ?_⟩
        walk_at "rd"
        refine ite2 (fun _ => ?_) (fun _ => iteF no)
        walk_at "rd"
        refine ⟨ra, _, _, _, rfl, rfl, SqL.of hrow, f6, ?_⟩
        walk_at "rd"
        refine iteB (fun _ => ?_) (fun _ => no)
        refine ⟨_, rfl, h1, Nx.mk hi ⟨⟨_, rfl⟩, same_put hq sG, upd_same, by rw [List.length_append]; exact Nat.add_le_add_right h2 1, fun v hv => ?_⟩⟩
        rcases List.mem_append.mp hv with z | z
        · exact h3 v z
        · rw [List.mem_singleton.mp z]; exact ⟨e, em, hrw⟩
      · rintro σ acc G ⟨_, sG, h1, h2, h3⟩
        exact ⟨sG, q, acc, rfl, h1, by omega, fun v hv => let ⟨e, he, hr⟩ := h3 v hv; ⟨e, he, hr.same sG⟩⟩
    rintro σ' G1 ⟨s1, q, acc, rfl, hq, hS⟩
    refine ⟨fun σ' G' => Same H G' ∧ ∃ q acc, σ' = [some (.ref l), some (.str rk), some (.int x), some (.int y), some (.ref q)] ∧ G' q = some (.lst acc) ∧ Some G' es acc ∧ acc ≠ [], ?_, ?_⟩
    · refine ⟨_, rfl, le_ble rfl, fun q0 hq0 => ?_⟩
      have t0 := Same.new (o := HO.lst []) hq0
      have hq1 := t0 _ _ hq
      have hS1 := hS.same t0
      have hL1 := (s1.trans t0) _ _ hL
      have hR1 := hR.same (s1.trans t0)
      refine ⟨0, _, by decide, seqNil (SqL.of hq1) (SqL.of upd_same), _, rfl, ?_⟩
      generalize upd G1 q0 (.lst []) = G4 at t0 hq1 hS1 hL1 hR1 ⊢
      have wne : ws ≠ [] := fun z => ne (List.eq_nil_of_length_eq_zero (by rw [← lw, z]; rfl))
      refine iteB (fun _ => iteT ?_) (fun he => ?_)
      · exact ⟨_, rfl, s1.trans t0, l, ws, rfl, hL1, hR1.some, wne⟩
      · have ane : acc ≠ [] := fun z => by rw [z] at he; cases he
        walk_at "rd"
        refine ite2 (fun _ => ?_) (fun _ => ?_)
        · exact ⟨_, rfl, s1.trans t0, l, ws, rfl, hL1, hR1.some, wne⟩
        · exact ⟨s1.trans t0, q, acc, rfl, hq1, hS1, ane⟩
    clear hq hS s1
    rintro σ' G2 ⟨s2, q, acc, rfl, hq, hS, ane⟩
    have ap : 0 < acc.length := List.length_pos_iff.mpr ane
    obtain ⟨v, hv, hm⟩ := atI_in (xs := acc) (i := y % (acc.length : Int)) (Int.emod_nonneg _ (by omega)) (Int.emod_lt_of_pos _ (by omega))
    obtain ⟨e, he, hr⟩ := hS.2 v hm
    
    walk_at "rd"
    refine ⟨q, _, rfl, .inl (SqL.of hq), ?_⟩
    walk_at "rd"
    refine ⟨by show (0 : Int) < acc.length; omega, ?_⟩
    exact ⟨q, _, _, _, rfl, rfl, SqL.of hq, hv, k v e G2 s2 he hr⟩

set_option maxHeartbeats 4000000 in
theorem ok_Lcell_at (T : Txt w K mg c) : FnOk P w K mg base CX0 1 c.a_Lcell_at c.d_Lcell_at ["_law_script", "_law_k"] (spCell K) := by
  refine T.Lcell_at.fn.ok sc_Lcell_at (fun vs H Q E h => ?_) (fun cdv A outer s H vs Q E hr h => ?_)
  · obtain ⟨a, i, ns, rfl, _⟩ := h
    rfl
  · obtain ⟨a, i, ns, rfl, h0, hS, k⟩ := h
    refine ⟨_, (pss_cons (ps_if (pt_cmpR op_lt (pv 1) (pe_callB call_len_seq rfl T.no_len bt_len (pa_cons (pv 0) pa_nil)) (nomark _))
        (pss_one (ps_ret (pe_ix ix_list (pv 0) (pv 1) (fun _ _ => rfl))))
        pss_nil)
      (pss_one (ps_ret pe_int))), ?_⟩
    refine ⟨_, rfl, _, rfl, a, _, rfl, .inl hS, _, _, rfl, rfl, _, rfl, ?_⟩
    refine ite2 (fun hl => ?_) (fun _ => k 0)
    obtain ⟨v, hv, hm⟩ := atI_in (xs := ns.map V.int) h0 (of_decide_eq_true hl)
    obtain ⟨z, _, rfl⟩ := List.mem_map.mp hm
    exact ⟨_, rfl, _, rfl, a, _, i, _, rfl, rfl, hS, hv, k z⟩

set_option maxHeartbeats 4000000 in
theorem ok_Lentry (T : Txt w K mg c) : FnOk P w K mg base CX0 3 c.a_Lentry c.d_Lentry ["_law_book_here", "_law_words_here", "_law_cell", "_law_k", "_law_free"] (spEntry) := by
  refine T.Lentry.fn.ok sc_Lentry (fun vs H Q E h => ?_) (fun cdv A outer s H vs Q E hr h => ?_)
  · obtain ⟨l, ws, es, wl, zs, n, i, fr, rfl, _⟩ := h
    rfl
  · obtain ⟨l, ws, es, wl, zs, n, i, fr, rfl, hL, hR, hB, h84, hW, lz, hz, i0, i1, k⟩ := h
    refine ⟨_, (pss_cons (ps_set (i := 5) sc_Lentry.nd rfl (Or.inl rfl) (pe_call (ok_Ldraws T) (hr.mono (by decide)) rfl T.Ldraws.mgf T.Ldraws.kp T.Ldraws.bi .nil pass0 (pa_cons (pv 2) (pa_cons (pv 3) (pa_cons (pv 4) pa_nil)))))
      (pss_cons (ps_asg (pe_call (ok_Lstamp T) (hr.mono (by decide)) rfl T.Lstamp.mgf T.Lstamp.kp T.Lstamp.bi .nil pass0 (pa_cons (pv 0) (pa_cons (pe_ix ix_list (pv 5) pe_int (fun _ _ => rfl)) (pa_cons (pe_ix ix_list (pv 5) pe_int (fun _ _ => rfl)) pa_nil)))) (pg_tup rfl (pgs_cons (pg_name (i := 6) sc_Lentry.nd rfl (Or.inl rfl)) (pgs_cons (pg_name (i := 7) sc_Lentry.nd rfl (Or.inl rfl)) pgs_nil))))
      (pss_cut (ps_set (i := 8) sc_Lentry.nd rfl (Or.inl rfl) (pe_ix ix_list (pv 1) (pe_op op_mod (pe_ix ix_list (pv 5) pe_int (fun _ _ => rfl)) pe_int) (fun _ _ => rfl)))
      (pss_cut (ps_if (PW.pt (pw_and (pt_val (pv 4)) (pw_and1 (pt_cmpR op_eq (pe_op op_mod (pe_op op_fdiv (pe_ix ix_list (pv 5) pe_int (fun _ _ => rfl)) pe_int) pe_int) pe_int (nomark _)))))
        (pss_one (ps_set (i := 8) sc_Lentry.nd rfl (Or.inl rfl) (pe_call (ok_Lany_word T) (hr.mono (by decide)) rfl T.Lany_word.mgf T.Lany_word.kp T.Lany_word.bi .nil pass0 (pa_cons (pe_op op_add (pe_ix ix_list (pv 5) pe_int (fun _ _ => rfl)) (pe_op op_mul (pe_ix ix_list (pv 5) pe_int (fun _ _ => rfl)) (pe_op op_pow pe_int pe_int))) pa_nil))))
        pss_nil)
      (pss_cut (ps_set (i := 9) sc_Lentry.nd rfl (Or.inl rfl) (pe_ix ix_list (pe_lst (pa_cons (pe_op op_add pe_int (pe_op op_mod (pe_ix ix_list (pv 5) pe_int (fun _ _ => rfl)) pe_int)) (pa_cons (pe_op op_add pe_int (pe_op op_mod (pe_op op_fdiv (pe_ix ix_list (pv 5) pe_int (fun _ _ => rfl)) pe_int) (pe_op op_pow pe_int pe_int))) pa_nil))) (pe_op op_mod (pe_ix ix_list (pv 5) pe_int (fun _ _ => rfl)) pe_int) (fun _ _ => rfl)))
      (pss_cut (ps_set (i := 10) sc_Lentry.nd rfl (Or.inl rfl) (pe_cmpR op_gt (pe_op op_mod (pe_op op_fdiv (pe_ix ix_list (pv 5) pe_int (fun _ _ => rfl)) pe_int) pe_int) pe_int (nomark _)))
      (pss_cons (ps_if (PW.pt (pw_or (pt_cmpR op_eq (pe_op op_mod (pv 2) pe_int) pe_int (nomark _)) (pw_or1 (pt_cmpR (op_eqD (hu62 hr)) (pv 0) (pe_lst pa_nil) (nomark _)))))
        (pss_one (ps_ret (pe_lst (pa_cons (pv 6) (pa_cons (pv 7) (pa_cons pe_str (pa_cons (pv 8) (pa_cons pe_non (pa_cons (pv 9) (pa_cons pe_non (pa_cons (pv 10) pa_nil)))))))))))
        pss_nil)
      (pss_cut (ps_set (i := 11) sc_Lentry.nd rfl (Or.inl rfl) (pe_ix ix_list (pe_lst (pa_cons pe_str (pa_cons pe_str pa_nil))) (pe_callTy call_int1 rfl T.no_int bt_int (pa_cons (pe_or (pe_cmpR op_eq (pe_op op_mod (pv 2) pe_int) pe_int (nomark _)) (pe_one (pe_cmpR op_eq (pe_op op_mod (pv 2) pe_int) pe_int (nomark _)))) pa_nil)) (fun _ _ => rfl)))
      (pss_cut (ps_set (i := 12) sc_Lentry.nd rfl (Or.inl rfl) (pe_call (ok_Lpick T) (hr.mono (by decide)) rfl T.Lpick.mgf T.Lpick.kp T.Lpick.bi .nil pass0 (pa_cons (pv 0) (pa_cons (pe_ix ix_list (pe_lst (pa_cons pe_str (pa_cons pe_str pa_nil))) (pe_callTy call_int1 rfl T.no_int bt_int (pa_cons (pe_cmpR op_eq (pv 11) pe_str (nomark _)) pa_nil)) (fun _ _ => rfl)) (pa_cons (pe_ix ix_list (pv 5) pe_int (fun _ _ => rfl)) (pa_cons (pe_ix ix_list (pv 5) pe_int (fun _ _ => rfl)) pa_nil))))))
      (pss_cut (ps_if (pt_cmpR op_eq (pe_op op_mod (pe_op op_fdiv (pe_ix ix_list (pv 5) pe_int (fun _ _ => rfl)) pe_int) pe_int) pe_int (nomark _))
        (pss_one (ps_set (i := 12) sc_Lentry.nd rfl (Or.inl rfl) (pv 6)))
        pss_nil)
      (pss_cons (ps_if (pt_cmpR op_lt (pe_op op_mod (pv 2) pe_int) pe_int (nomark _))
        (pss_one (ps_ret (pe_lst (pa_cons (pv 6) (pa_cons (pv 7) (pa_cons (pv 11) (pa_cons (pv 8) (pa_cons (pv 12) (pa_cons (pv 9) (pa_cons pe_non (pa_cons (pv 10) pa_nil)))))))))))
        pss_nil)
      (pss_cons (ps_set (i := 13) sc_Lentry.nd rfl (Or.inl rfl) (pe_call (ok_Lbase T) (hr.mono (by decide)) rfl T.Lbase.mgf T.Lbase.kp T.Lbase.bi .nil pass0 (pa_cons (pv 0) (pa_cons (pv 11) (pa_cons (pe_op op_fdiv (pe_ix ix_list (pv 5) pe_int (fun _ _ => rfl)) pe_int) (pa_cons (pe_ix ix_list (pv 5) pe_int (fun _ _ => rfl)) pa_nil))))))
      (pss_cut (ps_if (pt_cmpR op_gt (pe_op op_mod (pe_op op_fdiv (pe_ix ix_list (pv 5) pe_int (fun _ _ => rfl)) pe_int) pe_int) pe_int (nomark _))
        (pss_one (ps_set (i := 8) sc_Lentry.nd rfl (Or.inl rfl) (pe_ix ix_list (pv 13) pe_int (fun _ _ => rfl))))
        pss_nil)
      (pss_cons (ps_set (i := 14) sc_Lentry.nd rfl (Or.inl rfl) (pe_ix ix_list (pv 13) pe_int (fun _ _ => rfl)))
      (pss_cut (ps_if (pt_cmpR op_eq (pe_op op_mod (pe_op op_fdiv (pe_ix ix_list (pv 5) pe_int (fun _ _ => rfl)) pe_int) pe_int) pe_int (nomark _))
        (pss_one (ps_set (i := 14) sc_Lentry.nd rfl (Or.inl rfl) (pe_ix ix_list (pe_lst (pa_cons (pe_op op_add pe_int (pe_op op_mod (pe_ix ix_list (pv 5) pe_int (fun _ _ => rfl)) (pe_op op_pow pe_int pe_int))) (pa_cons (pv 6) (pa_cons (pe_op op_add (pe_op op_mod (pv 6) (pe_op op_pow pe_int pe_int)) pe_int) pa_nil)))) (pe_op op_mod (pe_op op_fdiv (pe_ix ix_list (pv 5) pe_int (fun _ _ => rfl)) pe_int) pe_int) (fun _ _ => rfl))))
        pss_nil)
      (pss_one (ps_ret (pe_lst (pa_cons (pv 6) (pa_cons (pv 7) (pa_cons (pv 11) (pa_cons (pv 8) (pa_cons (pv 12) (pa_cons pe_non (pa_cons (pv 14) (pa_cons (pv 10) pa_nil)))))))))))))))))))))))))), ?_⟩
    have sz : 2000 < sizeLine := le_ble rfl
    have lw := hR.1
    walk_at "rd"
    refine ⟨n, i, fr, rfl, i0, i1, fun ds dl G0 l10 hds s0 hdl hdr => ?_⟩
    have at_ : ∀ j : Nat, j < 10 → ∃ d, Drawn d ∧ atI (ds.map V.int) (j : Int) = some (.int d) := fun j hj => by
      have hl : j < ds.length := by omega
      refine ⟨ds[j], hds _ (List.getElem_mem hl), atI_nat ?_⟩
      rw [List.getElem?_map, List.getElem?_eq_getElem hl]
      rfl
    obtain ⟨x0, p0, g0⟩ := at_ 0 (by decide)
    obtain ⟨x1, p1, g1⟩ := at_ 1 (by decide)
    obtain ⟨x2, p2, g2⟩ := at_ 2 (by decide)
    obtain ⟨x3, p3, g3⟩ := at_ 3 (by decide)
    obtain ⟨x4, p4, g4⟩ := at_ 4 (by decide)
    obtain ⟨x5, p5, g5⟩ := at_ 5 (by decide)
    obtain ⟨x6, p6, g6⟩ := at_ 6 (by decide)
    obtain ⟨x7, p7, g7⟩ := at_ 7 (by decide)
    obtain ⟨x8, p8, g8⟩ := at_ 8 (by decide)
    obtain ⟨x9, p9, g9⟩ := at_ 9 (by decide)
    have rd : ∀ {G : Hp} (s : Same G0 G), SqL K G dl (ds.map V.int) := fun s => SqL.of (s _ _ hdr)
    walk_at "rd"
    refine ⟨dl, _, _, _, rfl, rfl, rd (Same.refl _), g0, ?_⟩
    walk_at "rd"
    refine ⟨dl, _, _, _, rfl, rfl, rd (Same.refl _), g1, ?_⟩
    refine ⟨l, ws, es, x0, x1, rfl, s0 _ _ hL, hR.same s0, hB, h84, p0, p1, fun num day t G1 s1 ht nw nn1 nn2 dd1 dd2 la => ?_⟩
    refine ⟨t, _, rfl, SqT.of ht, rfl, ?_⟩
    walk_at "rd"
    have sH := s0.trans s1
    have hW1 := sH _ _ hW
    refine ⟨fun σ' G' => G1 = G' ∧ ∃ wd : Str, σ' = [some (.ref l), some (.ref wl), some (.int n), some (.int i), some (.bl fr), some (.ref dl), some (.int num), some (.int day), some (.str wd), none, none, none, none, none, none] ∧ isWord (.str wd) = true, ?_, ?_⟩
    · walk_at "rd"
      refine ⟨dl, _, _, _, rfl, rfl, rd s1, g2, ?_⟩
      walk_at "rd"
      obtain ⟨wv, hwv, hwm⟩ := atI_in (xs := zs.map V.str) (i := x2 % 4) (Int.emod_nonneg _ (by decide)) (by rw [List.length_map, lz]; exact Int.emod_lt_of_pos _ (by decide))
      obtain ⟨wd, hwd, rfl⟩ := List.mem_map.mp hwm
      exact ⟨wl, _, _, _, rfl, rfl, SqL.of hW1, hwv, rfl, wd, rfl, hz wd hwd⟩
    rintro σ' G' ⟨rfl, wd, rfl, hwd⟩
    refine ⟨fun σ' G' => G1 = G' ∧ ∃ wd : Str, σ' = [some (.ref l), some (.ref wl), some (.int n), some (.int i), some (.bl fr), some (.ref dl), some (.int num), some (.int day), some (.str wd), none, none, none, none, none, none] ∧ isWord (.str wd) = true, ?_, ?_⟩
    · walk_at "rd"
      cases fr with
      | false => exact iteF (iteF ⟨rfl, wd, rfl, hwd⟩)
      | true =>
        refine iteT ?_
        walk_at "rd"
        refine ⟨dl, _, _, _, rfl, rfl, rd s1, g2, ?_⟩
        walk_at "rd"
        refine ite2 (fun _ => ?_) (fun _ => ⟨rfl, wd, rfl, hwd⟩)
        walk_at "rd"
        refine ⟨dl, _, _, _, rfl, rfl, rd s1, g8, ?_⟩
        walk_at "rd"
        refine ⟨dl, _, _, _, rfl, rfl, rd s1, g9, ?_⟩
        walk_at "rd"
        exact fun z hz => ⟨rfl, z, rfl, hz⟩
    clear wd hwd
    rintro σ' G' ⟨rfl, wd, rfl, hwd⟩
    refine ⟨fun σ' G' => Same G1 G' ∧ ∃ sh : Int, σ' = [some (.ref l), some (.ref wl), some (.int n), some (.int i), some (.bl fr), some (.ref dl), some (.int num), some (.int day), some (.str wd), some (.int sh), none, none, none, none, none] ∧ 1 ≤ sh ∧ sh ≤ 1000000000, ?_, ?_⟩
    · walk_at "rd"
      refine ⟨dl, _, _, _, rfl, rfl, rd s1, g3, ?_⟩
      walk_at "rd"
      refine ⟨dl, _, _, _, rfl, rfl, rd s1, g3, ?_⟩
      walk_at "rd"
      refine ⟨le_ble rfl, fun q1 hq1 => ?_⟩
      walk_at "rd"
      refine ⟨dl, _, _, _, rfl, rfl, rd (s1.trans (Same.new hq1)), g4, ?_⟩
      walk_at "rd"
      have u0 := Int.emod_nonneg x3 (b := 9) (by decide)
      have u1 := Int.emod_lt_of_pos x3 (b := 9) (by decide)
      have u2 := Int.emod_nonneg (x3 / 2) (b := 1000000000) (by decide)
      have u3 := Int.emod_lt_of_pos (x3 / 2) (b := 1000000000) (by decide)
      obtain ⟨sv, hsv, hsm⟩ := atI_in (xs := [V.int (1 + x3 % 9), V.int (1 + x3 / 2 % 1000000000)]) (i := x4 % 2) (Int.emod_nonneg _ (by decide)) (by show _ < (2 : Int); exact Int.emod_lt_of_pos _ (by decide))
      obtain ⟨st, rfl, st0, st1⟩ : ∃ st : Int, sv = .int st ∧ 1 ≤ st ∧ st ≤ 1000000000 := by
        simp only [List.mem_cons, List.not_mem_nil, or_false] at hsm
        rcases hsm with rfl | rfl
        · exact ⟨_, rfl, by omega, by omega⟩
        · exact ⟨_, rfl, by omega, by omega⟩
      exact ⟨q1, _, _, _, rfl, rfl, SqL.of upd_same, hsv, Same.new hq1, st, rfl, st0, st1⟩
    rintro σ' G2 ⟨s2, sh, rfl, sh0, sh1⟩
    have s12 := s1.trans s2
    refine ⟨fun σ' G' => G2 = G' ∧ ∃ kd : Bool, σ' = [some (.ref l), some (.ref wl), some (.int n), some (.int i), some (.bl fr), some (.ref dl), some (.int num), some (.int day), some (.str wd), some (.int sh), some (.bl kd), none, none, none, none], ?_, ?_⟩
    · walk_at "rd"
      refine ⟨dl, _, _, _, rfl, rfl, rd s12, g4, ?_⟩
      walk_at "rd"
      first | done | exact rfl | exact ⟨_, rfl⟩ | exact ⟨rfl, _, rfl⟩
    rintro σ' G' ⟨rfl, kd, rfl⟩
    have sH2 := sH.trans s2
    have hL2 := sH2 _ _ hL
    have hR2 := hR.same sH2
    have first : ∀ (G : Hp) q, Same G2 G → G q = none → Q (.ref q) (upd G q (.lst [.int num, .int day, .str (Str.ofString "genus"), .str wd, .non, .int sh, .non, .bl kd])) := fun G q s hq => by
      refine k (.ref q) ⟨num, day, Str.ofString "genus", wd, none, some sh, none, kd⟩ _ ((sH2.trans s).trans (Same.new hq)) ⟨q, rfl, upd_same⟩ ⟨okE_of (inR_of nn1 (by show num ≤ 1000000000; omega)) (inR_of dd1 (by show day ≤ 1000000; omega)) (by show isRank (.str (Str.ofString "genus")) = true; decide +kernel) hwd (by show underFits (.str (Str.ofString "genus")) .non = true; rw [under_g]; exact decide_eq_true rfl) (by show tieFits _ _ .non = true; rw [tie_n]; exact inR_of sh0 sh1), nw, nn1, nn2, dd1, dd2, la⟩
    walk_at "rd"
    refine ite2 (fun _ => iteT ?_) (fun _ => ?_)
    · walk_at "rd"
      exact ⟨le_ble rfl, fun q hq => first _ q (Same.refl _) hq⟩
    walk_at "rd"
    refine ⟨le_ble rfl, fun q0 hq0 => ?_⟩
    have t0 := Same.new (o := HO.lst []) hq0
    have hL3 := t0 _ _ hL2
    have hR3 := hR2.same t0
    refine ⟨0, _, by decide, seqNil (SqL.of hL3) (SqL.of upd_same), _, rfl, ?_⟩
    generalize upd G2 q0 (.lst []) = G3 at t0 hL3 hR3 ⊢
    refine iteB (fun _ => ?_) (fun he => ?_)
    · walk_at "rd"
      exact ⟨le_ble rfl, fun q hq => first _ q t0 hq⟩
    have ene : es ≠ [] := fun z => by
      have : ws = [] := List.eq_nil_of_length_eq_zero (by rw [lw, z]; rfl)
      rw [this] at he
      cases he
    clear first
    have s3 := s12.trans t0
    have sH3 := sH2.trans t0
    refine ⟨fun σ' G' => Same G3 G' ∧ ∃ rk : Str, σ' = [some (.ref l), some (.ref wl), some (.int n), some (.int i), some (.bl fr), some (.ref dl), some (.int num), some (.int day), some (.str wd), some (.int sh), some (.bl kd), some (.str rk), none, none, none] ∧ isRank (.str rk) = true ∧ rk ≠ Str.ofString "genus", ?_, ?_⟩
    · walk_at "rd"
      refine ⟨le_ble rfl, fun q1 hq1 => ?_⟩
      walk_at "rd"
      have pickR : ∀ b : Bool, ∃ rk : Str, atI [V.str (Str.ofString "species"), V.str (Str.ofString "form")] (if b = true then (1 : Int) else 0) = some (.str rk) ∧ isRank (.str rk) = true ∧ rk ≠ Str.ofString "genus" := fun b => by
        cases b
        · exact ⟨_, atI_nat (j := 0) rfl, by decide +kernel, by decide +kernel⟩
        · exact ⟨_, atI_nat (j := 1) rfl, by decide +kernel, by decide +kernel⟩
      refine ite2 (fun _ => ?_) (fun _ => ?_)
      · obtain ⟨rk, h1, h2, h3⟩ := pickR true
        exact .inr ⟨_, rfl, q1, _, _, _, rfl, rfl, SqL.of upd_same, h1, Same.new hq1, rk, rfl, h2, h3⟩
      · walk_at "rd"
        obtain ⟨rk, h1, h2, h3⟩ := pickR (decide (V.int (n % 6) = V.int 5))
        exact .inr ⟨_, rfl, q1, _, _, _, rfl, rfl, SqL.of upd_same, h1, Same.new hq1, rk, rfl, h2, h3⟩
    rintro σ' G4 ⟨t4, rk, rfl, hrk, rg⟩
    have s4 := s3.trans t4
    have sH4 := sH3.trans t4
    refine ⟨fun σ' G' => Same G4 G' ∧ ∃ u : Int, σ' = [some (.ref l), some (.ref wl), some (.int n), some (.int i), some (.bl fr), some (.ref dl), some (.int num), some (.int day), some (.str wd), some (.int sh), some (.bl kd), some (.str rk), some (.int u), none, none] ∧ 1 ≤ u ∧ u ≤ 1000000000, ?_, ?_⟩
    · walk_at "rd"
      refine ⟨le_ble rfl, fun q1 hq1 => ?_⟩
      walk_at "rd"
      have pickR : ∀ b : Bool, ∃ rk : Str, atI [V.str (Str.ofString "genus"), V.str (Str.ofString "species")] (if b = true then (1 : Int) else 0) = some (.str rk) := fun b => by
        cases b
        · exact ⟨_, atI_nat (j := 0) rfl⟩
        · exact ⟨_, atI_nat (j := 1) rfl⟩
      obtain ⟨r1, h1⟩ := pickR (decide (V.str rk = V.str (Str.ofString "form")))
      have tq := Same.new (o := HO.lst [V.str (Str.ofString "genus"), V.str (Str.ofString "species")]) hq1
      refine .inr ⟨_, rfl, q1, _, _, _, rfl, rfl, SqL.of upd_same, h1, ?_⟩
      generalize upd G4 q1 (.lst [V.str (Str.ofString "genus"), V.str (Str.ofString "species")]) = G5 at tq ⊢
      walk_at "rd"
      refine ⟨dl, _, _, _, rfl, rfl, rd (s4.trans tq), g5, ?_⟩
      walk_at "rd"
      refine ⟨dl, _, _, _, rfl, rfl, rd (s4.trans tq), g6, ?_⟩
      refine ⟨l, ws, es, r1, x5, x6, rfl, (sH4.trans tq) _ _ hL, hR.same (sH4.trans tq), hB, ene, fun u G6 s6 u0 u1 => ?_⟩
      exact ⟨tq.trans s6, u, rfl, u0, u1⟩
    rintro σ' G5 ⟨t5, u, rfl, u0, u1⟩
    have s5 := s4.trans t5
    have sH5 := sH4.trans t5
    refine ⟨fun σ' G' => G5 = G' ∧ ∃ u : Int, σ' = [some (.ref l), some (.ref wl), some (.int n), some (.int i), some (.bl fr), some (.ref dl), some (.int num), some (.int day), some (.str wd), some (.int sh), some (.bl kd), some (.str rk), some (.int u), none, none] ∧ 1 ≤ u ∧ u ≤ 1000000000, ?_, ?_⟩
    · walk_at "rd"
      refine ⟨dl, _, _, _, rfl, rfl, rd s5, g4, ?_⟩
      walk_at "rd"
      refine ite2 (fun _ => ?_) (fun _ => ⟨rfl, u, rfl, u0, u1⟩)
      exact ⟨_, rfl, rfl, num, rfl, nn1, by omega⟩
    clear u0 u1
    rintro σ' G' ⟨rfl, u', rfl, u0, u1⟩
    walk_at "rd"
    have nN : num ≤ 1000000000 := by omega
    have dN : day ≤ 1000000 := by omega
    have uF : underFits (.str rk) (.int u') = true := by rw [under_n rg]; exact inR_of u0 u1
    refine ite2 (fun _ => ?_) (fun _ => ?_)
    · walk_at "rd"
      refine ⟨le_ble rfl, fun q hq => ?_⟩
      exact k (.ref q) ⟨num, day, rk, wd, some u', some sh, none, kd⟩ _ (sH5.trans (Same.new hq)) ⟨q, rfl, upd_same⟩ ⟨okE_of (inR_of nn1 nN) (inR_of dd1 dN) hrk hwd uF (by show tieFits _ _ .non = true; rw [tie_n]; exact inR_of sh0 sh1), nw, nn1, nn2, dd1, dd2, la⟩
    walk_at "rd"
    refine ⟨dl, _, _, _, rfl, rfl, rd s5, g4, ?_⟩
    walk_at "rd"
    refine ⟨dl, _, _, _, rfl, rfl, rd s5, g7, ?_⟩
    refine ⟨l, ws, es, rk, x4 / 372, x7, rfl, sH5 _ _ hL, hR.same sH5, hB, ene, fun v e G6 s6 em hv => ?_⟩
    obtain ⟨ra, rfl, hrow⟩ := hv
    have f0 : atI (rowB e) 0 = some (.int e.n) := atI_nat (j := 0) rfl
    have f3 : atI (rowB e) 3 = some (.str e.w) := atI_nat (j := 3) rfl
    have sd6 := s5.trans s6
    have sH6 := sH5.trans s6
    have en := hB.nn e em
    refine ⟨fun σ' G' => G6 = G' ∧ ∃ wd : Str, σ' = [some (.ref l), some (.ref wl), some (.int n), some (.int i), some (.bl fr), some (.ref dl), some (.int num), some (.int day), some (.str wd), some (.int sh), some (.bl kd), some (.str rk), some (.int u'), some (.ref ra), none] ∧ isWord (.str wd) = true, ?_, ?_⟩
    · walk_at "rd"
      refine ⟨dl, _, _, _, rfl, rfl, rd sd6, g4, ?_⟩
      walk_at "rd"
      refine ite2 (fun _ => ?_) (fun _ => ⟨rfl, wd, rfl, hwd⟩)
      walk_at "rd"
      exact ⟨ra, _, _, _, rfl, rfl, SqL.of hrow, f3, rfl, e.w, rfl, okE_word (hB.ok e em)⟩
    rintro σ' G' ⟨rfl, wd', rfl, hwd'⟩
    walk_at "rd"
    refine ⟨ra, _, _, _, rfl, rfl, SqL.of hrow, f0, ?_⟩
    refine ⟨fun σ' G' => Same G6 G' ∧ ∃ rt : Int, σ' = [some (.ref l), some (.ref wl), some (.int n), some (.int i), some (.bl fr), some (.ref dl), some (.int num), some (.int day), some (.str wd'), some (.int sh), some (.bl kd), some (.str rk), some (.int u'), some (.ref ra), some (.int rt)] ∧ 1 ≤ rt ∧ rt ≤ 1000000000, ?_, ?_⟩
    · walk_at "rd"
      refine ⟨dl, _, _, _, rfl, rfl, rd sd6, g2, ?_⟩
      walk_at "rd"
      refine ite2 (fun _ => ?_) (fun _ => ⟨Same.refl _, e.n, rfl, by omega, by omega⟩)
      walk_at "rd"
      refine ⟨dl, _, _, _, rfl, rfl, rd sd6, g7, ?_⟩
      walk_at "rd"
      refine ⟨le_ble rfl, fun q1 hq1 => ?_⟩
      walk_at "rd"
      refine ⟨dl, _, _, _, rfl, rfl, rd (sd6.trans (Same.new hq1)), g2, ?_⟩
      walk_at "rd"
      have v0 := Int.emod_nonneg x7 (b := 1000000000) (by decide)
      have v1 := Int.emod_lt_of_pos x7 (b := 1000000000) (by decide)
      have v2 := Int.emod_nonneg num (b := 1000000000) (by decide)
      have v3 := Int.emod_lt_of_pos num (b := 1000000000) (by decide)
      obtain ⟨sv, hsv, hsm⟩ := atI_in (xs := [V.int (1 + x7 % 1000000000), V.int num, V.int (num % 1000000000 + 1)]) (i := x2 / 140 % 3) (Int.emod_nonneg _ (by decide)) (by show _ < (3 : Int); exact Int.emod_lt_of_pos _ (by decide))
      obtain ⟨st, rfl, st0, st1⟩ : ∃ st : Int, sv = .int st ∧ 1 ≤ st ∧ st ≤ 1000000000 := by
        simp only [List.mem_cons, List.not_mem_nil, or_false] at hsm
        rcases hsm with rfl | rfl | rfl
        · exact ⟨_, rfl, by omega, by omega⟩
        · exact ⟨_, rfl, nn1, nN⟩
        · exact ⟨_, rfl, by omega, by omega⟩
      exact ⟨q1, _, _, _, rfl, rfl, SqL.of upd_same, hsv, Same.new hq1, st, rfl, st0, st1⟩
    rintro σ' G7 ⟨t7, rt, rfl, rt0, rt1⟩
    walk_at "rd"
    refine ⟨le_ble rfl, fun q hq => ?_⟩
    exact k (.ref q) ⟨num, day, rk, wd', some u', none, some rt, kd⟩ _ ((sH6.trans t7).trans (Same.new hq)) ⟨q, rfl, upd_same⟩ ⟨okE_of (inR_of nn1 nN) (inR_of dd1 dN) hrk hwd' uF (by show tieFits (.str rk) .non (.int rt) = true; rw [tie_b _ _ (by intro z; cases z), decide_eq_false (fun z => rg (V.str.inj z)), decide_eq_true rfl, inR_of rt0 rt1]; rfl), nw, nn1, nn2, dd1, dd2, la⟩

set_option maxHeartbeats 4000000 in
theorem ok_Lbook (T : Txt w K mg c) : FnOk P w K mg base CX0 4 c.a_Lbook c.d_Lbook ["_law_script", "_law_start"] (spBookB K) := by
  refine T.Lbook.fn.ok sc_Lbook (fun vs H Q E h => ?_) (fun cdv A outer s H vs Q E hr h => ?_)
  · obtain ⟨a, st, ns, rfl, _⟩ := h
    rfl
  · obtain ⟨a, st, ns, rfl, st0, st1, hS, hn, k⟩ := h
    refine ⟨_, (pss_cut (ps_set (i := 2) sc_Lbook.nd rfl (Or.inl rfl) (pe_cmpR op_eq (pe_op op_mod (pe_call (ok_Lcell_at T) (hr.mono (by decide)) rfl T.Lcell_at.mgf T.Lcell_at.kp T.Lcell_at.bi .nil pass0 (pa_cons (pv 0) (pa_cons pe_int pa_nil))) pe_int) pe_int (nomark _)))
      (pss_cons (ps_set (i := 3) sc_Lbook.nd rfl (Or.inl rfl) (pe_call (ok_Lwords T) (hr.mono (by decide)) rfl T.Lwords.mgf T.Lwords.kp T.Lwords.bi .nil pass0 (pa_cons (pe_op op_fdiv (pe_call (ok_Lcell_at T) (hr.mono (by decide)) rfl T.Lcell_at.mgf T.Lcell_at.kp T.Lcell_at.bi .nil pass0 (pa_cons (pv 0) (pa_cons pe_int pa_nil))) pe_int) (pa_cons (pv 2) pa_nil))))
      (pss_cons (ps_set (i := 4) sc_Lbook.nd rfl (Or.inl rfl) (pe_lst pa_nil))
      (pss_cons (ps_for PassesOwn.never rfl (pi_range2 rfl T.no_range (pa_cons (pv 1) (pa_cons (pe_callB (call_min2 rfl) rfl T.no_min bt_min (pa_cons (pe_callB call_len_seq rfl T.no_len bt_len (pa_cons (pv 0) pa_nil)) (pa_cons pe_int pa_nil))) pa_nil))) (pg_name (i := 5) sc_Lbook.nd rfl (Or.inl rfl))
        (pss_one (ps_expr (pe_bm PySem.F.plainAttrs_list PySem.F.slot_list_append PySem.F.type_list_append (MtM.r mt_append) (pv 4) (pa_cons (pe_call (ok_Lentry T) (hr.mono (by decide)) rfl T.Lentry.mgf T.Lentry.kp T.Lentry.bi .nil pass0 (pa_cons (pv 4) (pa_cons (pv 3) (pa_cons (pe_ix ix_list (pv 0) (pv 5) (fun _ _ => rfl)) (pa_cons (pv 5) (pa_cons (pv 2) pa_nil)))))) pa_nil)))))
      (pss_one (ps_ret (pv 4))))))), ?_⟩
    have sz : 2000 < sizeLine := le_ble rfl
    have lm : (ns.map V.int).length = ns.length := List.length_map ..
    refine ⟨fun σ' G' => H = G' ∧ ∃ fr : Bool, σ' = [some (.ref a), some (.int st), some (.bl fr), none, none, none], ?_, ?_⟩
    · refine ⟨_, rfl, a, 0, ns, rfl, by decide, hS, fun c0 => ?_⟩
      walk_at "rd"
      first | done | exact rfl | exact ⟨_, rfl⟩ | exact ⟨rfl, _, rfl⟩
    rintro σ' G' ⟨rfl, fr, rfl⟩
    walk_at "rd"
    refine ⟨a, 0, ns, rfl, by decide, hS, fun c1 => ?_⟩
    walk_at "rd"
    refine fun zs wl G0 lz hw s0 hwl hWl => ?_
    walk_at "rd"
    refine ⟨le_ble rfl, fun l hl => ?_⟩
    have s1 := s0.trans (Same.new (o := HO.lst []) hl)
    have k1 := upd_same (H := G0) (a := l) (o := .lst [])
    have kW := Same.new (o := HO.lst []) hl _ _ hWl
    have nHl : H l = none := s0.free hl
    have nwl : wl ≠ l := ne_of_none hWl hl
    generalize upd G0 l (.lst []) = G1 at s1 k1 kW ⊢
    walk_at "rd"
    refine ⟨a, _, rfl, .inl (s1.seq hS), ?_⟩
    walk_at "rd"
    have hm2 : (if (84 : Int) < ((ns.map V.int).length : Int) then (84 : Int) else ((ns.map V.int).length : Int)) ≤ ns.length ∧ 0 ≤ (if (84 : Int) < ((ns.map V.int).length : Int) then (84 : Int) else ((ns.map V.int).length : Int)) := by
      split <;> omega
    generalize (if (84 : Int) < ((ns.map V.int).length : Int) then (84 : Int) else ((ns.map V.int).length : Int)) = hi at hm2 ⊢
    refine ⟨⟨by omega, by omega, by omega, by omega⟩, ?_⟩
    refine for_range (lo := st) (fun i σ G => Same H G ∧ ∃ (z5 : Option V) (ws : List V) (es : List En), σ = [some (.ref a), some (.int st), some (.bl fr), some (.ref wl), some (.ref l), z5] ∧ G wl = some (.lst (zs.map V.str)) ∧ G l = some (.lst ws) ∧ RowsB G ws es ∧ BkB es ∧ es.length = i) ?_ ?_ ?_
    · exact ⟨s1, _, [], [], rfl, kW, k1, ⟨rfl, fun j v e h => nomatch h⟩, BkB.nil, rfl⟩
    · rintro i σ G hi' ⟨sG, z5, ws, es, rfl, hW, hL, hR, hB, le⟩
      have lw : ws.length = i := by rw [hR.1]; exact le
      obtain ⟨v1, hv1, hm1⟩ := atI_in (xs := ns.map V.int) (i := st + (i : Int)) (by omega) (by omega)
      obtain ⟨c2, _, rfl⟩ := List.mem_map.mp hm1
      refine ⟨_, rfl, .inl ⟨rfl, _, SqL.of hL⟩, ?_⟩
      walk_at "rd"
      refine ⟨a, _, _, _, rfl, rfl, sG.seq hS, hv1, ?_⟩
      walk_at "rd"
      refine ⟨l, ws, es, wl, zs, c2, st + (i : Int), fr, rfl, hL, hR, hB, by omega, hW, lz, hw, by omega, by omega, fun v e G2 s2 hv ne => ?_⟩
      walk_at "rd"
      obtain ⟨ra, rfl, hrow⟩ := hv
      have hL2 := s2 _ _ hL
      have hR2 := hR.same s2
      have nra : ra ≠ l := RowB.ne hR2 hL2 hrow
      refine ⟨l, _, _, rfl, rfl, hL2, by omega, ?_⟩
      have mv : ∀ v x, RowB G2 v x → RowB (upd G2 l (.lst (ws ++ [.ref ra]))) v x := fun v x h => by
        obtain ⟨b, e1, h1⟩ := h
        exact ⟨b, e1, by rw [upd_ne (RowB.ne hR2 hL2 h1)]; exact h1⟩
      refine ⟨same_put nHl (sG.trans s2), _, ws ++ [.ref ra], es ++ [e], rfl, by rw [upd_ne nwl]; exact s2 _ _ hW, upd_same, ?_, hB.add ne (by omega), by rw [List.length_append, le]; rfl⟩
      exact rel_push ⟨hR2.1, fun j v x h1 h2 => mv v x (hR2.2 j v x h1 h2)⟩ (mv _ _ ⟨ra, rfl, hrow⟩)
    · rintro σ G ⟨sG, z5, ws, es, rfl, hW, hL, hR, hB, le⟩
      exact ⟨_, rfl, k l ws es G sG hL hR hB (by omega)⟩

set_option maxHeartbeats 4000000 in
theorem ok_Lwhole (T : Txt w K mg c) : FnOk P w K mg base CX0 1 c.a_Lwhole c.d_Lwhole ["_law_found"] (spW K) := by
  refine T.Lwhole.fn.ok sc_Lwhole (fun vs H Q E h => ?_) (fun cdv A outer s H vs Q E hr h => ?_)
  · obtain ⟨x, rfl, _⟩ := h
    rfl
  · obtain ⟨x, rfl, ow, k⟩ := h
    refine ⟨_, (pss_one (ps_ret (pe_and (pe_callB call_isiA rfl T.no_isinstance bt_isinstance (pa_cons (pv 0) (pa_cons (pe_bltn (v := .ty "int") rfl T.no_int bt_int rfl) pa_nil))) (pe_one (pe_not (pe_callB call_isiA rfl T.no_isinstance bt_isinstance (pa_cons (pv 0) (pa_cons (pe_bltn (v := .ty "bool") rfl T.no_bool bt_bool rfl) pa_nil)))))))), ?_⟩
    refine ⟨x, rfl, rIsiA.int ow ⟨_, rfl, ?_⟩⟩
    cases x with
    | int i => exact iteT ⟨_, rfl, rIsiA.bool ow ⟨_, rfl, k⟩⟩
    | bl b => exact iteT ⟨_, rfl, rIsiA.bool ow ⟨_, rfl, k⟩⟩
    | _ => exact iteF k

set_option maxHeartbeats 4000000 in
theorem ok_Lmade (T : Txt w K mg c) : FnOk P w K mg base CX0 6 c.a_Lmade c.d_Lmade ["_law_book_here"] (spMade c.c_Entry) := by
  refine T.Lmade.fn.ok sc_Lmade (fun vs H Q E h => ?_) (fun cdv A outer s H vs Q E hr h => ?_)
  · obtain ⟨l, ws, es, rfl, _⟩ := h
    rfl
  · obtain ⟨l, ws, es, rfl, hL, hR, okk, l84, k⟩ := h
    refine ⟨_, (pss_cons (ps_set (i := 1) sc_Lmade.nd rfl (Or.inl rfl) (pe_lst pa_nil))
      (pss_cons (ps_for PassesOwn.never rfl (pi_list (pv 0)) (pg_name (i := 2) sc_Lmade.nd rfl (Or.inl rfl))
        (pss_one (ps_expr (pe_bm PySem.F.plainAttrs_list PySem.F.slot_list_append PySem.F.type_list_append (MtM.r mt_append) (pv 1) (pa_cons (pe_makeS T.mk_Entry (ok_Entry_init T) (hr.mono (by decide)) rfl T.mg_Entry T.b_Entry_8 passE0 (pa_cons (pe_ix ix_list (pv 2) pe_int (fun _ _ => rfl)) (pa_cons (pe_ix ix_list (pv 2) pe_int (fun _ _ => rfl)) (pa_cons (pe_ix ix_list (pv 2) pe_int (fun _ _ => rfl)) (pa_cons (pe_ix ix_list (pv 2) pe_int (fun _ _ => rfl)) (pa_cons (pe_ix ix_list (pv 2) pe_int (fun _ _ => rfl)) (pa_cons (pe_ix ix_list (pv 2) pe_int (fun _ _ => rfl)) (pa_cons (pe_ix ix_list (pv 2) pe_int (fun _ _ => rfl)) (pa_cons (pe_ix ix_list (pv 2) pe_int (fun _ _ => rfl)) pa_nil)))))))) pk_nil) pa_nil)))))
      (pss_one (ps_ret (pv 1))))), ?_⟩
    have sz : 2000 < sizeLine := le_ble rfl
    have lw := hR.1
    refine ⟨le_ble rfl, fun q hq => ?_⟩
    have s0 := Same.new (o := HO.lst []) hq
    have k0 := upd_same (H := H) (a := q) (o := .lst [])
    generalize upd H q (.lst []) = G0 at s0 k0 ⊢
    refine ⟨_, rfl, l, rfl, ⟨_, SqL.of (s0 _ _ hL)⟩, ?_⟩
    refine for_list (xs := ws) (fun i σ G => Same H G ∧ ∃ (z2 : Option V) (acc : List V), σ = [some (.ref l), some (.ref q), z2] ∧ G q = some (.lst acc) ∧ acc.length = i ∧ EntsAt G c.c_Entry acc (es.take i)) ?_ ?_ ?_ ?_
    · exact ⟨s0, _, [], rfl, k0, rfl, rfl, fun j v e h => nomatch h⟩
    · rintro i σ G _ ⟨sG, _⟩
      exact SqL.of (sG _ _ hL)
    · rintro i x σ G hx ⟨sG, z2, acc, rfl, h1, h2, h3⟩
      have hi : i < ws.length := (List.getElem?_eq_some_iff.mp hx).1
      have hie : i < es.length := by omega
      have ee : es[i]? = some es[i] := List.getElem?_eq_getElem hie
      obtain ⟨ra, rfl, hrow⟩ := hR.2 i x _ hx ee
      have ok1 := okk _ (List.getElem_mem hie)
      rw [take_one ee]
      generalize es[i] = e at hrow ok1
      have hrow := sG _ _ hrow
      have f0 : atI (rowB e) 0 = some (.int e.n) := atI_nat (j := 0) rfl
      have f1 : atI (rowB e) 1 = some (.int e.d) := atI_nat (j := 1) rfl
      have f2 : atI (rowB e) 2 = some (.str e.r) := atI_nat (j := 2) rfl
      have f3 : atI (rowB e) 3 = some (.str e.w) := atI_nat (j := 3) rfl
      have f4 : atI (rowB e) 4 = some (optV e.u) := atI_nat (j := 4) rfl
      have f5 : atI (rowB e) 5 = some (optV e.s) := atI_nat (j := 5) rfl
      have f6 : atI (rowB e) 6 = some (optV e.b) := atI_nat (j := 6) rfl
      have f7 : atI (rowB e) 7 = some (.bl e.k) := atI_nat (j := 7) rfl
      have oO : ∀ (G : Hp) (o : Option Int), Own K G (optV o) := fun G o => by cases o with | none => exact Own.non | some _ => exact Own.int
      have fw : fits (.str e.w) := by
        have := (isWord_le (okE_word ok1)).1
        show e.w.length ≤ sizeLine
        omega
      have ok2 : why (.int e.n) (.int e.d) (.str e.r) (.str e.w) (optV e.u) (optV e.s) (optV e.b) = 0 := ok1
      refine ⟨_, rfl, .inl ⟨rfl, _, SqL.of h1⟩, ?_⟩
      refine ⟨_, rfl, ra, _, _, _, rfl, rfl, SqL.of hrow, f0, ?_⟩
      refine ⟨_, rfl, ra, _, _, _, rfl, rfl, SqL.of hrow, f1, ?_⟩
      refine ⟨_, rfl, ra, _, _, _, rfl, rfl, SqL.of hrow, f2, ?_⟩
      refine ⟨_, rfl, ra, _, _, _, rfl, rfl, SqL.of hrow, f3, ?_⟩
      refine ⟨_, rfl, ra, _, _, _, rfl, rfl, SqL.of hrow, f4, ?_⟩
      refine ⟨_, rfl, ra, _, _, _, rfl, rfl, SqL.of hrow, f5, ?_⟩
      refine ⟨_, rfl, ra, _, _, _, rfl, rfl, SqL.of hrow, f6, ?_⟩
      refine ⟨_, rfl, ra, _, _, _, rfl, rfl, SqL.of hrow, f7, ?_⟩
      refine ⟨rfl, rfl, fun x dx hx hdx ne => ?_⟩
      refine ⟨x, dx, .int e.n, .int e.d, .str e.r, .str e.w, optV e.u, optV e.s, optV e.b, .bl e.k, rfl, upd_same, Own.int, Own.int, Own.str, Own.str, fw, oO _ _, oO _ _, oO _ _, fun G1 s1 => ⟨fun _ => ⟨rfl, ?_⟩, fun h => absurd ok2 h⟩⟩
      have s2 := Same.upd (o := .ins c.c_Entry dx (fieldsE e)) ((Same.made hx hdx ne).trans s1) hx
      have he : EntAt (upd G1 x (.ins c.c_Entry dx (fieldsE e))) c.c_Entry (.ref x) e := ⟨x, dx, rfl, upd_same⟩
      have ef : fields (.int e.n) (.int e.d) (.str e.r) (.str e.w) (optV e.u) (optV e.s) (optV e.b) (.bl e.k) = fieldsE e := rfl
      rw [ef]
      generalize upd G1 x (.ins c.c_Entry dx (fieldsE e)) = G2 at s2 he ⊢
      have mv : ∀ v y, EntAt G2 c.c_Entry v y → EntAt (upd G2 q (.lst (acc ++ [.ref x]))) c.c_Entry v y := fun v y h => h.keep fun t dx fs ht => by rw [upd_ne (ne_of ht (s2 _ _ h1) (by intro z; cases z))]; exact ht
      refine ⟨q, _, _, rfl, rfl, s2 _ _ h1, by omega, same_put hq (sG.trans s2), _, acc ++ [.ref x], rfl, upd_same, by rw [List.length_append, h2]; rfl, ?_⟩
      have h3' := h3.same s2
      exact rel_push ⟨h3'.1, fun j v y a b => mv v y (h3'.2 j v y a b)⟩ (mv _ _ he)
    · rintro σ G ⟨sG, z2, acc, rfl, h1, h2, h3⟩
      rw [lw, List.take_of_length_le (Nat.le_refl _)] at h3
      exact ⟨_, rfl, k q acc G sG hq h1 h3⟩

set_option maxHeartbeats 4000000 in
theorem ok_Lup (T : Txt w K mg c) : FnOk P w K mg base CX0 1 c.a_Lup c.d_Lup ["_law_rank"] (spUp) := by
  refine T.Lup.fn.ok sc_Lup (fun vs H Q E h => ?_) (fun cdv A outer s H vs Q E hr h => ?_)
  · obtain ⟨z, rfl, _⟩ := h
    rfl
  · obtain ⟨z, rfl, hz, k⟩ := h
    refine ⟨_, (pss_one (ps_ret (pe_dget (hu_of hr) (pe_disp (pps_cons pe_str pe_non (pps_cons pe_str pe_str (pps_cons pe_str pe_str pps_nil))) rfl rfl (by intro z; cases z) (by decide)) (pv 0) (fun _ _ => rfl)))), ?_⟩
    have hm : valV (mergeK [] upD) (Sum.inr z) = some (.str (aboveS z)) := by
      rcases hz with q | q
      · rw [q]; decide +kernel
      · rw [q]; decide +kernel
    refine fun p hp => ⟨upd_same, upD, rfl, by decide, ?_⟩
    have sm : Same H (upd (upd H p (.dK [])) p (.dK (mergeK [] upD))) := fun b u hb => by rw [upd_upd, upd_ne (ne_of_none hb hp)]; exact hb
    refine ⟨_, rfl, p, .str (aboveS z), rfl, ?_, k _ sm⟩
    rw [← hm]
    exact DGet.k (k := Sum.inr z) upd_same

set_option maxHeartbeats 4000000 in
theorem ok_Lword_of (T : Txt w K mg c) : FnOk P w K mg base CX0 1 c.a_Lword_of c.d_Lword_of ["_law_one", "_law_name", "_law_right", "_law_borne"] (spWordOf) := by
  refine T.Lword_of.fn.ok sc_Lword_of (fun vs H Q E h => ?_) (fun cdv A outer s H vs Q E hr h => ?_)
  · obtain ⟨v, w, dr, db, e, nm, R, kr, kb, rfl, _⟩ := h
    rfl
  · obtain ⟨v, w, dr, db, e, nm, R, kr, kb, rfl, hv, hw, hdr, pR, hdb, pB, k⟩ := h
    refine ⟨_, (pss_cut (ps_if (PW.pt (pw_and (pt_cmp (pc_isN (pe_ix ix_list (pv 0) pe_int (fun _ _ => rfl)))) (pw_and1 (pt_not (pt_val (pe_ix ix_list (pv 0) pe_int (fun _ _ => rfl)))))))
        (pss_one (ps_ret pe_str))
        pss_nil)
      (pss_cons (ps_if (pt_cmp (pc_isN (pv 1)))
        (pss_one (ps_ret pe_str))
        pss_nil)
      (pss_cut (ps_if (pt_cmp (pc_notN (pe_ix ix_list (pv 0) pe_int (fun _ _ => rfl))))
        (pss_cons (ps_set (i := 4) sc_Lword_of.nd rfl (Or.inl rfl) (pe_dget1 (hu_of hr) (pv 2) (pe_ix ix_list (pv 0) pe_int (fun _ _ => rfl)) ⟨rfl, rfl, rfl, rfl⟩))
      (pss_cons (ps_if (PW.pt (pw_or (pt_cmp (pc_isN (pv 4))) (pw_or (pt_cmpR op_ne (pe_ix ix_list (pv 4) pe_int (fun _ _ => rfl)) (pe_ix ix_list (pv 0) pe_int (fun _ _ => rfl)) (nomark _)) (pw_or1 (pt_cmp (pc_notN (pe_ix ix_list (pv 4) pe_int (fun _ _ => rfl))))))))
        (pss_one (ps_ret pe_str))
        pss_nil)
      (pss_one (ps_if (pt_cmpR op_ne (pe_ix ix_list (pv 4) pe_int (fun _ _ => rfl)) (pe_ix ix_list (pv 0) pe_int (fun _ _ => rfl)) (nomark _))
        (pss_one (ps_ret pe_str))
        pss_nil))))
        pss_nil)
      (pss_cons (ps_if (pt_cmp (pc_din (hu_of hr) (pv 1) (pv 3)))
        (pss_one (ps_ret pe_str))
        pss_nil)
      (pss_one (ps_ret pe_str)))))), ?_⟩
    obtain ⟨a, rfl, ha⟩ := hv
    have f2 : atI (rowB e) 2 = some (.str e.r) := atI_nat (j := 2) rfl
    have f3 : atI (rowB e) 3 = some (.str e.w) := atI_nat (j := 3) rfl
    have f7 : atI (rowB e) 7 = some (.bl e.k) := atI_nat (j := 7) rfl
    have basef : ∀ b, e.b = some b → atI (rowB e) 6 = some (.int b) := fun b hb => by
      have : atI (rowB e) 6 = some (optV e.b) := atI_nat (j := 6) rfl
      rw [hb] at this
      exact this
    have basen : e.b = none → atI (rowB e) 6 = some .non := fun hb => by
      have : atI (rowB e) 6 = some (optV e.b) := atI_nat (j := 6) rfl
      rw [hb] at this
      exact this
    refine ⟨fun σ G => σ = [some (.ref a), some w, some (.ref dr), some (.ref db), none] ∧ G = H ∧ ¬ (e.b = none ∧ e.k = false), ?_, ?_⟩
    · cases hb : e.b with
      | some b => exact ⟨_, rfl, a, _, _, _, rfl, rfl, SqL.of ha, basef b hb, _, rfl, iteF ⟨rfl, rfl, fun z => nomatch z.1⟩⟩
      | none =>
        refine ⟨_, rfl, a, _, _, _, rfl, rfl, SqL.of ha, basen hb, _, rfl, iteT ?_⟩
        refine ⟨_, rfl, a, _, _, _, rfl, rfl, SqL.of ha, f7, ?_⟩
        cases hk : e.k with
        | true => exact ⟨_, rfl, iteF ⟨rfl, rfl, fun z => nomatch z.2⟩⟩
        | false =>
          refine ⟨_, rfl, iteT ?_⟩
          have eo : outE R e nm = Str.ofString "undescribed" := by unfold outE; rw [if_pos ⟨hb, hk⟩]
          rw [eo] at k
          exact k
    rintro σ G ⟨rfl, rfl, hd⟩
    cases nm with
    | none =>
      obtain rfl : w = .non := hw
      refine ⟨_, rfl, _, rfl, iteT ?_⟩
      have eo : outE R e none = Str.ofString "unplaced" := by unfold outE; rw [if_neg hd]
      rw [eo] at k
      exact k
    | some z =>
      obtain ⟨t, rfl, ht⟩ := hw
      refine ⟨_, rfl, _, rfl, iteF ?_⟩
      refine ⟨fun σ G' => (∃ z3, σ = [some (.ref a), some (.ref t), some (.ref dr), some (.ref db), z3]) ∧ G' = G ∧ outE R e (some z) = alikeE R z, ?_, ?_⟩
      · cases hb : e.b with
        | none =>
          refine ⟨_, rfl, a, _, _, _, rfl, rfl, SqL.of ha, basen hb, _, rfl, iteF ⟨⟨_, rfl⟩, rfl, ?_⟩⟩
          unfold outE
          rw [if_neg hd, hb]
        | some b =>
          refine ⟨_, rfl, a, _, _, _, rfl, rfl, SqL.of ha, basef b hb, _, rfl, iteT ?_⟩
          have eo : outE R e (some z) = basedE R e b z := by unfold outE; rw [if_neg hd, hb]
          rw [eo] at k
          refine ⟨_, rfl, dr, rfl, .inl ⟨_, .inl hdr⟩, _, rfl, a, _, _, _, rfl, rfl, SqL.of ha, basef b hb, _, DGet.k (k := Sum.inl b) hdr, ?_⟩
          rcases rows_at pR b with ⟨f1, f2'⟩ | ⟨x, w, f1, f2', hx⟩
          · rw [f2']
            refine ⟨_, rfl, _, rfl, iteT ?_⟩
            have e2 : basedE R e b z = Str.ofString "baseless" := by unfold basedE; rw [f1]
            rw [e2] at k
            exact k
          obtain ⟨xa, rfl, hxa⟩ := hx
          have g2 : atI (rowB x.e) 2 = some (.str x.e.r) := atI_nat (j := 2) rfl
          have g3 : atI (rowB x.e) 3 = some (.str x.e.w) := atI_nat (j := 3) rfl
          have g6 : atI (rowB x.e) 6 = some (optV x.e.b) := atI_nat (j := 6) rfl
          rw [f2']
          have e2 : basedE R e b z = if x.e.r ≠ e.r ∨ x.e.b ≠ none then Str.ofString "baseless" else if x.e.w ≠ e.w then Str.ofString "reworded" else alikeE R z := by unfold basedE; rw [f1]
          refine ⟨_, rfl, _, rfl, iteF ?_⟩
          refine ⟨_, rfl, xa, _, _, _, rfl, rfl, SqL.of hxa, g2, _, rfl, a, _, _, _, rfl, rfl, SqL.of ha, f2, rfl, _, rfl, ?_⟩
          refine ite2 (fun y => ?_) (fun y => ?_)
          · have y : x.e.r ≠ e.r := fun q => by rw [q, decide_eq_true rfl] at y; exact absurd y (by decide)
            rw [e2, if_pos (.inl y)] at k
            exact k
          have y : x.e.r = e.r := V.str.inj (Decidable.of_not_not (p := V.str x.e.r = V.str e.r) (fun q => y (by rw [decide_eq_false q]; rfl)))
          cases hxb : x.e.b with
          | some b' =>
            rw [hxb] at g6
            refine ⟨_, rfl, xa, _, _, _, rfl, rfl, SqL.of hxa, g6, _, rfl, iteT ?_⟩
            rw [e2, if_pos (.inr (by rw [hxb]; intro q; cases q))] at k
            exact k
          | none =>
            rw [hxb] at g6
            refine ⟨_, rfl, xa, _, _, _, rfl, rfl, SqL.of hxa, g6, _, rfl, iteF ?_⟩
            have e3 : ¬ (x.e.r ≠ e.r ∨ x.e.b ≠ none) := fun q => q.elim (fun q => q y) (fun q => q hxb)
            rw [if_neg e3] at e2
            refine ⟨_, rfl, xa, _, _, _, rfl, rfl, SqL.of hxa, g3, _, rfl, a, _, _, _, rfl, rfl, SqL.of ha, f3, rfl, _, rfl, ?_⟩
            refine ite2 (fun y2 => ?_) (fun y2 => ?_)
            · have y2 : x.e.w ≠ e.w := fun q => by rw [q, decide_eq_true rfl] at y2; exact absurd y2 (by decide)
              rw [e2, if_pos y2] at k
              exact k
            have y2 : x.e.w = e.w := V.str.inj (Decidable.of_not_not (p := V.str x.e.w = V.str e.w) (fun q => y2 (by rw [decide_eq_false q]; rfl)))
            refine ⟨⟨_, rfl⟩, rfl, ?_⟩
            rw [eo, e2, if_neg (fun q => q y2)]
      rintro σ G' ⟨⟨z3, rfl⟩, rfl, ea⟩
      rw [ea] at k
      have hk := born_at pB z
      refine ⟨_, rfl, _, rfl, db, _, rfl, DGet.t (k := z.map Sum.inr) hdb (by rw [key_strs]; exact ht), ?_⟩
      rw [hk]
      unfold alikeE at k
      cases q : R.any (fun x => decide (x.nm = z)) with
      | true =>
        rw [q, if_pos rfl] at k
        exact ⟨_, rfl, iteT k⟩
      | false =>
        rw [q, if_neg (by decide)] at k
        exact ⟨_, rfl, iteF k⟩

set_option maxHeartbeats 4000000 in
theorem ok_Lsieved (T : Txt w K mg c) : FnOk P w K mg base CX0 2 c.a_Lsieved c.d_Lsieved ["_law_book_here"] (spSieved) := by
  refine T.Lsieved.fn.ok sc_Lsieved (fun vs H Q E h => ?_) (fun cdv A outer s H vs Q E hr h => ?_)
  · obtain ⟨l, ws, es, rfl, _⟩ := h
    rfl
  · obtain ⟨l, ws, es, rfl, hL, hR, okk, nd, l84, k⟩ := h
    refine ⟨_, (pss_cons (ps_set (i := 1) sc_Lsieved.nd rfl (Or.inl rfl) pe_dnewK)
      (pss_cons (ps_set (i := 2) sc_Lsieved.nd rfl (Or.inl rfl) pe_dnewK)
      (pss_cons (ps_set (i := 3) sc_Lsieved.nd rfl (Or.inl rfl) pe_dnewT)
      (pss_cons (ps_set (i := 4) sc_Lsieved.nd rfl (Or.inl rfl) pe_dnewK)
      (pss_cons (ps_for PassesOwn.never rfl (pi_list (pv 0)) (pg_name (i := 5) sc_Lsieved.nd rfl (Or.inl rfl))
        (pss_cons (ps_set (i := 6) sc_Lsieved.nd rfl (Or.inl rfl) (pe_tup (pa_cons (pe_ix ix_list (pv 5) pe_int (fun _ _ => rfl)) pa_nil)))
      (pss_cut (ps_if (pt_cmpR op_ne (pe_ix ix_list (pv 5) pe_int (fun _ _ => rfl)) pe_str (nomark _))
        (pss_cons (ps_set (i := 7) sc_Lsieved.nd rfl (Or.inl rfl) (pe_dget1 (hu_of hr) (pv 1) (pe_ix ix_list (pv 5) pe_int (fun _ _ => rfl)) ⟨rfl, rfl, rfl, rfl⟩))
      (pss_cons (ps_set (i := 6) sc_Lsieved.nd rfl (Or.inl rfl) pe_non)
      (pss_one (ps_if (PW.pt (pw_and (pt_cmp (pc_notN (pv 7))) (pw_and1 (pt_cmpR op_eq (pe_ix ix_list (pv 7) pe_int (fun _ _ => rfl)) (pe_call (ok_Lup T) (hr.mono (by decide)) rfl T.Lup.mgf T.Lup.kp T.Lup.bi .nil pass0 (pa_cons (pe_ix ix_list (pv 5) pe_int (fun _ _ => rfl)) pa_nil)) (nomark _)))))
        (pss_one (ps_set (i := 6) sc_Lsieved.nd rfl (Or.inl rfl) (pe_op op_catT1 (pe_dget (hu_of hr) (pv 2) (pe_ix ix_list (pv 7) pe_int (fun _ _ => rfl)) (fun _ _ => rfl)) (pe_tup (pa_cons (pe_ix ix_list (pv 5) pe_int (fun _ _ => rfl)) pa_nil)))))
        pss_nil))))
        pss_nil)
      (pss_cons (ps_dput (hu_of hr) (pv 4) (pe_ix ix_list (pv 5) pe_int (fun _ _ => rfl)) (pe_call (ok_Lword_of T) (hr.mono (by decide)) rfl T.Lword_of.mgf T.Lword_of.kp T.Lword_of.bi .nil pass0 (pa_cons (pv 5) (pa_cons (pv 6) (pa_cons (pv 1) (pa_cons (pv 3) pa_nil))))) rfl)
      (pss_cons (ps_dput (hu_of hr) (pv 2) (pe_ix ix_list (pv 5) pe_int (fun _ _ => rfl)) (pv 6) rfl)
      (pss_one (ps_if (pt_cmpR op_eq (pe_dget (hu_of hr) (pv 4) (pe_ix ix_list (pv 5) pe_int (fun _ _ => rfl)) (fun _ _ => rfl)) pe_str (nomark _))
        (pss_cons (ps_dput (hu_of hr) (pv 1) (pe_ix ix_list (pv 5) pe_int (fun _ _ => rfl)) (pv 5) rfl)
      (pss_one (ps_dput (hu_of hr) (pv 3) (pv 6) pe_bl rfl)))
        pss_nil)))))))
      (pss_one (ps_ret (pe_tup (pa_cons (pv 4) (pa_cons (pv 2) (pa_cons (pv 1) pa_nil))))))))))), ?_⟩
    have sz : 2000 < sizeLine := le_ble rfl
    have lw := hR.1
    refine fun dr h1 => ?_
    have t1 := Same.new (o := HO.dK []) h1
    have e1 := upd_same (H := H) (a := dr) (o := .dK [])
    generalize upd H dr (.dK []) = G1 at t1 e1 ⊢
    refine fun dn h2 => ?_
    have t2 := Same.new (o := HO.dK []) h2
    have n12 : dr ≠ dn := ne_of_none e1 h2
    have e1 := t2 _ _ e1
    have e2 := upd_same (H := G1) (a := dn) (o := .dK [])
    generalize upd G1 dn (.dK []) = G2 at t2 e1 e2 ⊢
    refine fun db h3 => ?_
    have t3 := Same.new (o := HO.dT []) h3
    have n13 : dr ≠ db := ne_of_none e1 h3
    have n23 : dn ≠ db := ne_of_none e2 h3
    have e1 := t3 _ _ e1
    have e2 := t3 _ _ e2
    have e3 := upd_same (H := G2) (a := db) (o := .dT [])
    generalize upd G2 db (.dT []) = G3 at t3 e1 e2 e3 ⊢
    refine fun dw h4 => ?_
    have t4 := Same.new (o := HO.dK []) h4
    have n14 : dr ≠ dw := ne_of_none e1 h4
    have n24 : dn ≠ dw := ne_of_none e2 h4
    have n34 : db ≠ dw := ne_of_none e3 h4
    have e1 := t4 _ _ e1
    have e2 := t4 _ _ e2
    have e3 := t4 _ _ e3
    have e4 := upd_same (H := G3) (a := dw) (o := .dK [])
    generalize upd G3 dw (.dK []) = G4 at t4 e1 e2 e3 e4 ⊢
    have s04 := t1.trans (t2.trans (t3.trans t4))
    have fr : ∀ b u, H b = some u → b ≠ dr ∧ b ≠ dn ∧ b ≠ db ∧ b ≠ dw := fun b u hb => ⟨ne_of_none hb h1, ne_of_none (t1 _ _ hb) h2, ne_of_none (t2 _ _ (t1 _ _ hb)) h3, ne_of_none (t3 _ _ (t2 _ _ (t1 _ _ hb))) h4⟩
    have hn2 : H dn = none := t1.free h2
    have hn4 : H dw = none := (t1.trans (t2.trans t3)).free h4
    clear t1 t2 t3 t4 h2 h3 h4
    have hL4 := s04 _ _ hL
    refine ⟨_, rfl, l, rfl, ⟨_, SqL.of hL4⟩, ?_⟩
    refine for_list (xs := ws) (fun i σ G => ∃ (z5 z6 z7 : Option V) (kr kn : List (Key × V)) (kb : List (List Key × V)), σ = [some (.ref l), some (.ref dr), some (.ref dn), some (.ref db), some (.ref dw), z5, z6, z7] ∧ (∀ b u, b ≠ dr → b ≠ dn → b ≠ db → b ≠ dw → G4 b = some u → G b = some u) ∧ G dr = some (.dK kr) ∧ Paired (RowP G) (resE (es.take i)).r kr ∧ G dn = some (.dK kn) ∧ Paired (NameP G) (resE (es.take i)).n kn ∧ G db = some (.dT kb) ∧ Paired BornP (resE (es.take i)).r kb ∧ G dw = some (.dK (outsD (resE (es.take i))))) ?_ ?_ ?_ ?_
    · exact ⟨_, _, _, [], [], [], rfl, fun b u _ _ _ _ h => h, e1, .nil, e2, .nil, e3, .nil, e4⟩
    · rintro i σ G _ ⟨_, _, _, _, _, _, _, h, _⟩
      obtain ⟨m1, m2, m3, m4⟩ := fr l _ hL
      exact SqL.of (h _ _ m1 m2 m3 m4 hL4)
    · rintro i x σ G hx ⟨z5, z6, z7, kr, kn, kb, rfl, h, i1, pR, i2, pN, i3, pB, i4⟩
      have hi : i < ws.length := (List.getElem?_eq_some_iff.mp hx).1
      have hie : i < es.length := by omega
      have ee : es[i]? = some es[i] := List.getElem?_eq_getElem hie
      obtain ⟨ra, rfl, hrow⟩ := hR.2 i x _ hx ee
      have ok1 := okk _ (List.getElem_mem hie)
      have rok := resE_ok okk nd i (by omega)
      have frn : es[i].n ∉ (resE (es.take i)).o.map (·.1) := by
        rw [resE_keys]
        intro z
        have := nd
        have e2 : es.map (·.n) = (es.take i).map (·.n) ++ es[i].n :: (es.drop (i + 1)).map (·.n) := by
          rw [← List.map_cons, List.getElem_cons_drop, ← List.map_append, List.take_append_drop]
        rw [e2, List.nodup_append] at this
        exact this.2.2 _ z _ (List.mem_cons_self ..) rfl
      have lo : (resE (es.take i)).o.length = i := by
        rw [← List.length_map (f := fun p : Int × Str => p.1), resE_keys, List.length_map, List.length_take]
        omega
      rw [take_one ee, resE_snoc]
      generalize es[i] = e at hrow ok1 frn
      generalize resE (es.take i) = S at pR pN pB i4 rok frn lo
      obtain ⟨m1, m2, m3, m4⟩ := fr ra _ hrow
      have hrowG := h _ _ m1 m2 m3 m4 (s04 _ _ hrow)
      have f0 : atI (rowB e) 0 = some (.int e.n) := atI_nat (j := 0) rfl
      have f2 : atI (rowB e) 2 = some (.str e.r) := atI_nat (j := 2) rfl
      have f3 : atI (rowB e) 3 = some (.str e.w) := atI_nat (j := 3) rfl
      have f4 : atI (rowB e) 4 = some (optV e.u) := atI_nat (j := 4) rfl
      have nkn : valV kn (Sum.inl e.n) = none := names_none pN (by rw [rok.nk]; exact frn)
      have nko : valV (outsD S) (Sum.inl e.n) = none := outs_none frn
      have nkr : valV kr (Sum.inl e.n) = none := by
        rcases rows_at pR e.n with ⟨_, q⟩ | ⟨x, v, q, _⟩
        · exact q
        · obtain ⟨q1, q2⟩ := findN_mem q
          exact absurd (q2 ▸ rok.sub x q1) frn
      have lkn : kn.length = i := by rw [← Paired.length pN, ← List.length_map (f := fun p : Int × Option (List Str) => p.1), rok.nk, List.length_map, lo]
      have lko : (outsD S).length = i := by rw [← lo]; exact List.length_map ..
      have lr : S.r.length ≤ i := by
        have h1 : (S.r.map (·.e.n)).length ≤ (S.o.map (·.1)).length := nd_len rok.rn fun x hx => by
          obtain ⟨y, hy, rfl⟩ := List.mem_map.mp hx
          exact rok.sub y hy
        rw [List.length_map, List.length_map, lo] at h1
        exact h1
      have lkr : kr.length ≤ i := by rw [← Paired.length pR]; exact lr
      have lkb : kb.length ≤ i := by rw [← Paired.length pB]; exact lr
      refine ⟨_, rfl, ra, _, _, _, rfl, rfl, SqL.of hrowG, f3, le_ble rfl, fun t0 ht0 => ?_⟩
      have q0 := Same.new (o := HO.tup [V.str e.w]) ht0
      have k0 := upd_same (H := G) (a := t0) (o := .tup [V.str e.w])
      generalize upd G t0 (.tup [V.str e.w]) = Ga at q0 k0 ⊢
      refine ⟨fun σ' G' => Same Ga G' ∧ ∃ w z7, σ' = [some (.ref l), some (.ref dr), some (.ref dn), some (.ref db), some (.ref dw), some (.ref ra), some w, z7] ∧ NameV G' w (nameE S.r e), ?_, ?_⟩
      · refine ⟨_, rfl, ra, _, _, _, rfl, rfl, SqL.of (q0 _ _ hrowG), f2, rfl, _, rfl, ?_⟩
        refine ite2 (fun z => ?_) (fun z => ?_)
        rotate_left
        · have z : e.r = Str.ofString "genus" := V.str.inj (Decidable.of_not_not (p := V.str e.r = V.str (Str.ofString "genus")) (fun q => z (by show (!decide (V.str e.r = V.str (Str.ofString "genus"))) = true; rw [decide_eq_false q]; rfl)))
          refine ⟨Same.refl _, _, _, rfl, ?_⟩
          have en : nameE S.r e = some [e.w] := by unfold nameE; rw [if_pos z]
          rw [en]
          exact ⟨t0, rfl, k0⟩
        have z : e.r ≠ Str.ofString "genus" := fun q => by
          have z : (!decide (V.str e.r = V.str (Str.ofString "genus"))) = true := z
          rw [q, decide_eq_true rfl] at z
          exact absurd z (by decide)
        obtain ⟨u, hu⟩ := okE_u ok1 z
        rw [hu] at f4
        have f4 : atI (rowB e) 4 = some (.int u) := f4
        have en : nameE S.r e = match findN S.r u with | none => none | some x => if x.e.r = aboveS e.r then some (x.nm ++ [e.w]) else none := by
          unfold nameE
          rw [if_neg z, hu]
          rfl
        have j1 := q0 _ _ i1
        refine ⟨_, rfl, dr, rfl, .inl ⟨_, .inl j1⟩, _, rfl, ra, _, _, _, rfl, rfl, SqL.of (q0 _ _ hrowG), f4, _, DGet.k (k := Sum.inl u) j1, ?_⟩
        rcases rows_at pR u with ⟨g1, g2⟩ | ⟨x, v, g1, g2, hx⟩
        · rw [g2]
          rw [g1] at en
          refine ⟨_, rfl, _, rfl, iteF ⟨Same.refl _, _, _, rfl, ?_⟩⟩
          rw [en]
          rfl
        rw [g2]
        rw [g1] at en
        have en : nameE S.r e = if x.e.r = aboveS e.r then some (x.nm ++ [e.w]) else none := en
        obtain ⟨xa, rfl, hxa⟩ := hx
        have hxa := q0 _ _ hxa
        have x0 : atI (rowB x.e) 0 = some (.int x.e.n) := atI_nat (j := 0) rfl
        have x2 : atI (rowB x.e) 2 = some (.str x.e.r) := atI_nat (j := 2) rfl
        refine ⟨_, rfl, _, rfl, iteT ?_⟩
        refine ⟨_, rfl, xa, _, _, _, rfl, rfl, SqL.of hxa, x2, _, rfl, ra, _, _, _, rfl, rfl, SqL.of (q0 _ _ hrowG), f2, e.r, rfl, (okE_rank ok1).resolve_left z, fun Gb sb => ⟨rfl, _, rfl, ?_⟩⟩
        refine ite2 (fun y => ?_) (fun y => ?_)
        rotate_left
        · have y : x.e.r ≠ aboveS e.r := fun q => y (by show decide (V.str x.e.r = V.str (aboveS e.r)) = true; rw [q, decide_eq_true rfl])
          refine ⟨sb, _, _, rfl, ?_⟩
          rw [en, if_neg y]
          rfl
        have y : x.e.r = aboveS e.r := V.str.inj (of_decide_eq_true y)
        rw [if_pos y] at en
        have hm := (findN_mem g1).1
        obtain ⟨nv, hnv, nt, rfl, hnt⟩ := names_at pN (by rw [rok.nk]; exact rok.nd) (rok.nm x hm)
        have dp := rok.dp x hm
        have d3 : depthR x.e.r ≤ 3 := by
          unfold depthR
          split
          · decide
          · split <;> decide
        have d0 : 0 < depthR x.e.r := by
          unfold depthR
          split
          · decide
          · split <;> decide
        have sb' := q0.trans sb
        refine ⟨_, rfl, _, rfl, xa, _, _, _, rfl, rfl, SqL.of (sb _ _ hxa), x0, dn, .ref nt, rfl, ?_, ?_⟩
        · rw [← hnv]
          exact DGet.k (k := Sum.inl x.e.n) (sb' _ _ i2)
        refine ⟨_, rfl, ra, _, _, _, rfl, rfl, SqL.of (sb' _ _ hrowG), f3, le_ble rfl, fun t ht => ?_⟩
        have s1 := Same.new (o := HO.tup [V.str e.w]) ht
        refine ⟨nt, t, x.nm.map V.str, [V.str e.w], rfl, rfl, SqT.of (s1 _ _ (sb' _ _ hnt)), SqT.of upd_same, (by intro q; cases q), ?_, fun q => ?_, fun _ p hp => ?_⟩
        · rw [List.length_map, dp]
          show _ + 1 ≤ _
          omega
        · exfalso
          have := congrArg List.length q
          rw [List.length_map, dp] at this
          have : depthR x.e.r = 0 := this
          omega
        refine ⟨sb.trans (s1.trans (Same.new hp)), _, _, rfl, ?_⟩
        rw [en]
        exact ⟨p, rfl, by rw [upd_same, List.map_append]; rfl⟩
      rintro σ' Gc ⟨sc, w, z7', rfl, hnv⟩
      have s8 := q0.trans sc
      have h' : ∀ b u, b ≠ dr → b ≠ dn → b ≠ db → b ≠ dw → G4 b = some u → Gc b = some u := fun b u a1 a2 a3 a4 hb => s8 _ _ (h b u a1 a2 a3 a4 hb)
      have i1 := s8 _ _ i1
      have i2 := s8 _ _ i2
      have i3 := s8 _ _ i3
      have i4 := s8 _ _ i4
      have pR : Paired (RowP Gc) S.r kr := Paired.mapP pR fun x q z => ⟨z.1, z.2.same s8⟩
      have pN : Paired (NameP Gc) S.n kn := Paired.mapP pN fun x q z => ⟨z.1, z.2.same fun t xs e => s8 _ _ e⟩
      have hrow8 := s8 _ _ hrowG
      clear h hrowG s8 sc q0 k0
      obtain ⟨nm, on⟩ : ∃ nm, nameE S.r e = nm := ⟨_, rfl⟩
      rw [on] at hnv
      have oS : outE S.r e nm = outS S e := by unfold outS; rw [on]
      have eo : outsD (stepE S e) = outsD S ++ [(Sum.inl e.n, .str (outS S e))] := by
        show (S.o ++ [(e.n, outS S e)]).map _ = _
        rw [List.map_append]
        rfl
      refine ⟨_, rfl, _, rfl, _, rfl, _, rfl, .ref ra, w, dr, db, e, nm, S.r, kr, kb, rfl, ⟨ra, rfl, hrow8⟩, hnv, i1, pR, i3, pB, ?_⟩
      rw [oS]
      refine ⟨_, rfl, _, rfl, ra, _, _, _, rfl, rfl, SqL.of hrow8, f0, dw, _, rfl, DPut.k (k := Sum.inl e.n) i4 (by omega), ?_⟩
      rw [putK_new nko, ← eo]
      refine ⟨_, rfl, _, rfl, _, rfl, ra, _, _, _, rfl, rfl, SqL.of (by rw [upd_ne m4]; exact hrow8), f0, dn, _, rfl, DPut.k (k := Sum.inl e.n) (by rw [upd_ne n24]; exact i2) (by omega), ?_⟩
      rw [putK_new nkn]
      have p1 : upd (upd Gc dw (.dK (outsD (stepE S e)))) dn (.dK (kn ++ [(Sum.inl e.n, w)])) dr = some (.dK kr) := by rw [upd_ne n12, upd_ne n14]; exact i1
      have p2 : upd (upd Gc dw (.dK (outsD (stepE S e)))) dn (.dK (kn ++ [(Sum.inl e.n, w)])) dn = some (.dK (kn ++ [(Sum.inl e.n, w)])) := upd_same
      have p3 : upd (upd Gc dw (.dK (outsD (stepE S e)))) dn (.dK (kn ++ [(Sum.inl e.n, w)])) db = some (.dT kb) := by rw [upd_ne n23.symm, upd_ne n34]; exact i3
      have p4 : upd (upd Gc dw (.dK (outsD (stepE S e)))) dn (.dK (kn ++ [(Sum.inl e.n, w)])) dw = some (.dK (outsD (stepE S e))) := by rw [upd_ne n24.symm, upd_same]
      have pf : ∀ b u, b ≠ dn → b ≠ dw → Gc b = some u → upd (upd Gc dw (.dK (outsD (stepE S e)))) dn (.dK (kn ++ [(Sum.inl e.n, w)])) b = some u := fun b u a2 a4 hb => by rw [upd_ne a2, upd_ne a4]; exact hb
      generalize upd (upd Gc dw (.dK (outsD (stepE S e)))) dn (.dK (kn ++ [(Sum.inl e.n, w)])) = Gd at p1 p2 p3 p4 pf ⊢
      have tupf : ∀ b xs, Gc b = some (.tup xs) → Gd b = some (.tup xs) := fun b xs hb => pf b _ (ne_of hb i2 (by intro z; cases z)) (ne_of hb i4 (by intro z; cases z)) hb
      have lstf : ∀ b xs, Gc b = some (.lst xs) → Gd b = some (.lst xs) := fun b xs hb => pf b _ (ne_of hb i2 (by intro z; cases z)) (ne_of hb i4 (by intro z; cases z)) hb
      have hrow9 := lstf _ _ hrow8
      have pN9 : ∀ G : Hp, (∀ b xs, Gc b = some (.tup xs) → G b = some (.tup xs)) → Paired (NameP G) (stepE S e).n (kn ++ [(Sum.inl e.n, w)]) := fun G hg => by
        show Paired (NameP G) (S.n ++ [(e.n, nameE S.r e)]) _
        rw [on]
        exact Paired.snoc (Paired.mapP pN fun x q z => ⟨z.1, z.2.same hg⟩) ⟨rfl, hnv.same hg⟩
      refine ⟨_, rfl, _, rfl, ra, _, _, _, rfl, rfl, SqL.of hrow9, f0, dw, .str (outS S e), rfl, ?_, rfl, _, rfl, ?_⟩
      · rw [← valV_snoc (v := V.str (outS S e)) nko, ← eo]
        exact DGet.k (k := Sum.inl e.n) p4
      refine ite2 (fun z => ?_) (fun z => ?_)
      · have z : outS S e = Str.ofString "right" := V.str.inj (of_decide_eq_true z)
        obtain ⟨nm', hnm, hno, _⟩ := outE_right z
        rw [on] at hnm
        subst hnm
        obtain ⟨t, rfl, ht⟩ := hnv
        have er : (stepE S e).r = S.r ++ [⟨e, nm'⟩] := by
          show (if outS S e = Str.ofString "right" then S.r ++ [⟨e, (nameE S.r e).getD []⟩] else S.r) = _
          rw [if_pos z, on]
          rfl
        have nkb : valV kb (nm'.map Sum.inr) = none := by
          have := born_at pB nm'
          rw [hno] at this
          cases q : valV kb (nm'.map Sum.inr) with
          | none => rfl
          | some v => rw [q] at this; cases this
        refine ⟨_, rfl, _, rfl, _, rfl, ra, _, _, _, rfl, rfl, SqL.of hrow9, f0, dr, _, rfl, DPut.k (k := Sum.inl e.n) p1 (by omega), ?_⟩
        rw [putK_new nkr]
        have ht9 := tupf _ _ ht
        have nt : t ≠ dr := ne_of ht9 p1 (by intro z; cases z)
        refine ⟨_, rfl, _, rfl, db, _, rfl, DPut.t (k := nm'.map Sum.inr) (by rw [upd_ne n13.symm]; exact p3) (by rw [key_strs, upd_ne nt]; exact ht9) (by omega), ?_⟩
        rw [putK_new nkb]
        have y1 : upd (upd Gd dr (.dK (kr ++ [(Sum.inl e.n, .ref ra)]))) db (.dT (kb ++ [(nm'.map Sum.inr, .bl true)])) dr = some (.dK (kr ++ [(Sum.inl e.n, .ref ra)])) := by rw [upd_ne n13, upd_same]
        have y2 : upd (upd Gd dr (.dK (kr ++ [(Sum.inl e.n, .ref ra)]))) db (.dT (kb ++ [(nm'.map Sum.inr, .bl true)])) dn = some (.dK (kn ++ [(Sum.inl e.n, .ref t)])) := by rw [upd_ne n23, upd_ne n12.symm]; exact p2
        have y3 : upd (upd Gd dr (.dK (kr ++ [(Sum.inl e.n, .ref ra)]))) db (.dT (kb ++ [(nm'.map Sum.inr, .bl true)])) db = some (.dT (kb ++ [(nm'.map Sum.inr, .bl true)])) := upd_same
        have y4 : upd (upd Gd dr (.dK (kr ++ [(Sum.inl e.n, .ref ra)]))) db (.dT (kb ++ [(nm'.map Sum.inr, .bl true)])) dw = some (.dK (outsD (stepE S e))) := by rw [upd_ne n34.symm, upd_ne n14.symm]; exact p4
        have yf : ∀ b u, b ≠ dr → b ≠ db → Gd b = some u → upd (upd Gd dr (.dK (kr ++ [(Sum.inl e.n, .ref ra)]))) db (.dT (kb ++ [(nm'.map Sum.inr, .bl true)])) b = some u := fun b u a2 a4 hb => by rw [upd_ne a4, upd_ne a2]; exact hb
        generalize upd (upd Gd dr (.dK (kr ++ [(Sum.inl e.n, .ref ra)]))) db (.dT (kb ++ [(nm'.map Sum.inr, .bl true)])) = Ge at y1 y2 y3 y4 yf ⊢
        have tupE : ∀ b xs, Gc b = some (.tup xs) → Ge b = some (.tup xs) := fun b xs hb => yf b _ (ne_of (tupf b xs hb) p1 (by intro z; cases z)) (ne_of (tupf b xs hb) p3 (by intro z; cases z)) (tupf b xs hb)
        have lstE : ∀ b xs, Gc b = some (.lst xs) → Ge b = some (.lst xs) := fun b xs hb => yf b _ (ne_of (lstf b xs hb) p1 (by intro z; cases z)) (ne_of (lstf b xs hb) p3 (by intro z; cases z)) (lstf b xs hb)
        refine ⟨_, _, _, kr ++ [(Sum.inl e.n, .ref ra)], kn ++ [(Sum.inl e.n, .ref t)], kb ++ [(nm'.map Sum.inr, .bl true)], rfl, fun b u a1 a2 a3 a4 hb => yf b u a1 a3 (pf b u a2 a4 (h' b u a1 a2 a3 a4 hb)), y1, ?_, y2, pN9 Ge tupE, y3, ?_, y4⟩
        · rw [er]
          exact Paired.snoc (Paired.mapP pR fun x q z => ⟨z.1, z.2.keep lstE⟩) ⟨rfl, ra, rfl, lstE _ _ hrow8⟩
        · rw [er]
          exact Paired.snoc pB rfl
      · have z : ¬ outS S e = Str.ofString "right" := fun q => z (decide_eq_true (congrArg V.str q))
        have er : (stepE S e).r = S.r := by
          show (if outS S e = Str.ofString "right" then S.r ++ [⟨e, (nameE S.r e).getD []⟩] else S.r) = _
          rw [if_neg z]
        rw [er]
        exact ⟨_, _, _, kr, kn ++ [(Sum.inl e.n, w)], kb, rfl, fun b u a1 a2 a3 a4 hb => pf b u a2 a4 (h' b u a1 a2 a3 a4 hb), p1, Paired.mapP pR fun x q z => ⟨z.1, z.2.keep lstf⟩, p2, pN9 Gd tupf, p3, pB, p4⟩
    · rintro σ G ⟨z5, z6, z7, kr, kn, kb, rfl, h, i1, pR, i2, pN, i3, pB, i4⟩
      rw [lw, List.take_of_length_le (Nat.le_refl _)] at pR pN i4
      have sG : Same H G := fun b u hb => by
        obtain ⟨m1, m2, m3, m4⟩ := fr b u hb
        exact h b u m1 m2 m3 m4 (s04 _ _ hb)
      refine ⟨_, rfl, _, rfl, _, rfl, le_ble rfl, fun t ht => ?_⟩
      have st := Same.new (o := HO.tup [.ref dw, .ref dn, .ref dr]) ht
      exact k t dw dn dr kn kr _ (sG.trans st) hn4 hn2 h1 n14.symm n12.symm upd_same (st _ _ i4) (st _ _ i2) (Paired.mapP pN fun x q z => ⟨z.1, z.2.same fun t xs e => st _ _ e⟩) (st _ _ i1) (Paired.mapP pR fun x q z => ⟨z.1, z.2.same st⟩)

set_option maxHeartbeats 4000000 in
theorem ok_Lis_entry (T : Txt w K mg c) : FnOk P w K mg base CX0 2 c.a_Lis_entry c.d_Lis_entry ["_law_entry_here", "_law_one"] (spIsEntry c.c_Entry) := by
  refine T.Lis_entry.fn.ok sc_Lis_entry (fun vs H Q E h => ?_) (fun cdv A outer s H vs Q E hr h => ?_)
  · obtain ⟨v, r, e, rfl, _⟩ := h
    rfl
  · obtain ⟨v, r, e, rfl, hv, hw, k⟩ := h
    refine ⟨_, (pss_cons (ps_if (PW.pt (pw_or (pt_not (pt_val (pe_callB call_isiA rfl T.no_isinstance bt_isinstance (pa_cons (pv 0) (pa_cons (pe_glob (v := .ref c.c_Entry) rfl T.mg_Entry rfl) pa_nil))))) (pw_or (pt_not (pt_val (pe_call (ok_Lwhole T) (hr.mono (by decide)) rfl T.Lwhole.mgf T.Lwhole.kp T.Lwhole.bi .nil pass0 (pa_cons (pe_fld (pv 0) rfl) pa_nil)))) (pw_or1 (pt_not (pt_val (pe_call (ok_Lwhole T) (hr.mono (by decide)) rfl T.Lwhole.mgf T.Lwhole.kp T.Lwhole.bi .nil pass0 (pa_cons (pe_fld (pv 0) rfl) pa_nil))))))))
        (pss_one (ps_ret pe_bl))
        pss_nil)
      (pss_cons (ps_set (i := 2) sc_Lis_entry.nd rfl (Or.inl rfl) (pe_lst (pa_cons (pe_fld (pv 0) rfl) (pa_cons (pe_fld (pv 0) rfl) (pa_cons (pe_fld (pv 0) rfl) (pa_cons (pe_fld (pv 0) rfl) (pa_cons (pe_fld (pv 0) rfl) (pa_cons (pe_fld (pv 0) rfl) (pa_cons (pe_fld (pv 0) rfl) pa_nil)))))))))
      (pss_one (ps_ret (pe_and (pe_cmpR (op_eqD (hu62 hr)) (pv 2) (pe_slice sl_list (pv 1) po_none (po_some pe_int)) (nomark _)) (pe_and (pe_callB call_isiA rfl T.no_isinstance bt_isinstance (pa_cons (pe_fld (pv 0) rfl) (pa_cons (pe_bltn (v := .ty "bool") rfl T.no_bool bt_bool rfl) pa_nil))) (pe_one (pe_cmpR op_eq (pe_fld (pv 0) rfl) (pe_ix ix_list (pv 1) pe_int (fun _ _ => rfl)) (nomark _))))))))), ?_⟩
    obtain ⟨a, dx, rfl, ha⟩ := hv
    obtain ⟨ra, rfl, hra⟩ := hw
    have f7 : atI (rowB e) 7 = some (.bl e.k) := atI_nat (j := 7) rfl
    refine ⟨_, rfl, rIsiA.ins ha T.cl_Entry T.w_Entry T.ws_Entry ⟨_, rfl, iteF ?_⟩⟩
    refine ⟨_, rfl, a, _, dx, _, _, rfl, ha, T.cl_Entry, T.na_Entry_number, rfl, _, rfl, Own.int, _, rfl, iteF ?_⟩
    refine ⟨_, rfl, a, _, dx, _, _, rfl, ha, T.cl_Entry, T.na_Entry_day, rfl, _, rfl, Own.int, _, rfl, iteF ?_⟩
    refine ⟨_, rfl, a, _, dx, _, _, rfl, ha, T.cl_Entry, T.na_Entry_number, rfl, ?_⟩
    refine ⟨_, rfl, a, _, dx, _, _, rfl, ha, T.cl_Entry, T.na_Entry_day, rfl, ?_⟩
    refine ⟨_, rfl, a, _, dx, _, _, rfl, ha, T.cl_Entry, T.na_Entry_rank, rfl, ?_⟩
    refine ⟨_, rfl, a, _, dx, _, _, rfl, ha, T.cl_Entry, T.na_Entry_word, rfl, ?_⟩
    refine ⟨_, rfl, a, _, dx, _, _, rfl, ha, T.cl_Entry, T.na_Entry_under, rfl, ?_⟩
    refine ⟨_, rfl, a, _, dx, _, _, rfl, ha, T.cl_Entry, T.na_Entry_sheet, rfl, ?_⟩
    refine ⟨_, rfl, a, _, dx, _, _, rfl, ha, T.cl_Entry, T.na_Entry_base, rfl, ?_⟩
    refine ⟨le_ble rfl, fun q hq => ?_⟩
    have s1 := Same.new (o := HO.lst (row7 e)) hq
    have k1 : upd H q (.lst (row7 e)) q = some (.lst (row7 e)) := upd_same
    have e7 : upd H q (.lst [.int e.n, .int e.d, .str e.r, .str e.w, optV e.u, optV e.s, optV e.b]) = upd H q (.lst (row7 e)) := rfl
    first | rw [e7] | skip
    generalize upd H q (.lst (row7 e)) = G1 at s1 k1 ⊢
    refine ⟨_, rfl, _, rfl, _, rfl, ra, _, rfl, SqL.of (s1 _ _ hra), fun p hp => ?_⟩
    rw [cut7]
    have s2 := Same.new (o := HO.lst (row7 e)) hp
    have k2 : upd G1 p (.lst (row7 e)) p = some (.lst (row7 e)) := upd_same
    have k1 := s2 _ _ k1
    have s12 := s1.trans s2
    generalize upd G1 p (.lst (row7 e)) = G2 at s12 k1 k2 ⊢
    have q7 := SeqEq.flatL (K := K) (n := 0) (SqL.of k1) (SqL.of k2) (flat7 e) (flat7 e)
    rw [eqL_self (flat7 e)] at q7
    refine ⟨0, true, by decide, q7, _, rfl, iteT ?_⟩
    refine ⟨_, rfl, a, _, dx, _, _, rfl, s12 _ _ ha, T.cl_Entry, T.na_Entry_described, rfl, rIsiA.bool Own.bl ⟨_, rfl, iteT ?_⟩⟩
    refine ⟨_, rfl, a, _, dx, _, _, rfl, s12 _ _ ha, T.cl_Entry, T.na_Entry_described, rfl, _, rfl, ra, _, _, _, rfl, rfl, SqL.of (s12 _ _ hra), f7, rfl, ?_⟩
    rw [decide_eq_true rfl]
    exact k _ s12

set_option maxHeartbeats 4000000 in
theorem ok_Lis_book (T : Txt w K mg c) : FnOk P w K mg base CX0 3 c.a_Lis_book c.d_Lis_book ["_law_found", "_law_book_here"] (spIsBook c.c_Entry) := by
  refine T.Lis_book.fn.ok sc_Lis_book (fun vs H Q E h => ?_) (fun cdv A outer s H vs Q E hr h => ?_)
  · obtain ⟨q, acc, l, ws, es, rfl, _⟩ := h
    rfl
  · obtain ⟨q, acc, l, ws, es, rfl, hq, hE, hL, hR, k⟩ := h
    refine ⟨_, (pss_cons (ps_if (PW.pt (pw_or (pt_not (pt_val (pe_callB call_isiA rfl T.no_isinstance bt_isinstance (pa_cons (pv 0) (pa_cons (pe_bltn (v := .ty "list") rfl T.no_list bt_list rfl) pa_nil))))) (pw_or1 (pt_cmpR op_ne (pe_callB call_len_seq rfl T.no_len bt_len (pa_cons (pv 0) pa_nil)) (pe_callB call_len_seq rfl T.no_len bt_len (pa_cons (pv 1) pa_nil)) (nomark _)))))
        (pss_one (ps_ret pe_bl))
        pss_nil)
      (pss_cons (ps_for PassesOwn.never rfl (pi_zip rfl T.no_zip (pa_cons (pv 0) (pa_cons (pv 1) pa_nil))) (pg_tup rfl (pgs_cons (pg_name (i := 2) sc_Lis_book.nd rfl (Or.inl rfl)) (pgs_cons (pg_name (i := 3) sc_Lis_book.nd rfl (Or.inl rfl)) pgs_nil)))
        (pss_one (ps_if (pt_not (pt_val (pe_call (ok_Lis_entry T) (hr.mono (by decide)) rfl T.Lis_entry.mgf T.Lis_entry.kp T.Lis_entry.bi .nil pass0 (pa_cons (pv 2) (pa_cons (pv 3) pa_nil)))))
        (pss_one (ps_ret pe_bl))
        pss_nil)))
      (pss_one (ps_ret pe_bl)))), ?_⟩
    have lz : acc.length = ws.length := hE.1.trans hR.1.symm
    refine ⟨_, rfl, rIsiA.ty (.lst hq) rfl ⟨_, rfl, iteF ?_⟩⟩
    refine ⟨_, rfl, q, _, rfl, .inl (SqL.of hq), _, rfl, l, _, rfl, .inl (SqL.of hL), rfl, _, rfl, ?_⟩
    refine ite2 (fun z => ?_) (fun _ => ?_)
    · exfalso
      rw [lz, decide_eq_true rfl] at z
      exact absurd z (by decide)
    refine ⟨_, rfl, _, rfl, q, l, rfl, ⟨_, SqL.of hq⟩, ⟨_, SqL.of hL⟩, ?_⟩
    refine for_zip (xs := acc) (ys := ws) (fun i σ G => (∃ z2 z3, σ = [some (.ref q), some (.ref l), z2, z3]) ∧ Same H G) ⟨⟨_, _, rfl⟩, Same.refl H⟩ ?_ ?_ ?_
    · rintro i σ G _ ⟨_, sG⟩
      exact ⟨SqL.of (sG _ _ hq), SqL.of (sG _ _ hL)⟩
    · rintro i x y T' σ G hx hy ⟨⟨z2, z3, rfl⟩, sG⟩ hT
      have hi : i < ws.length := (List.getElem?_eq_some_iff.mp hy).1
      have hie : i < es.length := by rw [← hR.1]; exact hi
      have ee : es[i]? = some es[i] := List.getElem?_eq_getElem hie
      have hx' := hE.2 i x _ hx ee
      have hy' := hR.2 i y _ hy ee
      have s1 := sG.trans (Same.new (o := HO.tup [x, y]) hT)
      refine ⟨T', _, rfl, SqT.of upd_same, rfl, _, _, rfl, _, _, rfl, rfl, ?_⟩
      generalize upd G T' (.tup [x, y]) = G1 at s1
      exact ⟨_, rfl, _, rfl, x, y, es[i], rfl, hx'.same s1, hy'.same s1, fun G2 s2 => ⟨_, rfl, iteF ⟨⟨_, _, rfl⟩, s1.trans s2⟩⟩⟩
    · rintro σ G ⟨_, sG⟩
      exact k G sG

theorem ok_group_list (T : Txt w K mg c) : FnOk P w K mg base (CXx P w) 4 c.a_group_list c.d_group_list ["group", "depth", "seen"] spNo := by
  refine T.group_list.fn.okx sc_group_list (fun vs H Q E h => h.elim) (fun cdv A outer s H vs Q E hr h => h.elim)

set_option maxHeartbeats 4000000 in
theorem ok_sorting_list (T : Txt w K mg c) : FnOk P w K mg base (CXx P w) 5 c.a_sorting_list c.d_sorting_list ["sorting"] (spSortNil) := by
  refine T.sorting_list.fn.okx sc_sorting_list (fun vs H Q E h => ?_) (fun cdv A outer s H vs Q E hr h => ?_)
  · obtain ⟨p, rfl, _⟩ := h
    rfl
  · obtain ⟨p, rfl, hp, k⟩ := h
    refine ⟨_, (pss_cons (ps_if (pt_not (pt_val (pe_callB call_isiA rfl T.no_isinstance bt_isinstance (pa_cons (pv 0) (pa_cons (pe_bltn (v := .ty "list") rfl T.no_list bt_list rfl) pa_nil)))))
        (pss_one (ps_raise T.x_NoSorting rfl rfl T.mg_NoSorting rz_def (pa_cons pe_str pa_nil)))
        pss_nil)
      (pss_cons (ps_set (i := 1) sc_sorting_list.nd rfl (Or.inr rfl) pe_dnewK)
      (pss_one (ps_ret (pe_comp (N' := ["group", "seen"]) (js := [none, some 1]) rfl rfl (by decide +kernel) (by decide +kernel) (free_of ["seen"] (by decide +kernel) (fm_cons (.inl rfl) fm_nil)) (cap_of rfl (fm_cons (fun j e => nomatch e) (fm_cons (fun j e => by cases e; exact ⟨rfl, rfl, .inl rfl⟩) fm_nil))) (pi_list (pv 0)) (fun B => ⟨(pg_name (i := 0) (show List.Nodup (["group", "seen"] : List Str) by decide +kernel) rfl (Or.inl rfl)), pifs_nil, (pe_callS (ok_group_list T) (hr.mono (by decide)) rfl T.group_list.mgf T.group_list.kp T.group_list.bi .nil passE0 (pa_cons (pv 0) (pa_cons pe_int (pa_cons (pv 1) pa_nil))))⟩)))))), ?_⟩
    refine ⟨_, rfl, rIsiA.ty (.lst hp) rfl ⟨_, rfl, iteF ?_⟩⟩
    refine fun d hd => ?_
    have sd := Same.new (o := HO.dK []) hd
    generalize upd H d (.dK []) = G1 at sd ⊢
    refine ⟨_, rfl, p, rfl, ⟨_, SqL.of (sd _ _ hp)⟩, fun q B hq => ?_⟩
    refine loop_lst (xs := []) (fun i σ acc G => acc = [] ∧ Same G1 G ∧ G q = some (.lst [])) (Nat.zero_le _) ?_ ?_ ?_ ?_
    · exact ⟨rfl, Same.new hq, upd_same⟩
    · rintro i σ acc G hi ⟨rfl, sG, h1⟩
      exact ⟨h1, SqL.of (sG _ _ (sd _ _ hp)), Nat.zero_le _⟩
    · rintro i x σ acc G hx _
      cases hx
    · rintro σ acc G ⟨rfl, sG, h1⟩
      exact k q G (sd.trans sG) h1

set_option maxHeartbeats 4000000 in
theorem ok_Clerk_init (T : Txt w K mg c) : FnOk P w K mg base CX0 3 c.a_Clerk_init c.d_Clerk_init ["self"] (spClInit c.c_Clerk c.c_Results c.c_Entry) := by
  refine T.Clerk_init.ok sc_Clerk_init (fun vs H Q E h => ?_) (fun cdv A outer s H vs Q E hr h => ?_)
  · obtain ⟨a, dx, rfl, _⟩ := h
    rfl
  · obtain ⟨a, dx, rfl, ha, k⟩ := h
    refine ⟨_, (pss_cut (ps_fld (pv 0) (pe_lst pa_nil) rfl)
      (pss_cut (ps_fld (pv 0) (pe_make0 T.mk_Results (ok_Results_init T) (hr.mono (by decide)) rfl T.mg_Results T.bi_Results_init .nil pass0) rfl)
      (pss_cut (ps_fld (pv 0) (pe_lst pa_nil) rfl)
      (pss_one (ps_fld (pv 0) (pe_lst pa_nil) rfl))))), ?_⟩
    have na : ∀ d, H d = none → d ≠ a := fun d hd z => by rw [z, ha] at hd; cases hd
    refine ⟨fun σ G => σ = [some (.ref a)] ∧ ∃ e, (∀ b u, b ≠ a → H b = some u → G b = some u) ∧ G a = some (.ins c.c_Clerk dx [("entries", .ref e)]) ∧ G e = some (.lst []) ∧ H e = none, ?_, ?_⟩
    · refine ⟨le_ble rfl, fun e he => ?_⟩
      refine ⟨_, rfl, a, _, dx, _, rfl, Same.new he _ _ ha, T.cl_Clerk, T.na_Clerk_entries, le_ble rfl, rfl, e, fun b u nb hb => ?_, upd_same, ?_, he⟩
      · rw [upd_ne nb, upd_ne (ne_of_none hb he)]; exact hb
      · rw [upd_ne (na _ he), upd_same]
    rintro σ G ⟨rfl, e, fr, ka, ke, he⟩
    have back : ∀ {x : Addr}, G x = none → H x = none := fun {x} hx => by
      cases q : H x with
      | none => rfl
      | some u => rw [fr x u (fun z => by rw [z, ka] at hx; cases hx) q] at hx; cases hx
    refine ⟨fun σ G => σ = [some (.ref a)] ∧ ∃ A : RA, (∀ b u, b ≠ a → H b = some u → G b = some u) ∧ G a = some (.ins c.c_Clerk dx [("entries", .ref e), ("results", .ref A.a)]) ∧ G e = some (.lst []) ∧ ResAt G c.c_Results c.c_Entry A ⟨[], [], []⟩ ∧ H A.a = none ∧ H A.o1 = none ∧ H A.o2 = none ∧ H A.o3 = none ∧ H A.o4 = none, ?_, ?_⟩
    · refine fun x xd hx hxd ndx => ⟨x, xd, rfl, upd_same, fun A G1 ea ed f1 rs h1 h2 h3 h4 => ⟨rfl, ?_⟩⟩
      subst ea ed
      have up : ∀ {b : Addr}, upd (upd G A.dx (.own A.a)) A.a (.ins c.c_Results A.dx []) b = none → G b = none := fun {b} hb => by
        have nb : b ≠ A.a := fun z => by rw [z, upd_same] at hb; cases hb
        rw [upd_ne nb] at hb
        have nd : b ≠ A.dx := fun z => by rw [z, upd_same] at hb; cases hb
        rw [upd_ne nd] at hb
        exact hb
      have s1 : Same G G1 := fun b u hb => f1 b u (ne_of_none hb hx) (by rw [upd_ne (ne_of_none hb hx), upd_ne (ne_of_none hb hxd)]; exact hb)
      have ka1 := s1 _ _ ka
      have fin : ∀ b u, b ≠ a → G1 b = some u → upd G1 a (.ins c.c_Clerk dx (putF "results" (V.ref A.a) [("entries", .ref e)])) b = some u := fun b u nb hb => by rw [upd_ne nb]; exact hb
      refine ⟨_, rfl, a, _, dx, _, rfl, ka1, T.cl_Clerk, T.na_Clerk_results, le_ble rfl, rfl, A, fun b u nb hb => fin b u nb (s1 _ _ (fr b u nb hb)), upd_same, fin _ _ (na _ he) (s1 _ _ ke), ?_, back hx, back (up h1), back (up h2), back (up h3), back (up h4)⟩
      obtain ⟨r1, r2, ⟨kn, n1, n2⟩, ⟨kr, r3, r4⟩, ⟨kh, t1, t2⟩, d1, d2, d3⟩ := rs
      have nka : ∀ {b : Addr} {u : HO}, G1 b = some u → (∀ C d f, u ≠ .ins C d f) → b ≠ a := fun hb hu z => by
        rw [z, ka1] at hb
        exact hu _ _ _ (Option.some.inj hb).symm
      have i1 : Paired (NameP (upd G1 a (.ins c.c_Clerk dx (putF "results" (V.ref A.a) [("entries", .ref e)])))) [] kn := by cases n2; exact .nil
      have i2 : Paired (RightP (upd G1 a (.ins c.c_Clerk dx (putF "results" (V.ref A.a) [("entries", .ref e)]))) c.c_Entry) [] kr := by cases r4; exact .nil
      have i3 : Paired (HoldP (upd G1 a (.ins c.c_Clerk dx (putF "results" (V.ref A.a) [("entries", .ref e)]))) c.c_Entry) [] kh := by cases t2; exact .nil
      exact ⟨fin _ _ (na _ (back hx)) r1, fin _ _ (nka r2 (by intro _ _ _ z; cases z)) r2, ⟨kn, fin _ _ (nka n1 (by intro _ _ _ z; cases z)) n1, i1⟩, ⟨kr, fin _ _ (nka r3 (by intro _ _ _ z; cases z)) r3, i2⟩, ⟨kh, fin _ _ (nka t1 (by intro _ _ _ z; cases z)) t1, i3⟩, d1, d2, d3⟩
    clear fr ka ke back
    rintro σ G ⟨rfl, A, fr, ka, ke, rs, n0, n1, n2, n3, n4⟩
    have back : ∀ {x : Addr}, G x = none → H x = none := fun {x} hx => by
      cases q : H x with
      | none => rfl
      | some u => rw [fr x u (fun z => by rw [z, ka] at hx; cases hx) q] at hx; cases hx
    refine ⟨fun σ G => σ = [some (.ref a)] ∧ ∃ d, (∀ b u, b ≠ a → H b = some u → G b = some u) ∧ G a = some (.ins c.c_Clerk dx [("entries", .ref e), ("results", .ref A.a), ("deeds", .ref d)]) ∧ G e = some (.lst []) ∧ G d = some (.lst []) ∧ ResAt G c.c_Results c.c_Entry A ⟨[], [], []⟩ ∧ H d = none ∧ e ≠ d, ?_, ?_⟩
    · refine ⟨le_ble rfl, fun d hd => ?_⟩
      have nd : d ≠ a := na _ (back hd)
      have sd := Same.new (o := HO.lst []) hd
      have kd := upd_same (H := G) (a := d) (o := .lst [])
      have ned : e ≠ d := ne_of_none ke hd
      generalize upd G d (.lst []) = G1 at sd kd ⊢
      have ka1 := sd _ _ ka
      have fin : ∀ b u, b ≠ a → G1 b = some u → upd G1 a (.ins c.c_Clerk dx (putF "deeds" (V.ref d) [("entries", .ref e), ("results", .ref A.a)])) b = some u := fun b u nb hb => by rw [upd_ne nb]; exact hb
      refine ⟨_, rfl, a, _, dx, _, rfl, ka1, T.cl_Clerk, T.na_Clerk_deeds, le_ble rfl, rfl, d, fun b u nb hb => fin b u nb (sd _ _ (fr b u nb hb)), upd_same, fin _ _ (na _ he) (sd _ _ ke), fin _ _ nd kd, ?_, back hd, ned⟩
      obtain ⟨r1, r2, ⟨kn, n1', n2'⟩, ⟨kr, r3, r4⟩, ⟨kh, t1, t2⟩, d1, d2, d3⟩ := rs
      have nka : ∀ {b : Addr} {u : HO}, G b = some u → (∀ C d f, u ≠ .ins C d f) → b ≠ a := fun hb hu z => by
        rw [z, ka] at hb
        exact hu _ _ _ (Option.some.inj hb).symm
      exact ⟨fin _ _ (na _ n0) (sd _ _ r1), fin _ _ (nka r2 (by intro _ _ _ z; cases z)) (sd _ _ r2), ⟨kn, fin _ _ (nka n1' (by intro _ _ _ z; cases z)) (sd _ _ n1'), by cases n2'; exact .nil⟩, ⟨kr, fin _ _ (nka r3 (by intro _ _ _ z; cases z)) (sd _ _ r3), by cases r4; exact .nil⟩, ⟨kh, fin _ _ (nka t1 (by intro _ _ _ z; cases z)) (sd _ _ t1), by cases t2; exact .nil⟩, d1, d2, d3⟩
    clear fr ka ke rs back
    rintro σ G ⟨rfl, d, fr, ka, ke, kd, rs, hd, ned⟩
    have back : ∀ {x : Addr}, G x = none → H x = none := fun {x} hx => by
      cases q : H x with
      | none => rfl
      | some u => rw [fr x u (fun z => by rw [z, ka] at hx; cases hx) q] at hx; cases hx
    refine ⟨le_ble rfl, fun p hp => ?_⟩
    have sd := Same.new (o := HO.lst []) hp
    have kp := upd_same (H := G) (a := p) (o := .lst [])
    have nep : e ≠ p := ne_of_none ke hp
    generalize upd G p (.lst []) = G1 at sd kp ⊢
    have ka1 := sd _ _ ka
    have fin : ∀ b u, b ≠ a → G1 b = some u → upd G1 a (.ins c.c_Clerk dx (putF "piles" (V.ref p) [("entries", .ref e), ("results", .ref A.a), ("deeds", .ref d)])) b = some u := fun b u nb hb => by rw [upd_ne nb]; exact hb
    refine ⟨_, rfl, a, _, dx, _, rfl, ka1, T.cl_Clerk, T.na_Clerk_piles, le_ble rfl, ?_⟩
    obtain ⟨r1, r2, ⟨kn, n1', n2'⟩, ⟨kr, r3, r4⟩, ⟨kh, t1, t2⟩, d1, d2, d3⟩ := rs
    have nka : ∀ {b : Addr} {u : HO}, G b = some u → (∀ C d f, u ≠ .ins C d f) → b ≠ a := fun hb hu z => by
      rw [z, ka] at hb
      exact hu _ _ _ (Option.some.inj hb).symm
    refine k ⟨a, dx, e, d, p, A⟩ _ rfl rfl (fun b u nb hb => fin b u nb (sd _ _ (fr b u nb hb))) ⟨upd_same, ⟨[], fin _ _ (na _ he) (sd _ _ ke), rfl, fun j v e h => nomatch h⟩, ⟨fin _ _ (na _ n0) (sd _ _ r1), fin _ _ (nka r2 (by intro _ _ _ z; cases z)) (sd _ _ r2), ⟨kn, fin _ _ (nka n1' (by intro _ _ _ z; cases z)) (sd _ _ n1'), by cases n2'; exact .nil⟩, ⟨kr, fin _ _ (nka r3 (by intro _ _ _ z; cases z)) (sd _ _ r3), by cases r4; exact .nil⟩, ⟨kh, fin _ _ (nka t1 (by intro _ _ _ z; cases z)) (sd _ _ t1), by cases t2; exact .nil⟩, d1, d2, d3⟩, fin _ _ (na _ hd) (sd _ _ kd), fin _ _ (na _ (back hp)) kp, ned, nep⟩ he hd (back hp) n0 n1 n2 n3 n4

set_option maxHeartbeats 4000000 in
theorem ok_Clerk_publish (T : Txt w K mg c) : FnOk P w K mg base (CXx P w) 5 c.a_Clerk_publish c.d_Clerk_publish ["self", "entry"] (spPublish K c.c_Clerk c.c_Results c.c_Entry c.c_NoEntry c.c_Late) := by
  refine T.Clerk_publish.okx sc_Clerk_publish (fun vs H Q E h => ?_) (fun cdv A outer s H vs Q E hr h => ?_)
  · obtain ⟨C, es, v, rfl, _⟩ := h
    rfl
  · obtain ⟨C, es, v, rfl, cl, okk, nd, l84, h0⟩ := h
    refine ⟨_, (pss_cons (ps_if (pt_not (pt_val (pe_callB call_isiA rfl T.no_isinstance bt_isinstance (pa_cons (pv 1) (pa_cons (pe_glob (v := .ref c.c_Entry) rfl T.mg_Entry rfl) pa_nil)))))
        (pss_one (ps_raise T.x_NoEntry rfl rfl T.mg_NoEntry rz_def (pa_cons pe_str pa_nil)))
        pss_nil)
      (pss_cut (ps_if (PW.pt (pw_and (pt_truth (pe_fld (pv 0) rfl) (fun _ => rfl)) (pw_and1 (pt_not (pt_val (pe_call (ok_ahead T) (hr.mono (by decide)) rfl T.ahead.mgf T.ahead.kp T.ahead.bi .nil pass0 (pa_cons (pe_ix ix_list (pe_fld (pv 0) rfl) (pe_un un_neg pe_int) (fun _ _ => rfl)) (pa_cons (pv 1) pa_nil))))))))
        (pss_one (ps_raise T.x_Late rfl rfl T.mg_Late rz_def (pa_cons pe_str pa_nil)))
        pss_nil)
      (pss_cons (ps_if (pt_cmp (pc_din (hu_of hr) (pe_fld (pv 1) rfl) (pe_fld (pe_fld (pv 0) rfl) rfl)))
        (pss_one (ps_raise T.x_Late rfl rfl T.mg_Late rz_def (pa_cons pe_str pa_nil)))
        pss_nil)
      (pss_cons (ps_expr (pe_bm PySem.F.plainAttrs_list PySem.F.slot_list_append PySem.F.type_list_append (MtM.r mt_append) (pe_fld (pv 0) rfl) (pa_cons (pv 1) pa_nil)))
      (pss_one (ps_ret (pe_meth (pe_fld (pv 0) rfl) T.cl_Results T.m_Results_put (ok_Results_put T) (hr.mono (by decide)) T.bi_Results_put .nil pass0 (pa_cons (pv 1) pa_nil)))))))), ?_⟩
    have sz : 2000 < sizeLine := le_ble rfl
    rcases h0 with ⟨n, ty, hn, k⟩ | ⟨e, hv, ok1, h0⟩
    · exact ⟨_, rfl, rIsiA.tyC ty hn ⟨_, rfl, iteT ⟨le_ble rfl, k H (Same.refl H)⟩⟩⟩
    have hv0 := hv
    obtain ⟨a, dx, rfl, ha⟩ := hv
    refine ⟨_, rfl, rIsiA.ins ha T.cl_Entry T.w_Entry T.ws_Entry ⟨_, rfl, iteF ?_⟩⟩
    obtain ⟨ws, hW, hE⟩ := cl.ents
    have lw : ws.length = es.length := hE.1
    have lateK : lastOk (lastW none es) e = false ∨ e.n ∈ es.map (·.n) → ∀ H', Same H H' → E (.ref c.c_Late) none H' := fun hb => by
      rcases h0 with ⟨z1, z2, _⟩ | ⟨_, k⟩
      · rcases hb with q | q
        · rw [z1] at q; cases q
        · exact absurd q z2
      · exact k
    refine ⟨fun σ' G' => σ' = [some (.ref C.a), some (.ref a)] ∧ Same H G' ∧ lastOk (lastW none es) e = true, ?_, ?_⟩
    · refine ⟨_, rfl, C.a, _, C.dx, _, _, rfl, cl.at_, T.cl_Clerk, T.na_Clerk_entries, rfl, _, .inl ⟨_, SqL.of hW, rfl⟩, ?_⟩
      rcases List.eq_nil_or_concat ws with rfl | ⟨us, v, hws⟩
      · have en : es = [] := List.eq_nil_of_length_eq_zero lw.symm
        refine iteF ⟨rfl, Same.refl H, ?_⟩
        rw [en]
        rfl
      · rw [List.concat_eq_append] at hws
        have ene : es ≠ [] := fun z => by rw [z, hws, List.length_append] at lw; cases lw
        obtain ⟨ps, e0, hes⟩ : ∃ ps e0, es = ps ++ [e0] := ⟨_, _, (List.dropLast_concat_getLast ene).symm⟩
        have lu : us.length = ps.length := by
          rw [hws, hes, List.length_append, List.length_append] at lw
          exact Nat.succ.inj lw
        have he0 : EntAt H c.c_Entry v e0 := hE.2 us.length v e0 (by rw [hws]; simp) (by rw [hes, lu]; simp)
        have ee : (!ws.isEmpty) = true := by rw [hws]; cases us <;> rfl
        have la : lastOk (lastW none es) e = aheadE e0 e := by rw [hes, lastW_snoc]; rfl
        rw [ee]
        refine iteT ⟨_, rfl, C.a, _, C.dx, _, _, rfl, cl.at_, T.cl_Clerk, T.na_Clerk_entries, rfl, _, rfl, C.e, _, _, v, rfl, rfl, SqL.of hW, by rw [hws]; exact atI_last _ _, _, rfl, v, .ref a, e0, e, rfl, he0, hv0, fun G' s' => ?_⟩
        rw [← la]
        cases q : lastOk (lastW none es) e with
        | true => exact ⟨_, rfl, iteF ⟨rfl, s', rfl⟩⟩
        | false => exact ⟨_, rfl, iteT ⟨le_ble rfl, lateK (.inl q) G' s'⟩⟩
    rintro σ G ⟨rfl, sG, hla⟩
    have cl := cl.same sG
    have ha := sG _ _ ha
    have hW := sG _ _ hW
    have hE := hE.same sG
    have hv0 := hv0.same sG
    have keys : (resE es).o.map (·.1) = es.map (·.n) := resE_keys es
    refine ⟨_, rfl, a, _, dx, _, _, rfl, ha, T.cl_Entry, T.na_Entry_number, rfl, _, rfl, C.a, _, C.dx, _, _, rfl, cl.at_, T.cl_Clerk, T.na_Clerk_results, rfl, C.A.a, _, C.A.dx, _, _, rfl, cl.res.at_, T.cl_Results, T.na_Results_outs, rfl, C.A.o1, _, rfl, DGet.k (k := Sum.inl e.n) cl.res.outs, ?_⟩
    by_cases hin : e.n ∈ es.map (·.n)
    · rw [outs_in (by rw [keys]; exact hin)]
      exact ⟨_, rfl, iteT ⟨le_ble rfl, lateK (.inr hin) G sG⟩⟩
    rw [outs_none (by rw [keys]; exact hin)]
    refine ⟨_, rfl, iteF ?_⟩
    clear lateK
    have k : ∀ H', FrC C H H' → ClAt H' c.c_Clerk c.c_Results c.c_Entry C (es ++ [e]) → Q (.str (outS (resE es) e)) H' := by
      rcases h0 with ⟨_, _, k⟩ | ⟨q | q, _⟩
      · exact k
      · rw [hla] at q; cases q
      · exact absurd q hin
    refine ⟨_, rfl, C.a, _, C.dx, _, _, rfl, cl.at_, T.cl_Clerk, T.na_Clerk_entries, rfl, .inl ⟨rfl, _, SqL.of hW⟩, _, rfl, C.e, _, _, rfl, rfl, hW, by omega, ?_⟩
    obtain ⟨r1, r2, ⟨kn, n1, n2⟩, ⟨kr, r3, r4⟩, ⟨kh, t1, t2⟩, d1, d2, d3⟩ := cl.res
    have ne1 : C.e ≠ C.A.o1 := ne_of hW r2 (by intro z; cases z)
    have ne2 : C.e ≠ C.A.o2 := ne_of hW n1 (by intro z; cases z)
    have ne3 : C.e ≠ C.A.o3 := ne_of hW r3 (by intro z; cases z)
    have ne4 : C.e ≠ C.A.o4 := ne_of hW t1 (by intro z; cases z)
    have f1 : ∀ b u, b ≠ C.e → G b = some u → upd G C.e (.lst (ws ++ [.ref a])) b = some u := fun b u nb hb => by rw [upd_ne nb]; exact hb
    have g1 : upd G C.e (.lst (ws ++ [.ref a])) C.e = some (.lst (ws ++ [.ref a])) := upd_same
    generalize upd G C.e (.lst (ws ++ [.ref a])) = G1 at f1 g1 ⊢
    have ent : ∀ v x, EntAt G c.c_Entry v x → EntAt G1 c.c_Entry v x := fun v x h => h.keep fun t dx fs ht => f1 t _ (ne_of ht hW (by intro z; cases z)) ht
    have rs1 : ResAt G1 c.c_Results c.c_Entry C.A (resE es) := ⟨f1 _ _ (ne_of r1 hW (by intro z; cases z)) r1, f1 _ _ ne1.symm r2, ⟨kn, f1 _ _ ne2.symm n1, Paired.mapP n2 fun x q z => ⟨z.1, z.2.same fun t xs e => f1 t _ (ne_of e hW (by intro z; cases z)) e⟩⟩, ⟨kr, f1 _ _ ne3.symm r3, Paired.mapP r4 fun x q z => ⟨z.1, ent _ _ z.2⟩⟩, ⟨kh, f1 _ _ ne4.symm t1, Paired.mapP t2 fun x q z => ⟨z.1, ent _ _ z.2⟩⟩, d1, d2, d3⟩
    have rok : RsOk (resE es) := by
      have := resE_ok okk nd es.length (Nat.le_refl _)
      rw [List.take_of_length_le (Nat.le_refl _)] at this
      exact this
    have lo : (resE es).o.length = es.length := by
      rw [← List.length_map (f := fun p : Int × Str => p.1), resE_keys, List.length_map]
    have nka : C.a ≠ C.e := ne_of cl.at_ hW (by intro z; cases z)
    refine ⟨_, rfl, C.a, _, C.dx, _, _, rfl, f1 _ _ nka cl.at_, T.cl_Clerk, T.na_Clerk_results, rfl, C.A.a, C.A.dx, _, rfl, rs1.at_, rfl, _, rfl, C.A, resE es, .ref a, e, rfl, rs1, rok, ent _ _ hv0, ok1, by rw [keys]; exact hin, by omega, fun G2 fr2 rs2 => ?_⟩
    have fc : FrC C H G2 := fun b u m0 m1 m2 m3 m4 hb => fr2 b u m1 m2 m3 m4 (f1 b u m0 (sG _ _ hb))
    have fc1 : ∀ {b : Addr} {u : HO}, b ≠ C.A.o1 → b ≠ C.A.o2 → b ≠ C.A.o3 → b ≠ C.A.o4 → G1 b = some u → G2 b = some u := fun m1 m2 m3 m4 hb => fr2 _ _ m1 m2 m3 m4 hb
    have kinds : ∀ {b : Addr} {u : HO}, G b = some u → (∀ xs, u ≠ .dK xs) → (∀ xs, u ≠ .dT xs) → b ≠ C.A.o1 ∧ b ≠ C.A.o2 ∧ b ≠ C.A.o3 ∧ b ≠ C.A.o4 := fun hb h1 h2 => ⟨ne_of hb r2 (h1 _), ne_of hb n1 (h1 _), ne_of hb r3 (h1 _), ne_of hb t1 (h2 _)⟩
    have lst2 : ∀ {b : Addr} {xs : List V}, b ≠ C.e → G b = some (.lst xs) → G2 b = some (.lst xs) := fun nb hb => let ⟨q1, q2, q3, q4⟩ := kinds hb (by intro _ z; cases z) (by intro _ z; cases z); fc1 q1 q2 q3 q4 (f1 _ _ nb hb)
    have ins2 : ∀ {b K dx : Addr} {fs : List (Str × V)}, G b = some (.ins K dx fs) → G2 b = some (.ins K dx fs) := fun hb => let ⟨q1, q2, q3, q4⟩ := kinds hb (by intro _ z; cases z) (by intro _ z; cases z); fc1 q1 q2 q3 q4 (f1 _ _ (ne_of hb hW (by intro z; cases z)) hb)
    have ent2 : ∀ v x, EntAt G c.c_Entry v x → EntAt G2 c.c_Entry v x := fun v x h => h.keep fun t dx fs ht => ins2 ht
    refine k G2 fc ⟨ins2 cl.at_, ⟨ws ++ [.ref a], fc1 ne1 ne2 ne3 ne4 g1, rel_push ⟨hE.1, fun j v x p q => ent2 v x (hE.2 j v x p q)⟩ (ent2 _ _ hv0)⟩, by rw [resE_snoc]; exact rs2, lst2 cl.ned.symm cl.deeds, lst2 cl.nep.symm cl.piles, cl.ned, cl.nep⟩

set_option maxHeartbeats 4000000 in
theorem ok_Clerk_book (T : Txt w K mg c) : FnOk P w K mg base CX0 1 c.a_Clerk_book c.d_Clerk_book ["self"] (spBookC c.c_Clerk c.c_Results c.c_Entry) := by
  refine T.Clerk_book.ok sc_Clerk_book (fun vs H Q E h => ?_) (fun cdv A outer s H vs Q E hr h => ?_)
  · obtain ⟨C, es, rfl, _⟩ := h
    rfl
  · obtain ⟨C, es, rfl, cl, k⟩ := h
    refine ⟨_, (pss_one (ps_ret (pe_callTy call_list_of rfl T.no_list bt_list (pa_cons (pe_fld (pv 0) rfl) pa_nil)))), ?_⟩
    obtain ⟨ws, hW, hE⟩ := cl.ents
    exact ⟨_, rfl, C.a, _, C.dx, _, _, rfl, cl.at_, T.cl_Clerk, T.na_Clerk_entries, rfl, C.e, _, rfl, .inl (SqL.of hW), fun q hq => k q ws _ (Same.new hq) hq upd_same (hE.same (Same.new hq))⟩

set_option maxHeartbeats 4000000 in
theorem ok_Clerk_acts (T : Txt w K mg c) : FnOk P w K mg base CX0 1 c.a_Clerk_acts c.d_Clerk_acts ["self"] (spNilC c.c_Clerk c.c_Results c.c_Entry) := by
  refine T.Clerk_acts.ok sc_Clerk_acts (fun vs H Q E h => ?_) (fun cdv A outer s H vs Q E hr h => ?_)
  · obtain ⟨C, es, rfl, _⟩ := h
    rfl
  · obtain ⟨C, es, rfl, cl, k⟩ := h
    refine ⟨_, (pss_one (ps_ret (pe_callTy call_list_of rfl T.no_list bt_list (pa_cons (pe_fld (pv 0) rfl) pa_nil)))), ?_⟩
    exact ⟨_, rfl, C.a, _, C.dx, _, _, rfl, cl.at_, T.cl_Clerk, T.na_Clerk_deeds, rfl, C.d, _, rfl, .inl (SqL.of cl.deeds), fun q hq => k q _ (Same.new hq) upd_same⟩

set_option maxHeartbeats 4000000 in
theorem ok_Clerk_sorting (T : Txt w K mg c) : FnOk P w K mg base CX0 6 c.a_Clerk_sorting c.d_Clerk_sorting ["self"] (spNilC c.c_Clerk c.c_Results c.c_Entry) := by
  refine T.Clerk_sorting.ok sc_Clerk_sorting (fun vs H Q E h => ?_) (fun cdv A outer s H vs Q E hr h => ?_)
  · obtain ⟨C, es, rfl, _⟩ := h
    rfl
  · obtain ⟨C, es, rfl, cl, k⟩ := h
    refine ⟨_, (pss_one (ps_ret (pe_callS (ok_sorting_list T) (hr.mono (by decide)) rfl T.sorting_list.mgf T.sorting_list.kp T.sorting_list.bi .nil passE0 (pa_cons (pe_fld (pv 0) rfl) pa_nil)))), ?_⟩
    exact ⟨_, rfl, C.a, _, C.dx, _, _, rfl, cl.at_, T.cl_Clerk, T.na_Clerk_piles, rfl, C.p, rfl, cl.piles, fun q G s h => k q G s h⟩

set_option maxHeartbeats 4000000 in
theorem ok_Lkind (T : Txt w K mg c) : FnOkH P w K mg base CX0 1 c.a_Lkind c.d_Lkind ["_law_error"] (spKind c.c_NoEntry c.c_Late) := by
  refine T.Lkind.fn.okH sc_Lkind (fun vs H Q E h => ?_) (fun cdv A outer s H vs Q E hr h => ?_)
  · obtain ⟨x, rfl, _⟩ := h
    rfl
  · obtain ⟨x, rfl, h0⟩ := h
    refine ⟨_, (pss_cons (ps_set (i := 1) sc_Lkind.nd rfl (Or.inl rfl) (pe_lst (pa_cons (pe_callB call_isiA rfl T.no_isinstance bt_isinstance (pa_cons (pv 0) (pa_cons (pe_glob (v := .ref c.c_NoEntry) rfl T.mg_NoEntry rfl) pa_nil))) (pa_cons (pe_callB call_isiA rfl T.no_isinstance bt_isinstance (pa_cons (pv 0) (pa_cons (pe_glob (v := .ref c.c_Late) rfl T.mg_Late rfl) pa_nil))) (pa_cons (pe_callB call_isiA rfl T.no_isinstance bt_isinstance (pa_cons (pv 0) (pa_cons (pe_glob (v := .ref c.c_NoAct) rfl T.mg_NoAct rfl) pa_nil))) pa_nil)))))
      (pss_one (ps_ret (pe_op op_cat (pv 1) (pe_lst (pa_cons (pe_callB call_isiA rfl T.no_isinstance bt_isinstance (pa_cons (pv 0) (pa_cons (pe_glob (v := .ref c.c_NoSheet) rfl T.mg_NoSheet rfl) pa_nil))) (pa_cons (pe_callB call_isiA rfl T.no_isinstance bt_isinstance (pa_cons (pv 0) (pa_cons (pe_glob (v := .ref c.c_NoPath) rfl T.mg_NoPath rfl) pa_nil))) (pa_cons (pe_callB call_isiA rfl T.no_isinstance bt_isinstance (pa_cons (pv 0) (pa_cons (pe_bltn (v := .ty "ValueError") rfl T.no_ValueError bt_ValueError rfl) pa_nil))) pa_nil)))))))), ?_⟩
    rcases h0 with ⟨he, k⟩ | ⟨he, k⟩
    · refine ⟨_, rfl, rIsiA.exc he T.q_NoEntry T.i_NoEntry_NoEntry ?_⟩
      refine ⟨_, rfl, rIsiA.exc he T.q_NoEntry T.i_NoEntry_Late ?_⟩
      refine ⟨_, rfl, rIsiA.exc he T.q_NoEntry T.i_NoEntry_NoAct ?_⟩
      refine ⟨le_ble rfl, fun p1 hp1 => ?_⟩
      have s1 := Same.new (o := HO.lst [V.bl true, V.bl false, V.bl false]) hp1
      have k1 := upd_same (H := H) (a := p1) (o := .lst [V.bl true, V.bl false, V.bl false])
      generalize upd H p1 (.lst [V.bl true, V.bl false, V.bl false]) = G1 at s1 k1 ⊢
      have he := s1 _ _ he
      refine ⟨_, rfl, ?_⟩
      refine ⟨_, rfl, rIsiA.exc he T.q_NoEntry T.i_NoEntry_NoSheet ?_⟩
      refine ⟨_, rfl, rIsiA.exc he T.q_NoEntry T.i_NoEntry_NoPath ?_⟩
      refine ⟨_, rfl, rIsiA.excT he T.q_NoEntry T.i_NoEntry_ValueError ?_⟩
      refine ⟨le_ble rfl, fun p2 hp2 => ?_⟩
      have s2 := Same.new (o := HO.lst [V.bl false, V.bl false, V.bl true]) hp2
      have k2 := upd_same (H := G1) (a := p2) (o := .lst [V.bl false, V.bl false, V.bl true])
      have k1 := s2 _ _ k1
      generalize upd G1 p2 (.lst [V.bl false, V.bl false, V.bl true]) = G2 at s2 k1 k2 ⊢
      exact ⟨p1, p2, _, _, rfl, rfl, k1, k2, le_ble rfl, fun q hq => k q _ (s1.trans (s2.trans (Same.new hq))) upd_same⟩
    · refine ⟨_, rfl, rIsiA.exc he T.q_Late T.i_Late_NoEntry ?_⟩
      refine ⟨_, rfl, rIsiA.exc he T.q_Late T.i_Late_Late ?_⟩
      refine ⟨_, rfl, rIsiA.exc he T.q_Late T.i_Late_NoAct ?_⟩
      refine ⟨le_ble rfl, fun p1 hp1 => ?_⟩
      have s1 := Same.new (o := HO.lst [V.bl false, V.bl true, V.bl false]) hp1
      have k1 := upd_same (H := H) (a := p1) (o := .lst [V.bl false, V.bl true, V.bl false])
      generalize upd H p1 (.lst [V.bl false, V.bl true, V.bl false]) = G1 at s1 k1 ⊢
      have he := s1 _ _ he
      refine ⟨_, rfl, ?_⟩
      refine ⟨_, rfl, rIsiA.exc he T.q_Late T.i_Late_NoSheet ?_⟩
      refine ⟨_, rfl, rIsiA.exc he T.q_Late T.i_Late_NoPath ?_⟩
      refine ⟨_, rfl, rIsiA.excT he T.q_Late T.i_Late_ValueError ?_⟩
      refine ⟨le_ble rfl, fun p2 hp2 => ?_⟩
      have s2 := Same.new (o := HO.lst [V.bl false, V.bl false, V.bl true]) hp2
      have k2 := upd_same (H := G1) (a := p2) (o := .lst [V.bl false, V.bl false, V.bl true])
      have k1 := s2 _ _ k1
      generalize upd G1 p2 (.lst [V.bl false, V.bl false, V.bl true]) = G2 at s2 k1 k2 ⊢
      exact ⟨p1, p2, _, _, rfl, rfl, k1, k2, le_ble rfl, fun q hq => k q _ (s1.trans (s2.trans (Same.new hq))) upd_same⟩

set_option maxHeartbeats 4000000 in
theorem ok_Lrefused (T : Txt w K mg c) : FnOk P w K mg base CX0 6 c.a_Lrefused c.d_Lrefused ["_law_clerk", "_law_thing", "_law_due"] (spRefusedC K c.c_Clerk c.c_Results c.c_Entry) := by
  refine T.Lrefused.fn.ok sc_Lrefused (fun vs H Q E h => ?_) (fun cdv A outer s H vs Q E hr h => ?_)
  · obtain ⟨C, es, v, du, rfl, _⟩ := h
    rfl
  · obtain ⟨C, es, v, du, rfl, cl, okk, nd, l84, h0, k⟩ := h
    refine ⟨_, (pss_cons (ps_set (i := 3) sc_Lrefused.nd rfl (Or.inl rfl) (pe_lst pa_nil))
      (pss_cut (ps_try rfl rfl rfl sc_Lrefused.nd (i := 4) rfl rfl rfl T.mg_RightError (fun Ez pins W hp =>
        (pss_one (ps_expr (pe_methS (pv 0) T.cl_Clerk T.m_Clerk_publish (ok_Clerk_publish T) (hr.mono (by decide)) T.bi_Clerk_publish .nil hp (pa_cons (pv 1) pa_nil)))))
        (fun e => (pss_one (ps_set (i := 3) sc_Lrefused.nd rfl (Or.inl rfl) (pe_callH (ok_Lkind T) (hr.mono (show 1 ≤ 5 by decide)).h rfl T.Lkind.mgf T.Lkind.kp T.Lkind.bi .nil pass0 (pa_cons (pv 4) pa_nil))))))
      (pss_one (ps_ret (pe_cmpR (op_eqD (hu62 hr)) (pv 3) (pv 2) (nomark _)))))), ?_⟩
    refine ⟨le_ble rfl, fun p0 hp0 => ?_⟩
    have s0 := Same.new (o := HO.lst []) hp0
    generalize upd H p0 (.lst []) = G0 at s0 ⊢
    have cl := cl.same s0
    have flat6 : ∀ xs, xs = kindNE ∨ xs = kindLT → xs.all flatV = true := fun xs h => by rcases h with rfl | rfl <;> rfl
    refine ⟨fun σ G => Same H G ∧ ∃ q xs, σ = [some (.ref C.a), some v, some (.ref du), some (.ref q), none] ∧ G q = some (.lst xs) ∧ H du = some (.lst xs) ∧ (xs = kindNE ∨ xs = kindLT), ?_, ?_⟩
    · refine ⟨fun σ1 X dd H1 => σ1 = [some (.ref C.a), some v, some (.ref du), some (.ref p0), none] ∧ dd = none ∧ Same G0 H1 ∧ ((X = .ref c.c_NoEntry ∧ H du = some (.lst kindNE)) ∨ (X = .ref c.c_Late ∧ H du = some (.lst kindLT))), fun pins W => ?_, ?_⟩
      · refine ⟨_, rfl, C.a, C.dx, _, rfl, cl.at_, rfl, _, rfl, C, es, v, rfl, cl, okk, nd, l84, ?_⟩
        rcases h0 with ⟨hd, n, ty, hn⟩ | ⟨hd, e, hv, ok1, bad⟩
        · exact .inl ⟨n, ty.same s0, hn, fun G sG => ⟨rfl, rfl, sG, .inl ⟨rfl, hd⟩⟩⟩
        · exact .inr ⟨e, hv.same s0, ok1, .inr ⟨bad, fun G sG => ⟨rfl, rfl, sG, .inr ⟨rfl, hd⟩⟩⟩⟩
      · rintro σ1 X dd H1 ⟨rfl, rfl, sH, ⟨rfl, hd⟩ | ⟨rfl, hd⟩⟩
        · refine ⟨T.e_NoEntry_RightError, fun e he => ⟨_, rfl, e, rfl, .inl ⟨upd_same, fun q G sG hq => ?_⟩⟩⟩
          exact ⟨s0.trans (sH.trans ((Same.new he).trans sG)), q, _, rfl, hq, hd, .inl rfl⟩
        · refine ⟨T.e_Late_RightError, fun e he => ⟨_, rfl, e, rfl, .inr ⟨upd_same, fun q G sG hq => ?_⟩⟩⟩
          exact ⟨s0.trans (sH.trans ((Same.new he).trans sG)), q, _, rfl, hq, hd, .inr rfl⟩
    rintro σ G ⟨sG, q, xs, rfl, hq, hd, hx⟩
    have h := SeqEq.flatL (K := K) (n := 0) (SqL.of hq) (SqL.of (sG _ _ hd)) (flat6 _ hx) (flat6 _ hx)
    rw [eqL_self (flat6 _ hx)] at h
    exact ⟨_, rfl, _, rfl, 0, true, by decide, h, k _ sG⟩

set_option maxHeartbeats 4000000 in
theorem ok_Lodd (T : Txt w K mg c) : FnOk P w K mg base CX0 7 c.a_Lodd c.d_Lodd ["_law_clerk", "_law_book_here", "_law_mixed_here"] (spOdd K c.c_Clerk c.c_Results c.c_Entry) := by
  refine T.Lodd.fn.ok sc_Lodd (fun vs H Q E h => ?_) (fun cdv A outer s H vs Q E hr h => ?_)
  · obtain ⟨C, es, l, ws, m, rfl, _⟩ := h
    rfl
  · obtain ⟨C, es, l, ws, m, rfl, cl, okk, nd, l84, bnd, hL, hR, hm, k⟩ := h
    refine ⟨_, (pss_cons (ps_if (pt_cmpR op_eq (pe_op op_mod (pv 2) pe_int) pe_int (nomark _))
        (pss_cut (ps_set (i := 3) sc_Lodd.nd rfl (Or.inl rfl) (pe_ix ix_list (pe_lst (pa_cons pe_non (pa_cons pe_int (pa_cons pe_str (pa_cons (pe_lst pa_nil) (pa_cons (pe_tup (pa_cons pe_int (pa_cons pe_int pa_nil))) pa_nil)))))) (pe_op op_mod (pe_op op_fdiv (pv 2) pe_int) pe_int) (fun _ _ => rfl)))
      (pss_one (ps_ret (pe_call (ok_Lrefused T) (hr.mono (by decide)) rfl T.Lrefused.mgf T.Lrefused.kp T.Lrefused.bi .nil pass0 (pa_cons (pv 0) (pa_cons (pv 3) (pa_cons (pe_lst (pa_cons pe_bl (pa_cons pe_bl (pa_cons pe_bl (pa_cons pe_bl (pa_cons pe_bl (pa_cons pe_bl pa_nil))))))) pa_nil)))))))
        pss_nil)
      (pss_cons (ps_if (PW.pt (pw_and (pt_cmpR op_eq (pe_op op_mod (pv 2) pe_int) pe_int (nomark _)) (pw_and1 (pt_cmpR (op_neD (hu62 hr)) (pv 1) (pe_lst pa_nil) (nomark _)))))
        (pss_cut (ps_set (i := 4) sc_Lodd.nd rfl (Or.inl rfl) (pe_ix ix_list (pv 1) (pe_op op_mod (pe_op op_fdiv (pv 2) pe_int) (pe_callB call_len_seq rfl T.no_len bt_len (pa_cons (pv 1) pa_nil))) (fun _ _ => rfl)))
      (pss_cut (ps_set (i := 5) sc_Lodd.nd rfl (Or.inl rfl) (pe_makeS T.mk_Entry (ok_Entry_init T) (hr.mono (by decide)) rfl T.mg_Entry T.b_Entry_6 passE0 (pa_cons (pe_ix ix_list (pv 4) pe_int (fun _ _ => rfl)) (pa_cons (pe_ix ix_list (pv 4) pe_int (fun _ _ => rfl)) (pa_cons pe_str (pa_cons pe_str (pa_cons pe_non (pa_cons pe_int pa_nil)))))) pk_nil))
      (pss_cons (ps_set (i := 6) sc_Lodd.nd rfl (Or.inl rfl) pe_int)
      (pss_cut (ps_while PassesOwn.never (pt_cmpR op_in_seq (pv 6) (pe_comp (N' := ["_law_there"]) (js := [none]) rfl rfl (by decide +kernel) (by decide +kernel) (free_nil (by decide +kernel)) (cap_nil rfl rfl) (pi_list (pv 1)) (fun B => ⟨(pg_name (i := 0) (show List.Nodup (["_law_there"] : List Str) by decide +kernel) rfl (Or.inl rfl)), pifs_nil, (pe_ix ix_list (pv 0) pe_int (fun _ _ => rfl))⟩)) (by with_unfolding_all rfl))
        (pss_one (ps_set (i := 6) sc_Lodd.nd rfl (Or.inl rfl) (pe_op op_add (pv 6) pe_int))))
      (pss_cut (ps_if (pt_cmpR op_eq (pe_op op_mod (pe_op op_fdiv (pv 2) pe_int) pe_int) pe_int (nomark _))
        (pss_one (ps_set (i := 5) sc_Lodd.nd rfl (Or.inl rfl) (pe_makeS T.mk_Entry (ok_Entry_init T) (hr.mono (by decide)) rfl T.mg_Entry T.b_Entry_6 passE0 (pa_cons (pe_ix ix_list (pv 4) pe_int (fun _ _ => rfl)) (pa_cons (pe_op op_pow pe_int pe_int) (pa_cons pe_str (pa_cons pe_str (pa_cons pe_non (pa_cons pe_int pa_nil)))))) pk_nil)))
        (pss_one (ps_if (PW.pt (pw_and (pt_cmpR op_eq (pe_op op_mod (pe_op op_fdiv (pv 2) pe_int) pe_int) pe_int (nomark _)) (pw_and1 (pt_cmpR (op_ltT hr.units0) (pe_tup (pa_cons (pe_ix ix_list (pv 4) pe_int (fun _ _ => rfl)) (pa_cons (pv 6) pa_nil))) (pe_tup (pa_cons (pe_ix ix_list (pe_ix ix_list (pv 1) (pe_un un_neg pe_int) (fun _ _ => rfl)) pe_int (fun _ _ => rfl)) (pa_cons (pe_ix ix_list (pe_ix ix_list (pv 1) (pe_un un_neg pe_int) (fun _ _ => rfl)) pe_int (fun _ _ => rfl)) pa_nil))) (nomark _)))))
        (pss_one (ps_set (i := 5) sc_Lodd.nd rfl (Or.inl rfl) (pe_makeS T.mk_Entry (ok_Entry_init T) (hr.mono (by decide)) rfl T.mg_Entry T.b_Entry_6 passE0 (pa_cons (pv 6) (pa_cons (pe_ix ix_list (pv 4) pe_int (fun _ _ => rfl)) (pa_cons pe_str (pa_cons pe_str (pa_cons pe_non (pa_cons pe_int pa_nil)))))) pk_nil)))
        pss_nil)))
      (pss_one (ps_ret (pe_call (ok_Lrefused T) (hr.mono (by decide)) rfl T.Lrefused.mgf T.Lrefused.kp T.Lrefused.bi .nil pass0 (pa_cons (pv 0) (pa_cons (pv 5) (pa_cons (pe_lst (pa_cons pe_bl (pa_cons pe_bl (pa_cons pe_bl (pa_cons pe_bl (pa_cons pe_bl (pa_cons pe_bl pa_nil))))))) pa_nil)))))))))))
        pss_nil)
      (pss_one (ps_ret pe_bl)))), ?_⟩
    have sz : 2000 < sizeLine := le_ble rfl
    have lw := hR.1
    walk_at "rd"
    refine ite2 (fun _ => ?_) (fun _ => ?_)
    · refine ⟨fun σ' G' => Same H G' ∧ ∃ v n, σ' = [some (.ref C.a), some (.ref l), some (.int m), some v, none, none, none] ∧ TyOf K G' v (.type n) ∧ PySem.W.kitOne K (.type n) (.ref c.c_Entry) = some false, ?_, ?_⟩
      · refine ⟨le_ble rfl, fun p1 hp1 => ?_⟩
        have s1 := Same.new (o := HO.lst []) hp1
        have k1 := upd_same (H := H) (a := p1) (o := .lst [])
        generalize upd H p1 (.lst []) = G1 at s1 k1 ⊢
        refine ⟨le_ble rfl, fun p2 hp2 => ?_⟩
        have s2 := Same.new (o := HO.tup [V.int 1, V.int 2]) hp2
        have k2 := upd_same (H := G1) (a := p2) (o := .tup [V.int 1, V.int 2])
        have k1 := s2 _ _ k1
        generalize upd G1 p2 (.tup [V.int 1, V.int 2]) = G2 at s2 k1 k2 ⊢
        refine ⟨le_ble rfl, fun p3 hp3 => ?_⟩
        have s3 := Same.new (o := HO.lst [V.non, .int 5, .str (Str.ofString "entry"), .ref p1, .ref p2]) hp3
        have k3 := upd_same (H := G2) (a := p3) (o := .lst [V.non, .int 5, .str (Str.ofString "entry"), .ref p1, .ref p2])
        have k1 := s3 _ _ k1
        have k2 := s3 _ _ k2
        generalize upd G2 p3 (.lst [V.non, .int 5, .str (Str.ofString "entry"), .ref p1, .ref p2]) = G3 at s3 k1 k2 k3 ⊢
        walk_at "rd"
        obtain ⟨y, hy, hm⟩ := atI_in (xs := [V.non, .int 5, .str (Str.ofString "entry"), .ref p1, .ref p2]) (i := m / 3 % 5) (Int.emod_nonneg _ (by decide)) (by show _ < (5 : Int); exact Int.emod_lt_of_pos _ (by decide))
        refine ⟨p3, _, _, y, rfl, rfl, SqL.of k3, hy, s1.trans (s2.trans s3), y, ?_⟩
        simp only [List.mem_cons, List.not_mem_nil, or_false] at hm
        rcases hm with rfl | rfl | rfl | rfl | rfl
        · exact ⟨_, rfl, .non, T.wn_Entry_NoneType⟩
        · exact ⟨_, rfl, .int 5, T.wn_Entry_int⟩
        · exact ⟨_, rfl, .str _, T.wn_Entry_str⟩
        · exact ⟨_, rfl, .lst k1, T.wn_Entry_list⟩
        · exact ⟨_, rfl, .tup k2, T.wn_Entry_tuple⟩
      rintro σ' G ⟨sG, v, n, rfl, ty, hn⟩
      refine ⟨_, rfl, _, rfl, le_ble rfl, fun du hdu => ?_⟩
      have sd := Same.new (o := HO.lst kindNE) hdu
      exact ⟨C, es, v, du, rfl, cl.same (sG.trans sd), okk, nd, l84, .inl ⟨upd_same, n, ty.same sd, hn⟩, fun G' s' => k G' (sG.trans (sd.trans s'))⟩
    walk_at "rd"
    refine ite2 (fun _ => ?_) (fun _ => iteF ?_)
    rotate_left
    · first | exact k H (Same.refl H) | exact ⟨_, rfl, k H (Same.refl H)⟩
    refine ⟨_, rfl, le_ble rfl, fun q0 hq0 => ?_⟩
    have t0 := Same.new (o := HO.lst []) hq0
    have hL0 := t0 _ _ hL
    have hR0 := hR.same t0
    have cl0 := cl.same t0
    refine ⟨0, _, by decide, seqNil (SqL.of hL0) (SqL.of upd_same), _, rfl, ?_⟩
    generalize upd H q0 (.lst []) = G0 at t0 hL0 hR0 cl0 ⊢
    refine iteB (fun he => ?_) (fun he => ?_)
    rotate_left
    · first | exact k _ t0 | exact ⟨_, rfl, k _ t0⟩
    have wne : ws ≠ [] := fun z => by rw [z] at he; exact absurd he (by decide)
    obtain ⟨e0, ra0, le0, em0, hat0, hra0⟩ := hR0.last wne
    have wp : 0 < ws.length := List.length_pos_iff.mpr wne
    refine ⟨fun σ' G' => G0 = G' ∧ ∃ ra e1, σ' = [some (.ref C.a), some (.ref l), some (.int m), none, some (.ref ra), none, none] ∧ e1 ∈ es ∧ G0 ra = some (.lst (rowB e1)), ?_, ?_⟩
    · walk_at "rd"
      refine ⟨l, _, rfl, .inl (SqL.of hL0), ?_⟩
      walk_at "rd"
      refine ⟨by show (0 : Int) < ws.length; omega, ?_⟩
      obtain ⟨j, y, hj, hy, hb, _⟩ := atI_ix (xs := ws) (i := m / 3 % (ws.length : Int)) (Int.emod_nonneg _ (by omega)) (Int.emod_lt_of_pos _ (by omega))
      have hje : j < es.length := by rw [← lw]; exact hj
      obtain ⟨ra, rfl, hrow⟩ := hR0.2 j y _ hy (List.getElem?_eq_getElem hje)
      exact ⟨l, _, _, _, rfl, rfl, SqL.of hL0, hb, rfl, ra, _, rfl, List.getElem_mem hje, hrow⟩
    rintro σ' G' ⟨rfl, ra, e1, rfl, em1, hra⟩
    obtain ⟨⟨n1, n2⟩, d1, d2⟩ := bnd e1 em1
    have f0 : atI (rowB e1) 0 = some (.int e1.n) := atI_nat (j := 0) rfl
    have f1 : atI (rowB e1) 1 = some (.int e1.d) := atI_nat (j := 1) rfl
    have g0 : atI (rowB e0) 0 = some (.int e0.n) := atI_nat (j := 0) rfl
    have g1 : atI (rowB e0) 1 = some (.int e0.d) := atI_nat (j := 1) rfl
    have in1 : e1.n ∈ es.map (·.n) := List.mem_map_of_mem (f := fun x : En => x.n) em1
    refine ⟨fun σ' G' => Same G0 G' ∧ ∃ v e, σ' = [some (.ref C.a), some (.ref l), some (.int m), none, some (.ref ra), some v, none] ∧ EntAt G' c.c_Entry v e ∧ okE e ∧ Bad es e, ?_, ?_⟩
    · refine ⟨_, rfl, ra, _, _, _, rfl, rfl, SqL.of hra, f0, ?_⟩
      refine ⟨_, rfl, ra, _, _, _, rfl, rfl, SqL.of hra, f1, ?_⟩
      first | refine ⟨rfl, rfl, fun x dx hx hdx ne => ?_⟩ | refine fun x dx hx hdx ne => ?_
      refine ⟨x, dx, .int e1.n, .int e1.d, .str (Str.ofString "genus"), .str (Str.ofString "a"), .non, .int 5, .non, .bl true, rfl, upd_same, Own.int, Own.int, Own.str, Own.str, by show (Str.ofString "a").length ≤ sizeLine; exact Nat.le_trans (by decide +kernel : (Str.ofString "a").length ≤ 2000) (Nat.le_of_lt sz), Own.non, Own.int, Own.non, fun G1 s1 => ⟨fun _ => ⟨rfl, ?_⟩, fun h => absurd (show why (.int e1.n) (.int e1.d) (.str (Str.ofString "genus")) (.str (Str.ofString "a")) .non (.int 5) .non = 0 from okL n1 n2 d1 d2) h⟩⟩
      have s2 := Same.upd (o := .ins c.c_Entry dx (fieldsE (mkL (e1.n) (e1.d)))) ((Same.made hx hdx ne).trans s1) hx
      have he : EntAt (upd G1 x (.ins c.c_Entry dx (fieldsE (mkL (e1.n) (e1.d))))) c.c_Entry (.ref x) (mkL (e1.n) (e1.d)) := ⟨x, dx, rfl, upd_same⟩
      have ef : fields (.int (e1.n)) (.int (e1.d)) (.str (Str.ofString "genus")) (.str (Str.ofString "a")) .non (.int 5) .non (.bl true) = fieldsE (mkL (e1.n) (e1.d)) := rfl
      rw [ef]
      generalize upd G1 x (.ins c.c_Entry dx (fieldsE (mkL (e1.n) (e1.d)))) = G1Z at s2 he ⊢
      exact ⟨s2, _, _, rfl, he, okL n1 n2 d1 d2, .inr in1⟩
    rintro σ' G3 ⟨t3, v, e, rfl, hv, okv, bad⟩
    have hL3 := t3 _ _ hL0
    have hR3 := hR0.same t3
    refine ⟨fun σ' G' => Same G3 G' ∧ ∃ num : Int, σ' = [some (.ref C.a), some (.ref l), some (.int m), none, some (.ref ra), some v, some (.int num)] ∧ 1 ≤ num ∧ num ≤ 85, ?_, ?_⟩
    · refine ⟨fun m' σ' G' => Same G3 G' ∧ ∃ num : Int, σ' = [some (.ref C.a), some (.ref l), some (.int m), none, some (.ref ra), some v, some (.int num)] ∧ 1 ≤ num ∧ num ≤ 85 ∧ (∀ i, 1 ≤ i → i < num → i ∈ es.map (·.n)) ∧ m' = (100 - num).toNat, ⟨_, Same.refl _, 1, rfl, Int.le_refl _, by decide, fun i h1 h2 => by omega, rfl⟩, ?_⟩
      rintro m' σ' G4 ⟨s4, num, rfl, m0, m1, all, rfl⟩
      have hL4 := s4 _ _ hL3
      have hR4 := hR3.same s4
      refine ⟨_, rfl, _, rfl, l, rfl, ⟨_, SqL.of hL4⟩, fun q B hq => ?_⟩
      refine loop_lst (xs := ws) (fun i σ acc G => (∃ o, σ = [o]) ∧ Same G4 G ∧ G q = some (.lst acc) ∧ acc = ((es.take i).map (·.n)).map V.int) (by omega) ?_ ?_ ?_ ?_
      · exact ⟨⟨_, rfl⟩, Same.new hq, upd_same, rfl⟩
      · rintro i σ acc G hi ⟨_, sG, h1, rfl⟩
        exact ⟨h1, SqL.of (sG _ _ hL4), by rw [List.length_map, List.length_map, List.length_take]; omega⟩
      · rintro i w σ acc G hx ⟨⟨o, rfl⟩, sG, h1, rfl⟩
        have hi : i < ws.length := (List.getElem?_eq_some_iff.mp hx).1
        have hie : i < es.length := by omega
        have ee : es[i]? = some es[i] := List.getElem?_eq_getElem hie
        obtain ⟨rb, rfl, hrow⟩ := hR4.2 i w _ hx ee
        have f0 : atI (rowB es[i]) 0 = some (.int es[i].n) := atI_nat (j := 0) rfl
        have hrow := sG _ _ hrow
        refine ⟨_, rfl, rb, _, _, _, rfl, rfl, SqL.of hrow, f0, h1, Nx.mk hi ⟨⟨_, rfl⟩, same_put hq sG, upd_same, ?_⟩⟩
        rw [take_one ee, List.map_append, List.map_append]
        rfl
      · rintro σ acc G ⟨_, sG, h1, rfl⟩
        rw [lw, List.take_of_length_le (Nat.le_refl _)] at h1
        refine ⟨q, _, rfl, .inl (SqL.of h1), rfl, flatI _, _, rfl, ?_⟩
        refine iteB (fun z => ?_) (fun z => ?_)
        · have hin := inV_ints.mp z
          have all' : ∀ i, 1 ≤ i → i < num + 1 → i ∈ es.map (·.n) := fun i h1 h2 => by
            by_cases q : i = num
            · rw [q]; exact hin
            · exact all i h1 (by omega)
          have pg := pigeon (by omega) all'
          rw [List.length_map] at pg
          refine ⟨fun σ' G' => G = G' ∧ σ' = [some (.ref C.a), some (.ref l), some (.int m), none, some (.ref ra), some v, some (.int (num + 1))], fun σ' G' h => ⟨(100 - (num + 1)).toNat, by omega, h.1 ▸ s4.trans sG, num + 1, h.2, by omega, by omega, all', rfl⟩, ?_⟩
          walk_at "rd"
          first | done | exact rfl | exact ⟨rfl, rfl⟩
        · exact ⟨s4.trans sG, num, rfl, m0, m1⟩
    rintro σ' G4 ⟨t4, num, rfl, m0, m1⟩
    have t34 := t3.trans t4
    have hra4 := t34 _ _ hra
    have hL4 := t34 _ _ hL0
    have hra04 := t34 _ _ hra0
    refine ⟨fun σ' G' => Same G4 G' ∧ ∃ v e, σ' = [some (.ref C.a), some (.ref l), some (.int m), none, some (.ref ra), some v, some (.int num)] ∧ EntAt G' c.c_Entry v e ∧ okE e ∧ Bad es e, ?_, ?_⟩
    · have old : ∀ G', Same G4 G' → EntAt G' c.c_Entry v e := fun G' s => hv.same (t4.trans s)
      walk_at "rd"
      refine ite2 (fun _ => ?_) (fun _ => ?_)
      · refine ⟨_, rfl, ra, _, _, _, rfl, rfl, SqL.of hra4, f0, ?_⟩
        walk_at "rd"
        first | refine ⟨rfl, rfl, fun x dx hx hdx ne => ?_⟩ | refine fun x dx hx hdx ne => ?_
        refine ⟨x, dx, .int e1.n, .int 1000000, .str (Str.ofString "genus"), .str (Str.ofString "a"), .non, .int 5, .non, .bl true, rfl, upd_same, Own.int, Own.int, Own.str, Own.str, by show (Str.ofString "a").length ≤ sizeLine; exact Nat.le_trans (by decide +kernel : (Str.ofString "a").length ≤ 2000) (Nat.le_of_lt sz), Own.non, Own.int, Own.non, fun G1 s1 => ⟨fun _ => ⟨rfl, ?_⟩, fun h => absurd (show why (.int e1.n) (.int 1000000) (.str (Str.ofString "genus")) (.str (Str.ofString "a")) .non (.int 5) .non = 0 from okL n1 n2 (by decide) (by decide)) h⟩⟩
        have s2 := Same.upd (o := .ins c.c_Entry dx (fieldsE (mkL (e1.n) (1000000)))) ((Same.made hx hdx ne).trans s1) hx
        have he : EntAt (upd G1 x (.ins c.c_Entry dx (fieldsE (mkL (e1.n) (1000000))))) c.c_Entry (.ref x) (mkL (e1.n) (1000000)) := ⟨x, dx, rfl, upd_same⟩
        have ef : fields (.int (e1.n)) (.int (1000000)) (.str (Str.ofString "genus")) (.str (Str.ofString "a")) .non (.int 5) .non (.bl true) = fieldsE (mkL (e1.n) (1000000)) := rfl
        rw [ef]
        generalize upd G1 x (.ins c.c_Entry dx (fieldsE (mkL (e1.n) (1000000)))) = G1Z at s2 he ⊢
        exact ⟨s2, _, _, rfl, he, okL n1 n2 (by decide) (by decide), .inr in1⟩
      walk_at "rd"
      refine ite2 (fun _ => ?_) (fun _ => iteF ⟨Same.refl _, v, e, rfl, old _ (Same.refl _), okv, bad⟩)
      refine ⟨_, rfl, ra, _, _, _, rfl, rfl, SqL.of hra4, f1, _, rfl, le_ble rfl, fun t1 ht1 => ?_⟩
      have u1 := Same.new (o := HO.tup [V.int e1.d, V.int num]) ht1
      have k1 := upd_same (H := G4) (a := t1) (o := .tup [V.int e1.d, V.int num])
      generalize upd G4 t1 (.tup [V.int e1.d, V.int num]) = G5 at u1 k1 ⊢
      walk_at "rd"
      refine ⟨l, _, _, _, rfl, rfl, SqL.of (u1 _ _ hL4), hat0, ?_⟩
      walk_at "rd"
      refine ⟨ra0, _, _, _, rfl, rfl, SqL.of (u1 _ _ hra04), g1, ?_⟩
      walk_at "rd"
      refine ⟨l, _, _, _, rfl, rfl, SqL.of (u1 _ _ hL4), hat0, ?_⟩
      walk_at "rd"
      refine ⟨ra0, _, _, _, rfl, rfl, SqL.of (u1 _ _ hra04), g0, le_ble rfl, fun t2 ht2 => ?_⟩
      have u2 := Same.new (o := HO.tup [V.int e0.d, V.int e0.n]) ht2
      have k2 := upd_same (H := G5) (a := t2) (o := .tup [V.int e0.d, V.int e0.n])
      have k1 := u2 _ _ k1
      have u12 := u1.trans u2
      generalize upd G5 t2 (.tup [V.int e0.d, V.int e0.n]) = G6 at u12 k1 k2 ⊢
      refine ⟨t1, t2, [e1.d, num], [e0.d, e0.n], rfl, rfl, SqT.of k1, SqT.of k2, _, rfl, ?_⟩
      refine ite2 (fun z => ?_) (fun _ => ⟨u12, v, e, rfl, old _ u12, okv, bad⟩)
      have z : aheadE (mkL num e1.d) e0 = true := z
      have bad2 : Bad es (mkL num e1.d) := by
        refine .inl ?_
        rw [le0]
        show aheadE e0 (mkL num e1.d) = false
        cases q : aheadE e0 (mkL num e1.d) with
        | false => rfl
        | true =>
          have z := (ahead_iff _ _).mp z
          have q := (ahead_iff _ _).mp q
          have z : e1.d < e0.d ∨ e1.d = e0.d ∧ num < e0.n := z
          have q : e0.d < e1.d ∨ e0.d = e1.d ∧ e0.n < num := q
          omega
      refine ⟨_, rfl, _, rfl, ra, _, _, _, rfl, rfl, SqL.of (u12 _ _ hra4), f1, ?_⟩
      first | refine ⟨rfl, rfl, fun x dx hx hdx ne => ?_⟩ | refine fun x dx hx hdx ne => ?_
      refine ⟨x, dx, .int num, .int e1.d, .str (Str.ofString "genus"), .str (Str.ofString "a"), .non, .int 5, .non, .bl true, rfl, upd_same, Own.int, Own.int, Own.str, Own.str, by show (Str.ofString "a").length ≤ sizeLine; exact Nat.le_trans (by decide +kernel : (Str.ofString "a").length ≤ 2000) (Nat.le_of_lt sz), Own.non, Own.int, Own.non, fun G1 s1 => ⟨fun _ => ⟨rfl, ?_⟩, fun h => absurd (show why (.int num) (.int e1.d) (.str (Str.ofString "genus")) (.str (Str.ofString "a")) .non (.int 5) .non = 0 from okL (by omega) (by omega) d1 d2) h⟩⟩
      have s2 := Same.upd (o := .ins c.c_Entry dx (fieldsE (mkL (num) (e1.d)))) ((Same.made hx hdx ne).trans s1) hx
      have he : EntAt (upd G1 x (.ins c.c_Entry dx (fieldsE (mkL (num) (e1.d))))) c.c_Entry (.ref x) (mkL (num) (e1.d)) := ⟨x, dx, rfl, upd_same⟩
      have ef : fields (.int (num)) (.int (e1.d)) (.str (Str.ofString "genus")) (.str (Str.ofString "a")) .non (.int 5) .non (.bl true) = fieldsE (mkL (num) (e1.d)) := rfl
      rw [ef]
      generalize upd G1 x (.ins c.c_Entry dx (fieldsE (mkL (num) (e1.d)))) = G1Z at s2 he ⊢
      exact ⟨u12.trans s2, _, _, rfl, he, okL (by omega) (by omega) d1 d2, bad2⟩
    rintro σ' G5 ⟨t5, v, e, rfl, hv, okv, bad⟩
    have t05 := t0.trans (t34.trans t5)
    refine ⟨_, rfl, _, rfl, le_ble rfl, fun du hdu => ?_⟩
    have sd := Same.new (o := HO.lst kindLT) hdu
    exact ⟨C, es, v, du, rfl, cl.same (t05.trans sd), okk, nd, l84, .inr ⟨upd_same, e, hv.same sd, okv, bad⟩, fun G' s' => k G' (t05.trans (sd.trans s'))⟩

set_option maxHeartbeats 4000000 in
theorem ok_law (T : Txt w K mg c) : FnOk P w K mg base CX0 8 c.a_law c.d_law ["_law_script"] (spLaw K) := by
  refine T.law.fn.ok sc_law (fun vs H Q E h => ?_) (fun cdv A outer s H vs Q E hr h => ?_)
  · obtain ⟨a, ns, rfl, _⟩ := h
    rfl
  · obtain ⟨a, ns, rfl, hS, hn, k⟩ := h
    refine ⟨_, (pss_cons (ps_set (i := 1) sc_law.nd rfl (Or.inl rfl) (pe_slice sl_list (pe_call (ok_Lbook T) (hr.mono (by decide)) rfl T.Lbook.mgf T.Lbook.kp T.Lbook.bi .nil pass0 (pa_cons (pv 0) (pa_cons pe_int pa_nil))) po_none (po_some pe_int)))
      (pss_cons (ps_set (i := 2) sc_law.nd rfl (Or.inl rfl) (pe_call (ok_Lmade T) (hr.mono (by decide)) rfl T.Lmade.mgf T.Lmade.kp T.Lmade.bi .nil pass0 (pa_cons (pv 1) pa_nil)))
      (pss_cons (ps_set (i := 3) sc_law.nd rfl (Or.inl rfl) (pe_make0 T.mk_Clerk (ok_Clerk_init T) (hr.mono (by decide)) rfl T.mg_Clerk T.bi_Clerk_init .nil pass0))
      (pss_cons (ps_set (i := 4) sc_law.nd rfl (Or.inl rfl) (pe_make0 T.mk_Clerk (ok_Clerk_init T) (hr.mono (by decide)) rfl T.mg_Clerk T.bi_Clerk_init .nil pass0))
      (pss_cons (ps_set (i := 5) sc_law.nd rfl (Or.inl rfl) (pe_lst pa_nil))
      (pss_cut (ps_for PassesOwn.never rfl (pi_range1 rfl T.no_range (pa_cons (pe_callB call_len_seq rfl T.no_len bt_len (pa_cons (pv 1) pa_nil)) pa_nil)) (pg_name (i := 6) sc_law.nd rfl (Or.inl rfl))
        (pss_cons (ps_set (i := 7) sc_law.nd rfl (Or.inl rfl) (pe_call (ok_Lmixed T) (hr.mono (by decide)) rfl T.Lmixed.mgf T.Lmixed.kp T.Lmixed.bi .nil pass0 (pa_cons (pe_call (ok_Lcell_at T) (hr.mono (by decide)) rfl T.Lcell_at.mgf T.Lcell_at.kp T.Lcell_at.bi .nil pass0 (pa_cons (pv 0) (pa_cons (pe_op op_add (pv 6) pe_int) pa_nil))) (pa_cons (pe_op op_add (pv 6) pe_int) pa_nil))))
      (pss_cons (ps_if (PW.pt (pw_or (pt_not (pt_val (pe_call (ok_Lodd T) (hr.mono (by decide)) rfl T.Lodd.mgf T.Lodd.kp T.Lodd.bi .nil pass0 (pa_cons (pv 3) (pa_cons (pe_slice sl_list (pv 1) po_none (po_some (pv 6))) (pa_cons (pv 7) pa_nil)))))) (pw_or1 (pt_not (pt_val (pe_call (ok_Lis_book T) (hr.mono (by decide)) rfl T.Lis_book.mgf T.Lis_book.kp T.Lis_book.bi .nil pass0 (pa_cons (pe_meth0 (pv 3) T.cl_Clerk T.m_Clerk_book (ok_Clerk_book T) (hr.mono (by decide)) T.bi_Clerk_book .nil pass0) (pa_cons (pe_slice sl_list (pv 1) po_none (po_some (pv 6))) pa_nil))))))))
        (pss_one (ps_ret pe_bl))
        pss_nil)
      (pss_cons (ps_set (i := 8) sc_law.nd rfl (Or.inl rfl) (pe_methS (pv 3) T.cl_Clerk T.m_Clerk_publish (ok_Clerk_publish T) (hr.mono (by decide)) T.bi_Clerk_publish .nil passE0 (pa_cons (pe_ix ix_list (pv 2) (pv 6) (fun _ _ => rfl)) pa_nil)))
      (pss_cons (ps_if (PW.pt (pw_or (pt_not (pt_val (pe_callB call_isiA rfl T.no_isinstance bt_isinstance (pa_cons (pv 8) (pa_cons (pe_bltn (v := .ty "str") rfl T.no_str bt_str rfl) pa_nil))))) (pw_or1 (pt_cmpR op_ne (pv 8) (pe_dget (hu_of hr) (pe_ix ix_tup (pe_call (ok_Lsieved T) (hr.mono (by decide)) rfl T.Lsieved.mgf T.Lsieved.kp T.Lsieved.bi .nil pass0 (pa_cons (pe_slice sl_list (pv 1) po_none (po_some (pe_op op_add (pv 6) pe_int))) pa_nil)) pe_int (fun _ _ => rfl)) (pe_ix ix_list (pe_ix ix_list (pv 1) (pv 6) (fun _ _ => rfl)) pe_int (fun _ _ => rfl)) (fun _ _ => rfl)) (nomark _)))))
        (pss_one (ps_ret pe_bl))
        pss_nil)
      (pss_one (ps_if (pt_cmpR op_eq (pe_op op_mod (pv 6) pe_int) pe_int (nomark _))
        (pss_cons (ps_expr (pe_bm PySem.F.plainAttrs_list PySem.F.slot_list_append PySem.F.type_list_append (MtM.r mt_append) (pv 5) (pa_cons (pe_ix ix_list (pv 1) (pv 6) (fun _ _ => rfl)) pa_nil)))
      (pss_one (ps_if (pt_cmpR op_ne (pe_methS (pv 4) T.cl_Clerk T.m_Clerk_publish (ok_Clerk_publish T) (hr.mono (by decide)) T.bi_Clerk_publish .nil passE0 (pa_cons (pe_ix ix_list (pv 2) (pv 6) (fun _ _ => rfl)) pa_nil)) (pe_dget (hu_of hr) (pe_ix ix_tup (pe_call (ok_Lsieved T) (hr.mono (by decide)) rfl T.Lsieved.mgf T.Lsieved.kp T.Lsieved.bi .nil pass0 (pa_cons (pv 5) pa_nil)) pe_int (fun _ _ => rfl)) (pe_ix ix_list (pe_ix ix_list (pv 1) (pv 6) (fun _ _ => rfl)) pe_int (fun _ _ => rfl)) (fun _ _ => rfl)) (nomark _))
        (pss_one (ps_ret pe_bl))
        pss_nil)))
        pss_nil)))))))
      (pss_cons (ps_set (i := 9) sc_law.nd rfl (Or.inl rfl) (pe_meth0 (pv 3) T.cl_Clerk T.m_Clerk_book (ok_Clerk_book T) (hr.mono (by decide)) T.bi_Clerk_book .nil pass0))
      (pss_cons (ps_if (PW.pt (pw_or (pt_not (pt_val (pe_call (ok_Lis_book T) (hr.mono (by decide)) rfl T.Lis_book.mgf T.Lis_book.kp T.Lis_book.bi .nil pass0 (pa_cons (pv 9) (pa_cons (pv 1) pa_nil))))) (pw_or1 (pt_not (pt_val (pe_call (ok_Lis_book T) (hr.mono (by decide)) rfl T.Lis_book.mgf T.Lis_book.kp T.Lis_book.bi .nil pass0 (pa_cons (pe_meth0 (pv 4) T.cl_Clerk T.m_Clerk_book (ok_Clerk_book T) (hr.mono (by decide)) T.bi_Clerk_book .nil pass0) (pa_cons (pv 5) pa_nil))))))))
        (pss_one (ps_ret pe_bl))
        pss_nil)
      (pss_cons (ps_expr (pe_bm0 PySem.F.plainAttrs_list PySem.F.slot_list_clear PySem.F.type_list_clear mt_lclear (pv 9)))
      (pss_one (ps_ret (pe_and (pe_call (ok_Lis_book T) (hr.mono (by decide)) rfl T.Lis_book.mgf T.Lis_book.kp T.Lis_book.bi .nil pass0 (pa_cons (pe_meth0 (pv 3) T.cl_Clerk T.m_Clerk_book (ok_Clerk_book T) (hr.mono (by decide)) T.bi_Clerk_book .nil pass0) (pa_cons (pv 1) pa_nil))) (pe_and (pe_cmpR (op_eqD (hu62 hr)) (pe_meth0 (pv 3) T.cl_Clerk T.m_Clerk_acts (ok_Clerk_acts T) (hr.mono (by decide)) T.bi_Clerk_acts .nil pass0) (pe_lst pa_nil) (nomark _)) (pe_one (pe_cmpR (op_eqD (hu62 hr)) (pe_meth0 (pv 3) T.cl_Clerk T.m_Clerk_sorting (ok_Clerk_sorting T) (hr.mono (by decide)) T.bi_Clerk_sorting .nil pass0) (pe_lst pa_nil) (nomark _)))))))))))))))), ?_⟩
    have sz : 2000 < sizeLine := le_ble rfl
    refine ⟨_, rfl, a, 2, ns, rfl, by decide, by decide, hS, hn, fun l0 ws0 es0 G0 s0 hL0 hR0 hB h64 => ?_⟩
    refine ⟨_, rfl, l0, _, rfl, SqL.of hL0, fun l hl => ?_⟩
    have c60 : cutV ws0 none (some 60) = ws0.take 60 := cut_lit ws0 60
    rw [c60]
    have t1 := Same.new (o := HO.lst (ws0.take 60)) hl
    have hL := upd_same (H := G0) (a := l) (o := .lst (ws0.take 60))
    have hR := (hR0.take 60).same t1
    have s1 := s0.trans t1
    generalize upd G0 l (.lst (ws0.take 60)) = G1 at t1 hL hR s1 ⊢
    obtain ⟨es, hes⟩ : ∃ es, es = es0.take 60 := ⟨_, rfl⟩
    obtain ⟨ws, hws⟩ : ∃ ws, ws = ws0.take 60 := ⟨_, rfl⟩
    rw [← hes, ← hws] at hR
    rw [← hws] at hL
    have l60 : es.length ≤ 60 := by rw [hes, List.length_take]; omega
    have mem0 : ∀ e ∈ es, e ∈ es0 := fun e he => List.mem_of_mem_take (by rw [← hes]; exact he)
    have l84 := hB.le
    have okk : ∀ e ∈ es, okE e := fun e he => hB.ok e (mem0 e he)
    have bnd : ∀ e ∈ es, (1 ≤ e.n ∧ e.n ≤ 1000000000) ∧ 1 ≤ e.d ∧ e.d ≤ 1000000 := fun e he => by
      have := hB.nn e (mem0 e he)
      have := hB.dd e (mem0 e he)
      exact ⟨⟨by omega, by omega⟩, by omega, by omega⟩
    have nd : (es.map (·.n)).Nodup := by
      rw [hes, List.map_take]
      exact (book_nd hB.bk).1.sublist (List.take_sublist _ _)
    have pw : es.Pairwise (fun x y => aheadE x y = true) := by
      rw [hes]
      exact (pairs_of hB.bk).1.sublist (List.take_sublist _ _)
    clear hB c60 hR0 hL0 hl t1 hes hws mem0 l84
    have lw := hR.1
    refine ⟨_, rfl, l, ws, es, rfl, hL, hR, okk, by omega, fun q acc G2 s2 fq hq hE => ?_⟩
    have hL := s2 _ _ hL
    have hR := hR.same s2
    have s2 := s1.trans s2
    have lac : acc.length = es.length := hE.1
    refine fun x dx hx hdx ndx => ⟨x, dx, rfl, upd_same, fun C3 G3 ea ed f1 cl3 h1 h2 h3 h4 h5 h6 h7 h8 => ⟨rfl, ?_⟩⟩
    subst ea ed
    have up3 : ∀ {b : Addr}, upd (upd G2 C3.dx (.own C3.a)) C3.a (.ins c.c_Clerk C3.dx []) b = none → G2 b = none := fun {b} hb => by
      have nb : b ≠ C3.a := fun z => by rw [z, upd_same] at hb; cases hb
      rw [upd_ne nb] at hb
      have nd : b ≠ C3.dx := fun z => by rw [z, upd_same] at hb; cases hb
      rw [upd_ne nd] at hb
      exact hb
    have s3 : Same G2 G3 := fun b u hb => f1 b u (ne_of_none hb hx) (by rw [upd_ne (ne_of_none hb hx), upd_ne (ne_of_none hb hdx)]; exact hb)
    have fr3 : Fresh G2 C3 := ⟨hx, up3 h1, up3 h2, up3 h3, up3 h4, up3 h5, up3 h6, up3 h7, up3 h8⟩
    clear f1 up3 h1 h2 h3 h4 h5 h6 h7 h8 hx hdx ndx
    refine fun x dx hx hdx ndx => ⟨x, dx, rfl, upd_same, fun C4 G4 ea ed f1 cl4 h1 h2 h3 h4 h5 h6 h7 h8 => ⟨rfl, ?_⟩⟩
    subst ea ed
    have up4 : ∀ {b : Addr}, upd (upd G3 C4.dx (.own C4.a)) C4.a (.ins c.c_Clerk C4.dx []) b = none → G3 b = none := fun {b} hb => by
      have nb : b ≠ C4.a := fun z => by rw [z, upd_same] at hb; cases hb
      rw [upd_ne nb] at hb
      have nd : b ≠ C4.dx := fun z => by rw [z, upd_same] at hb; cases hb
      rw [upd_ne nd] at hb
      exact hb
    have s4 : Same G3 G4 := fun b u hb => f1 b u (ne_of_none hb hx) (by rw [upd_ne (ne_of_none hb hx), upd_ne (ne_of_none hb hdx)]; exact hb)
    have fr4 : Fresh G3 C4 := ⟨hx, up4 h1, up4 h2, up4 h3, up4 h4, up4 h5, up4 h6, up4 h7, up4 h8⟩
    clear f1 up4 h1 h2 h3 h4 h5 h6 h7 h8 hx hdx ndx
    refine ⟨le_ble rfl, fun o ho => ?_⟩
    have offA : Off C3 C4.all := off_of fr4.all cl3
    have offB : Off C4 C3.all := fr4.off cl3.there
    have cl3 := cl3.same s4
    have no3 : o ∉ C3.all := fun z => cl3.there o z ho
    have no4 : o ∉ C4.all := fun z => cl4.there o z ho
    have off3 : Off C3 [o] := off_of (fun b hb => by rw [List.mem_singleton.mp hb]; exact ho) cl3
    have off4 : Off C4 [o] := off_of (fun b hb => by rw [List.mem_singleton.mp hb]; exact ho) cl4
    have t5 := Same.new (o := HO.lst []) ho
    have ko := upd_same (H := G4) (a := o) (o := .lst [])
    have cl3 := cl3.same t5
    have cl4 := cl4.same t5
    have fo : G2 o = none := (s3.trans s4).free ho
    have s25 := s3.trans (s4.trans t5)
    have fr4 : Fresh G2 C4 := ⟨s3.free fr4.a, s3.free fr4.e, s3.free fr4.d, s3.free fr4.p, s3.free fr4.A, s3.free fr4.o1, s3.free fr4.o2, s3.free fr4.o3, s3.free fr4.o4⟩
    generalize upd G4 o (.lst []) = G5 at t5 ko cl3 cl4 s25 ⊢
    clear s3 s4 t5 ho
    refine ⟨fun σ G => Same G2 G ∧ ClAt G c.c_Clerk c.c_Results c.c_Entry C3 es ∧ ClAt G c.c_Clerk c.c_Results c.c_Entry C4 (odds es es.length) ∧ ∃ ows z6 z7 z8, G o = some (.lst ows) ∧ RowsB G2 ows (odds es es.length) ∧ σ = [some (.ref a), some (.ref l), some (.ref q), some (.ref C3.a), some (.ref C4.a), some (.ref o), z6, z7, z8, none], ?_, ?_⟩
    · refine ⟨_, rfl, l, _, rfl, .inl (SqL.of (s25 _ _ hL)), ?_⟩
      walk_at "rd"
      refine ⟨by omega, by omega, ?_⟩
      refine for_range (n := ws.length) (lo := 0) (fun i σ G => Same G2 G ∧ ClAt G c.c_Clerk c.c_Results c.c_Entry C3 (es.take i) ∧ ClAt G c.c_Clerk c.c_Results c.c_Entry C4 (odds es i) ∧ ∃ ows z6 z7 z8, G o = some (.lst ows) ∧ RowsB G2 ows (odds es i) ∧ ows.length ≤ i ∧ σ = [some (.ref a), some (.ref l), some (.ref q), some (.ref C3.a), some (.ref C4.a), some (.ref o), z6, z7, z8, none]) ?_ ?_ ?_
      · exact ⟨s25, cl3, cl4, [], _, _, _, ko, ⟨rfl, fun j v e h => nomatch h⟩, Nat.le_refl _, rfl⟩
      · rintro i σ G hi ⟨sG, cl3, cl4, ows, z6, z7, z8, ko, hO, lo, rfl⟩
        have hie : i < es.length := by omega
        have ee : es[i]? = some es[i] := List.getElem?_eq_getElem hie
        have lti : (es.take i).length = i := by rw [List.length_take]; omega
        have okT : ∀ e ∈ es.take i, okE e := fun e he => okk e (List.mem_of_mem_take he)
        have ndT : ((es.take i).map (·.n)).Nodup := by rw [List.map_take]; exact nd.sublist (List.take_sublist _ _)
        have subO := odds_sub es i
        have okO : ∀ e ∈ odds es i, okE e := fun e he => okT e (subO.subset he)
        have ndO : ((odds es i).map (·.n)).Nodup := ndT.sublist (subO.map _)
        have leO := subO.length_le
        have bndT : ∀ e ∈ es.take i, (1 ≤ e.n ∧ e.n ≤ 1000000000) ∧ 1 ≤ e.d ∧ e.d ≤ 1000000 := fun e he => bnd e (List.mem_of_mem_take he)
        obtain ⟨v, hv⟩ : ∃ v, ws[i]? = some v := ⟨_, List.getElem?_eq_getElem (by omega)⟩
        obtain ⟨ra, rfl, hrow⟩ := hR.2 i v _ hv ee
        obtain ⟨en, hen⟩ : ∃ en, acc[i]? = some en := ⟨_, List.getElem?_eq_getElem (by omega)⟩
        have hent := hE.2 i en _ hen ee
        have ok1 := okk _ (List.getElem_mem hie)
        have fol := follows pw hie (List.Sublist.refl (es.take i))
        have folO := follows pw hie subO
        have newT := new_no nd hie (List.Sublist.refl (es.take i))
        have newO := new_no nd hie subO
        have tk : es.take (i + 1) = es.take i ++ [es[i]] := take_one ee
        have nd1 : ((es.take (i + 1)).map (·.n)).Nodup := by rw [List.map_take]; exact nd.sublist (List.take_sublist _ _)
        have ok2 : ∀ e ∈ es.take (i + 1), okE e := fun e he => okk e (List.mem_of_mem_take he)
        have oddE : odds es (i + 1) = if i % 2 = 1 then odds es i ++ [es[i]] else odds es i := by show (if i % 2 = 1 then odds es i ++ (es[i]?).toList else odds es i) = _; rw [ee]; rfl
        generalize es[i] = e at hrow hent ok1 fol folO newT newO tk oddE
        have hv' : atI ws (0 + (i : Int)) = some (.ref ra) := by rw [Int.zero_add]; exact atI_nat hv
        have hen' : atI acc (0 + (i : Int)) = some en := by rw [Int.zero_add]; exact atI_nat hen
        have cw : cutV ws none (some (0 + (i : Int))) = ws.take i := cut_take ws i (by omega)
        have cw1 : cutV ws none (some (0 + (i : Int) + 1)) = ws.take (i + 1) := by
          have e9 : (0 + (i : Int) + 1) = ((i + 1 : Nat) : Int) := by omega
          rw [e9]
          exact cut_lit ws (i + 1)
        have f0 : atI (rowB e) 0 = some (.int e.n) := atI_nat (j := 0) rfl
        walk_at "rd"
        refine ⟨a, _, ns, rfl, by omega, (s2.trans sG).seq hS, fun cc => ?_⟩
        walk_at "rd"
        refine ⟨by omega, by omega, fun mx m0 m1 => ?_⟩
        refine ⟨_, rfl, _, rfl, _, rfl, _, rfl, l, _, rfl, SqL.of (sG _ _ hL), fun p1 hp1 => ?_⟩
        rw [cw]
        have u1 := Same.new (o := HO.lst (ws.take i)) hp1
        have k1 := upd_same (H := G) (a := p1) (o := .lst (ws.take i))
        generalize upd G p1 (.lst (ws.take i)) = Ga at u1 k1 ⊢
        refine ⟨_, rfl, C3, es.take i, p1, _, mx, rfl, cl3.same u1, okT, ndT, by omega, bndT, k1, (hR.take i).same (sG.trans u1), m0, fun Gb ub => ⟨_, rfl, iteF ?_⟩⟩
        have u2 := u1.trans ub
        refine ⟨_, rfl, C3.a, C3.dx, _, rfl, (cl3.same u2).at_, rfl, C3, es.take i, rfl, cl3.same u2, fun q2 ws2 Gc uc _ hq2 hE2 => ?_⟩
        have u3 := u2.trans uc
        refine ⟨_, rfl, _, rfl, _, rfl, l, _, rfl, SqL.of (u3 _ _ (sG _ _ hL)), fun p2 hp2 => ?_⟩
        rw [cw]
        have u4 := Same.new (o := HO.lst (ws.take i)) hp2
        have k2 := upd_same (H := Gc) (a := p2) (o := .lst (ws.take i))
        have hq2 := u4 _ _ hq2
        have hE2 := hE2.same u4
        have u4 := u3.trans u4
        generalize upd Gc p2 (.lst (ws.take i)) = Gd at u4 k2 hq2 hE2 ⊢
        refine ⟨q2, ws2, p2, _, es.take i, rfl, hq2, hE2, k2, (hR.take i).same (sG.trans u4), fun Ge ue => ⟨_, rfl, iteF ?_⟩⟩
        have u5 := u4.trans ue
        have cl3 := cl3.same u5
        have cl4 := cl4.same u5
        have ko := u5 _ _ ko
        have sG := sG.trans u5
        clear hq2 hE2 k2 k1 u1 u2 u3 u4 u5 ub uc ue
        refine ⟨_, rfl, C3.a, C3.dx, _, rfl, cl3.at_, rfl, _, rfl, _, rfl, q, _, _, en, rfl, rfl, SqL.of (sG _ _ hq), hen', C3, es.take i, en, rfl, cl3, okT, ndT, by omega, .inr ⟨e, hent.same sG, ok1, .inl ⟨fol, newT, fun Gf ff cl3' => ?_⟩⟩⟩
        have cl4 := cl3.keep cl4 ff offA
        have ko := ff.at off3 (List.mem_singleton.mpr rfl) ko
        have sG' := ff.new fr3 sG
        have valT : valV (outsD (resE (es.take (i + 1)))) (Sum.inl e.n) = some (.str (outS (resE (es.take i)) e)) := by
          rw [tk, resE_snoc]
          show valV ((((resE (es.take i)).o ++ [(e.n, outS (resE (es.take i)) e)]).map fun p => ((Sum.inl p.1 : Key), V.str p.2))) _ = _
          rw [List.map_append]
          exact valV_snoc (outs_none (by rw [resE_keys]; exact newT))
        refine ⟨_, rfl, rIsiA.str Own.str ⟨_, rfl, iteF ?_⟩⟩
        refine ⟨_, rfl, ?_⟩
        walk_at "rd"
        refine ⟨l, _, rfl, SqL.of (sG' _ _ hL), fun p3 hp3 => ?_⟩
        rw [cw1]
        have u1 := Same.new (o := HO.lst (ws.take (i + 1))) hp3
        have k3 := upd_same (H := Gf) (a := p3) (o := .lst (ws.take (i + 1)))
        generalize upd Gf p3 (.lst (ws.take (i + 1))) = Gg at u1 k3 ⊢
        refine ⟨p3, _, es.take (i + 1), rfl, k3, (hR.take (i + 1)).same (sG'.trans u1), ok2, nd1, by rw [List.length_take]; omega, fun t dw dn dr kn kr Gh uh _ _ _ _ _ ht hw _ _ _ _ => ?_⟩
        have u2 := u1.trans uh
        refine ⟨t, _, _, _, rfl, rfl, SqT.of ht, atI_nat (j := 0) rfl, ?_⟩
        refine ⟨_, rfl, _, rfl, l, _, _, _, rfl, rfl, SqL.of (u2 _ _ (sG' _ _ hL)), hv', ra, _, _, _, rfl, rfl, SqL.of (u2 _ _ (sG' _ _ hrow)), f0, dw, _, rfl, by rw [← valT]; exact DGet.k (k := Sum.inl e.n) hw, rfl, _, rfl, ?_⟩
        refine ite2 (fun z => ?_) (fun _ => ?_)
        · exfalso
          rw [decide_eq_true rfl] at z
          exact absurd z (by decide)
        have cl3 := cl3'.same u2
        have cl4 := cl4.same u2
        have ko := u2 _ _ ko
        have sG := sG'.trans u2
        clear ff u1 u2 uh ht hw k3 sG' cl3' valT
        rw [← tk] at cl3
        walk_at "rd"
        refine ite2 (fun hod => ?_) (fun hod => ?_)
        rotate_left
        · have hod : ¬ i % 2 = 1 := fun z => hod (decide_eq_true (congrArg V.int (by omega)))
          rw [if_neg hod] at oddE
          exact ⟨sG, cl3, by rw [oddE]; exact cl4, ows, _, _, _, ko, by rw [oddE]; exact hO, by omega, rfl⟩
        have hod : i % 2 = 1 := by
          have := V.int.inj (of_decide_eq_true hod)
          omega
        rw [if_pos hod] at oddE
        refine ⟨_, rfl, .inl ⟨rfl, _, SqL.of ko⟩, _, rfl, _, rfl, l, _, _, _, rfl, rfl, SqL.of (sG _ _ hL), hv', o, _, _, rfl, rfl, ko, by omega, ?_⟩
        have cl3 := cl3.put (ys := ows ++ [.ref ra]) ko no3
        have cl4 := cl4.put (ys := ows ++ [.ref ra]) ko no4
        have sG := same_put fo sG (o := .lst (ows ++ [.ref ra]))
        have ko := upd_same (H := Gh) (a := o) (o := .lst (ows ++ [.ref ra]))
        generalize upd Gh o (.lst (ows ++ [.ref ra])) = Gi at cl3 cl4 sG ko ⊢
        have hO1 : RowsB G2 (ows ++ [.ref ra]) (odds es i ++ [e]) := rel_push hO ⟨ra, rfl, hrow⟩
        refine ⟨_, rfl, C4.a, C4.dx, _, rfl, cl4.at_, rfl, _, rfl, _, rfl, q, _, _, en, rfl, rfl, SqL.of (sG _ _ hq), hen', C4, odds es i, en, rfl, cl4, okO, ndO, by omega, .inr ⟨e, hent.same sG, ok1, .inl ⟨folO, newO, fun Gj ff cl4' => ?_⟩⟩⟩
        have cl3 := cl4.keep cl3 ff offB
        have ko := ff.at off4 (List.mem_singleton.mpr rfl) ko
        have sG := ff.new fr4 sG
        have valO : valV (outsD (resE (odds es i ++ [e]))) (Sum.inl e.n) = some (.str (outS (resE (odds es i)) e)) := by
          rw [resE_snoc]
          show valV ((((resE (odds es i)).o ++ [(e.n, outS (resE (odds es i)) e)]).map fun p => ((Sum.inl p.1 : Key), V.str p.2))) _ = _
          rw [List.map_append]
          exact valV_snoc (outs_none (by rw [resE_keys]; exact newO))
        have okO1 : ∀ x ∈ odds es i ++ [e], okE x := fun x hx => by
          rcases List.mem_append.mp hx with z | z
          · exact okO x z
          · rw [List.mem_singleton.mp z]; exact ok1
        have ndO1 : ((odds es i ++ [e]).map (·.n)).Nodup := by
          rw [← oddE]
          exact nd1.sublist ((odds_sub es (i + 1)).map _)
        refine ⟨_, rfl, o, _, odds es i ++ [e], rfl, ko, hO1.same sG, okO1, ndO1, by rw [List.length_append]; show _ + 1 ≤ 84; omega, fun t dw dn dr kn kr Gk uk _ _ _ _ _ ht hw _ _ _ _ => ?_⟩
        refine ⟨t, _, _, _, rfl, rfl, SqT.of ht, atI_nat (j := 0) rfl, ?_⟩
        refine ⟨_, rfl, _, rfl, l, _, _, _, rfl, rfl, SqL.of (uk _ _ (sG _ _ hL)), hv', ra, _, _, _, rfl, rfl, SqL.of (uk _ _ (sG _ _ hrow)), f0, dw, _, rfl, by rw [← valO]; exact DGet.k (k := Sum.inl e.n) hw, rfl, _, rfl, ?_⟩
        refine ite2 (fun z => ?_) (fun _ => ?_)
        · exfalso
          rw [decide_eq_true rfl] at z
          exact absurd z (by decide)
        exact ⟨sG.trans uk, cl3.same uk, by rw [oddE]; exact cl4'.same uk, _, _, _, _, uk _ _ ko, by rw [oddE]; exact hO1, by rw [List.length_append]; show _ + 1 ≤ _; omega, rfl⟩
      · rintro σ G ⟨sG, cl3, cl4, ows, z6, z7, z8, ko, hO, lo, rfl⟩
        rw [lw, List.take_of_length_le (Nat.le_refl _)] at cl3
        rw [lw] at cl4 hO
        exact ⟨sG, cl3, cl4, ows, _, _, _, ko, hO, rfl⟩
    rintro σ G ⟨sG, cl3, cl4, ows, z6, z7, z8, ko, hO, rfl⟩
    refine ⟨_, rfl, C3.a, C3.dx, _, rfl, cl3.at_, rfl, C3, es, rfl, cl3, fun x1 w1 Ga ua fa ha ea => ?_⟩
    refine ⟨_, rfl, _, rfl, x1, w1, l, ws, es, rfl, ha, ea, (sG.trans ua) _ _ hL, hR.same (sG.trans ua), fun Gb ub => ⟨_, rfl, iteF ?_⟩⟩
    have u1 := ua.trans ub
    refine ⟨_, rfl, C4.a, C4.dx, _, rfl, (cl4.same u1).at_, rfl, C4, _, rfl, cl4.same u1, fun x2 w2 Gc uc fc hc ec => ?_⟩
    have u2 := u1.trans uc
    refine ⟨_, rfl, x2, w2, o, ows, _, rfl, hc, ec, u2 _ _ ko, hO.same (sG.trans u2), fun Gd ud => ⟨_, rfl, iteF ?_⟩⟩
    have u3 := u2.trans ud
    have ha := ud _ _ (uc _ _ (ub _ _ ha))
    refine ⟨_, rfl, .inl ⟨rfl, _, SqL.of ha⟩, x1, _, rfl, rfl, ha, ?_⟩
    have ue : Same G (upd Gd x1 (.lst [])) := fun b u hb => by rw [upd_ne (fun z => by rw [z, fa] at hb; cases hb)]; exact u3 _ _ hb
    generalize upd Gd x1 (.lst []) = Ge at ue ⊢
    refine ⟨_, rfl, C3.a, C3.dx, _, rfl, (cl3.same ue).at_, rfl, C3, es, rfl, cl3.same ue, fun x3 w3 Gf uf ff hf ef => ?_⟩
    have u4 := ue.trans uf
    refine ⟨_, rfl, x3, w3, l, ws, es, rfl, hf, ef, (sG.trans u4) _ _ hL, hR.same (sG.trans u4), fun Gg ug => ⟨_, rfl, iteT ?_⟩⟩
    have u5 := u4.trans ug
    refine ⟨_, rfl, C3.a, C3.dx, _, rfl, (cl3.same u5).at_, rfl, C3, es, rfl, cl3.same u5, fun x4 Gh uh hh => ?_⟩
    refine ⟨le_ble rfl, fun e1 he1 => ?_⟩
    have v1 := Same.new (o := HO.lst []) he1
    refine ⟨0, true, by decide, seqNil (SqL.of (v1 _ _ hh)) (SqL.of upd_same), _, rfl, iteT ?_⟩
    have u6 := u5.trans (uh.trans v1)
    generalize upd Gh e1 (.lst []) = Gi at u6 ⊢
    refine ⟨_, rfl, C3.a, C3.dx, _, rfl, (cl3.same u6).at_, rfl, C3, es, rfl, cl3.same u6, fun x5 Gj uj hj => ?_⟩
    refine ⟨le_ble rfl, fun e2 he2 => ?_⟩
    have v2 := Same.new (o := HO.lst []) he2
    exact ⟨0, true, by decide, seqNil (SqL.of (v2 _ _ hj)) (SqL.of upd_same), k _⟩

end
theorem all_mk {l : PySem.W.OpenLaw} {w : World} {K : PySem.W.Frag} {h : Heap} {mg : Str → Option Value} {fa : Addr} (X : K.In h) (G : h.Ns mainGlobals mg) (hfa : mg "law" = some (.ref fa))
    {f0 : Addr} {od0 an0 : Option Addr} {sl0 : Array (Option Value)} {oc0 kV0 dc0 pm0 cd0 ct0 : Value}
    {f1 : Addr} {od1 an1 : Option Addr} {sl1 : Array (Option Value)} {oc1 kV1 dc1 pm1 cd1 ct1 : Value}
    {f2 : Addr} {od2 an2 : Option Addr} {sl2 : Array (Option Value)} {oc2 kV2 dc2 pm2 cd2 ct2 : Value}
    {f3 : Addr} {od3 an3 : Option Addr} {sl3 : Array (Option Value)} {oc3 kV3 dc3 pm3 cd3 ct3 : Value}
    {f4 : Addr} {od4 an4 : Option Addr} {sl4 : Array (Option Value)} {oc4 kV4 dc4 pm4 cd4 ct4 : Value}
    {f5 : Addr} {od5 an5 : Option Addr} {sl5 : Array (Option Value)} {oc5 kV5 dc5 pm5 cd5 ct5 : Value}
    {f6 : Addr} {od6 an6 : Option Addr} {sl6 : Array (Option Value)} {oc6 kV6 dc6 pm6 cd6 ct6 : Value}
    {f7 : Addr} {od7 an7 : Option Addr} {sl7 : Array (Option Value)} {oc7 kV7 dc7 pm7 cd7 ct7 : Value}
    {f8 : Addr} {od8 an8 : Option Addr} {sl8 : Array (Option Value)} {oc8 kV8 dc8 pm8 cd8 ct8 : Value}
    {f9 : Addr} {od9 an9 : Option Addr} {sl9 : Array (Option Value)} {oc9 kV9 dc9 pm9 cd9 ct9 : Value}
    {f10 : Addr} {od10 an10 : Option Addr} {sl10 : Array (Option Value)} {oc10 kV10 dc10 pm10 cd10 ct10 : Value}
    {f11 : Addr} {od11 an11 : Option Addr} {sl11 : Array (Option Value)} {oc11 kV11 dc11 pm11 cd11 ct11 : Value}
    {f12 : Addr} {od12 an12 : Option Addr} {sl12 : Array (Option Value)} {oc12 kV12 dc12 pm12 cd12 ct12 : Value}
    {f13 : Addr} {od13 an13 : Option Addr} {sl13 : Array (Option Value)} {oc13 kV13 dc13 pm13 cd13 ct13 : Value}
    {f14 : Addr} {od14 an14 : Option Addr} {sl14 : Array (Option Value)} {oc14 kV14 dc14 pm14 cd14 ct14 : Value}
    {f15 : Addr} {od15 an15 : Option Addr} {sl15 : Array (Option Value)} {oc15 kV15 dc15 pm15 cd15 ct15 : Value}
    {f16 : Addr} {od16 an16 : Option Addr} {sl16 : Array (Option Value)} {oc16 kV16 dc16 pm16 cd16 ct16 : Value}
    {f17 : Addr} {od17 an17 : Option Addr} {sl17 : Array (Option Value)} {oc17 kV17 dc17 pm17 cd17 ct17 : Value}
    {f18 : Addr} {od18 an18 : Option Addr} {sl18 : Array (Option Value)} {oc18 kV18 dc18 pm18 cd18 ct18 : Value}
    {f19 : Addr} {od19 an19 : Option Addr} {sl19 : Array (Option Value)} {oc19 kV19 dc19 pm19 cd19 ct19 : Value}
    {f20 : Addr} {od20 an20 : Option Addr} {sl20 : Array (Option Value)} {oc20 kV20 dc20 pm20 cd20 ct20 : Value}
    {f21 : Addr} {od21 an21 : Option Addr} {sl21 : Array (Option Value)} {oc21 kV21 dc21 pm21 cd21 ct21 : Value}
    {f22 : Addr} {od22 an22 : Option Addr} {sl22 : Array (Option Value)} {oc22 kV22 dc22 pm22 cd22 ct22 : Value}
    {f23 : Addr} {od23 an23 : Option Addr} {sl23 : Array (Option Value)} {oc23 kV23 dc23 pm23 cd23 ct23 : Value}
    {f24 : Addr} {od24 an24 : Option Addr} {sl24 : Array (Option Value)} {oc24 kV24 dc24 pm24 cd24 ct24 : Value}
    {f25 : Addr} {od25 an25 : Option Addr} {sl25 : Array (Option Value)} {oc25 kV25 dc25 pm25 cd25 ct25 : Value}
    {f26 : Addr} {od26 an26 : Option Addr} {sl26 : Array (Option Value)} {oc26 kV26 dc26 pm26 cd26 ct26 : Value}
    {f27 : Addr} {od27 an27 : Option Addr} {sl27 : Array (Option Value)} {oc27 kV27 dc27 pm27 cd27 ct27 : Value}
    {f28 : Addr} {od28 an28 : Option Addr} {sl28 : Array (Option Value)} {oc28 kV28 dc28 pm28 cd28 ct28 : Value}
    {f29 : Addr} {od29 an29 : Option Addr} {sl29 : Array (Option Value)} {oc29 kV29 dc29 pm29 cd29 ct29 : Value}
    {f30 : Addr} {od30 an30 : Option Addr} {sl30 : Array (Option Value)} {oc30 kV30 dc30 pm30 cd30 ct30 : Value}
    {f31 : Addr} {od31 an31 : Option Addr} {sl31 : Array (Option Value)} {oc31 kV31 dc31 pm31 cd31 ct31 : Value}
    {f32 : Addr} {od32 an32 : Option Addr} {sl32 : Array (Option Value)} {oc32 kV32 dc32 pm32 cd32 ct32 : Value}
    {f33 : Addr} {od33 an33 : Option Addr} {sl33 : Array (Option Value)} {oc33 kV33 dc33 pm33 cd33 ct33 : Value}
    {c_Entry f_Entry t_Entry : Addr} {od_Entry an_Entry : Option Addr} {sl_Entry : Array (Option Value)} {oc_Entry kV_Entry dc_Entry pm_Entry cd_Entry ct_Entry : Value} {o_Entry : Obj} {n_Entry : Nat}
    {c_Results : Addr}
    {f_Results_init : Addr} {od_Results_init an_Results_init : Option Addr} {sl_Results_init : Array (Option Value)} {oc_Results_init kV_Results_init dc_Results_init pm_Results_init cd_Results_init ct_Results_init : Value}
    {c_Clerk : Addr}
    {f_Clerk_init : Addr} {od_Clerk_init an_Clerk_init : Option Addr} {sl_Clerk_init : Array (Option Value)} {oc_Clerk_init kV_Clerk_init dc_Clerk_init pm_Clerk_init cd_Clerk_init ct_Clerk_init : Value}
    {f_Results_put : Addr} {od_Results_put an_Results_put : Option Addr} {sl_Results_put : Array (Option Value)} {oc_Results_put kV_Results_put dc_Results_put pm_Results_put cd_Results_put ct_Results_put : Value}
    {f_Results_name_of : Addr} {od_Results_name_of an_Results_name_of : Option Addr} {sl_Results_name_of : Array (Option Value)} {oc_Results_name_of kV_Results_name_of dc_Results_name_of pm_Results_name_of cd_Results_name_of ct_Results_name_of : Value}
    {f_Results_outcome_of : Addr} {od_Results_outcome_of an_Results_outcome_of : Option Addr} {sl_Results_outcome_of : Array (Option Value)} {oc_Results_outcome_of kV_Results_outcome_of dc_Results_outcome_of pm_Results_outcome_of cd_Results_outcome_of ct_Results_outcome_of : Value}
    {f_Clerk_publish : Addr} {od_Clerk_publish an_Clerk_publish : Option Addr} {sl_Clerk_publish : Array (Option Value)} {oc_Clerk_publish kV_Clerk_publish dc_Clerk_publish pm_Clerk_publish cd_Clerk_publish ct_Clerk_publish : Value}
    {f_Clerk_book : Addr} {od_Clerk_book an_Clerk_book : Option Addr} {sl_Clerk_book : Array (Option Value)} {oc_Clerk_book kV_Clerk_book dc_Clerk_book pm_Clerk_book cd_Clerk_book ct_Clerk_book : Value}
    {f_Clerk_acts : Addr} {od_Clerk_acts an_Clerk_acts : Option Addr} {sl_Clerk_acts : Array (Option Value)} {oc_Clerk_acts kV_Clerk_acts dc_Clerk_acts pm_Clerk_acts cd_Clerk_acts ct_Clerk_acts : Value}
    {f_Clerk_sorting : Addr} {od_Clerk_sorting an_Clerk_sorting : Option Addr} {sl_Clerk_sorting : Array (Option Value)} {oc_Clerk_sorting kV_Clerk_sorting dc_Clerk_sorting pm_Clerk_sorting cd_Clerk_sorting ct_Clerk_sorting : Value}
    {u_MOST_LETTERS : Value}
    {u_LAST_DAY : Value}
    {u_LAST_NUMBER : Value}
    {u_RANKS : Addr} {o_RANKS : Obj} {i_RANKS : List Value} {n_RANKS : Nat}
    {u_ABOVE : Addr} {e_ABOVE : List DictEntry} {n_ABOVE : Nat}
    {c_NoRank : Addr}
    {c_NoNumber : Addr}
    {c_NoDay : Addr}
    {c_NoWord : Addr}
    {c_NoSorting : Addr}
    {c_NoEntry : Addr}
    {c_Late : Addr}
    {c_RightError : Addr}
    {c_NoAct : Addr}
    {c_NoSheet : Addr}
    {c_NoPath : Addr}
    {N_NoRank A_NoRank : Addr} {nm_NoRank q_NoRank : Str} {bs_NoRank : List Value} {hd_NoRank : Bool} {sn_NoRank : List Str} {sub_NoRank : List Value} {ab_NoRank : Bool} {col_NoRank : Option Bool} {dd_NoRank : Option Addr} {k0_NoRank k1_NoRank k2_NoRank k3_NoRank k5_NoRank : Option Value}
    {es_NoRank : Array DictEntry} {x1_NoRank : Value} {x2_NoRank : Option Addr} {x3_NoRank : Nat} {x4_NoRank : Array (Option Value)} {y0_NoRank : Value} {y1_NoRank : Option Addr} {y2_NoRank : ClassData} {y3_NoRank : Array (Option Value)} {et_NoRank : Array DictEntry} {z1_NoRank : Value} {z2_NoRank : Option Addr} {z3_NoRank : Nat} {z4_NoRank : Array (Option Value)}
    {N_NoNumber A_NoNumber : Addr} {nm_NoNumber q_NoNumber : Str} {bs_NoNumber : List Value} {hd_NoNumber : Bool} {sn_NoNumber : List Str} {sub_NoNumber : List Value} {ab_NoNumber : Bool} {col_NoNumber : Option Bool} {dd_NoNumber : Option Addr} {k0_NoNumber k1_NoNumber k2_NoNumber k3_NoNumber k5_NoNumber : Option Value}
    {es_NoNumber : Array DictEntry} {x1_NoNumber : Value} {x2_NoNumber : Option Addr} {x3_NoNumber : Nat} {x4_NoNumber : Array (Option Value)} {y0_NoNumber : Value} {y1_NoNumber : Option Addr} {y2_NoNumber : ClassData} {y3_NoNumber : Array (Option Value)} {et_NoNumber : Array DictEntry} {z1_NoNumber : Value} {z2_NoNumber : Option Addr} {z3_NoNumber : Nat} {z4_NoNumber : Array (Option Value)}
    {N_NoDay A_NoDay : Addr} {nm_NoDay q_NoDay : Str} {bs_NoDay : List Value} {hd_NoDay : Bool} {sn_NoDay : List Str} {sub_NoDay : List Value} {ab_NoDay : Bool} {col_NoDay : Option Bool} {dd_NoDay : Option Addr} {k0_NoDay k1_NoDay k2_NoDay k3_NoDay k5_NoDay : Option Value}
    {es_NoDay : Array DictEntry} {x1_NoDay : Value} {x2_NoDay : Option Addr} {x3_NoDay : Nat} {x4_NoDay : Array (Option Value)} {y0_NoDay : Value} {y1_NoDay : Option Addr} {y2_NoDay : ClassData} {y3_NoDay : Array (Option Value)} {et_NoDay : Array DictEntry} {z1_NoDay : Value} {z2_NoDay : Option Addr} {z3_NoDay : Nat} {z4_NoDay : Array (Option Value)}
    {N_NoWord A_NoWord : Addr} {nm_NoWord q_NoWord : Str} {bs_NoWord : List Value} {hd_NoWord : Bool} {sn_NoWord : List Str} {sub_NoWord : List Value} {ab_NoWord : Bool} {col_NoWord : Option Bool} {dd_NoWord : Option Addr} {k0_NoWord k1_NoWord k2_NoWord k3_NoWord k5_NoWord : Option Value}
    {es_NoWord : Array DictEntry} {x1_NoWord : Value} {x2_NoWord : Option Addr} {x3_NoWord : Nat} {x4_NoWord : Array (Option Value)} {y0_NoWord : Value} {y1_NoWord : Option Addr} {y2_NoWord : ClassData} {y3_NoWord : Array (Option Value)} {et_NoWord : Array DictEntry} {z1_NoWord : Value} {z2_NoWord : Option Addr} {z3_NoWord : Nat} {z4_NoWord : Array (Option Value)}
    {N_NoSorting A_NoSorting : Addr} {nm_NoSorting q_NoSorting : Str} {bs_NoSorting : List Value} {hd_NoSorting : Bool} {sn_NoSorting : List Str} {sub_NoSorting : List Value} {ab_NoSorting : Bool} {col_NoSorting : Option Bool} {dd_NoSorting : Option Addr} {k0_NoSorting k1_NoSorting k2_NoSorting k3_NoSorting k5_NoSorting : Option Value}
    {es_NoSorting : Array DictEntry} {x1_NoSorting : Value} {x2_NoSorting : Option Addr} {x3_NoSorting : Nat} {x4_NoSorting : Array (Option Value)} {y0_NoSorting : Value} {y1_NoSorting : Option Addr} {y2_NoSorting : ClassData} {y3_NoSorting : Array (Option Value)} {et_NoSorting : Array DictEntry} {z1_NoSorting : Value} {z2_NoSorting : Option Addr} {z3_NoSorting : Nat} {z4_NoSorting : Array (Option Value)}
    {N_NoEntry A_NoEntry : Addr} {nm_NoEntry q_NoEntry : Str} {bs_NoEntry : List Value} {hd_NoEntry : Bool} {sn_NoEntry : List Str} {sub_NoEntry : List Value} {ab_NoEntry : Bool} {col_NoEntry : Option Bool} {dd_NoEntry : Option Addr} {k0_NoEntry k1_NoEntry k2_NoEntry k3_NoEntry k5_NoEntry : Option Value}
    {es_NoEntry : Array DictEntry} {x1_NoEntry : Value} {x2_NoEntry : Option Addr} {x3_NoEntry : Nat} {x4_NoEntry : Array (Option Value)} {y0_NoEntry : Value} {y1_NoEntry : Option Addr} {y2_NoEntry : ClassData} {y3_NoEntry : Array (Option Value)} {et_NoEntry : Array DictEntry} {z1_NoEntry : Value} {z2_NoEntry : Option Addr} {z3_NoEntry : Nat} {z4_NoEntry : Array (Option Value)}
    {N_Late A_Late : Addr} {nm_Late q_Late : Str} {bs_Late : List Value} {hd_Late : Bool} {sn_Late : List Str} {sub_Late : List Value} {ab_Late : Bool} {col_Late : Option Bool} {dd_Late : Option Addr} {k0_Late k1_Late k2_Late k3_Late k5_Late : Option Value}
    {es_Late : Array DictEntry} {x1_Late : Value} {x2_Late : Option Addr} {x3_Late : Nat} {x4_Late : Array (Option Value)} {y0_Late : Value} {y1_Late : Option Addr} {y2_Late : ClassData} {y3_Late : Array (Option Value)} {et_Late : Array DictEntry} {z1_Late : Value} {z2_Late : Option Addr} {z3_Late : Nat} {z4_Late : Array (Option Value)}
    (a0 : PySem.W.nsIn K mainGlobals "is_whole" = some (some (.ref f0)))
    (l0 : K.lookup f0 = some ⟨oc0, od0, .func (PySem.W.fnOf "is_whole" "is_whole" (defArgs s_is_whole) (defBody s_is_whole) (defScope s_is_whole) .none kV0 dc0 pm0 an0 cd0 ct0), sl0⟩)
    (c0 : PySem.W.codeIn K cd0 "is_whole" = true)
    (k0 : PySem.W.keepIn K (.ref f0) = true)
    (a1 : PySem.W.nsIn K mainGlobals "is_day" = some (some (.ref f1)))
    (l1 : K.lookup f1 = some ⟨oc1, od1, .func (PySem.W.fnOf "is_day" "is_day" (defArgs s_is_day) (defBody s_is_day) (defScope s_is_day) .none kV1 dc1 pm1 an1 cd1 ct1), sl1⟩)
    (c1 : PySem.W.codeIn K cd1 "is_day" = true)
    (k1 : PySem.W.keepIn K (.ref f1) = true)
    (a2 : PySem.W.nsIn K mainGlobals "is_number" = some (some (.ref f2)))
    (l2 : K.lookup f2 = some ⟨oc2, od2, .func (PySem.W.fnOf "is_number" "is_number" (defArgs s_is_number) (defBody s_is_number) (defScope s_is_number) .none kV2 dc2 pm2 an2 cd2 ct2), sl2⟩)
    (c2 : PySem.W.codeIn K cd2 "is_number" = true)
    (k2 : PySem.W.keepIn K (.ref f2) = true)
    (a3 : PySem.W.nsIn K mainGlobals "is_word" = some (some (.ref f3)))
    (l3 : K.lookup f3 = some ⟨oc3, od3, .func (PySem.W.fnOf "is_word" "is_word" (defArgs s_is_word) (defBody s_is_word) (defScope s_is_word) .none kV3 dc3 pm3 an3 cd3 ct3), sl3⟩)
    (c3 : PySem.W.codeIn K cd3 "is_word" = true)
    (k3 : PySem.W.keepIn K (.ref f3) = true)
    (a4 : PySem.W.nsIn K mainGlobals "is_rank" = some (some (.ref f4)))
    (l4 : K.lookup f4 = some ⟨oc4, od4, .func (PySem.W.fnOf "is_rank" "is_rank" (defArgs s_is_rank) (defBody s_is_rank) (defScope s_is_rank) .none kV4 dc4 pm4 an4 cd4 ct4), sl4⟩)
    (c4 : PySem.W.codeIn K cd4 "is_rank" = true)
    (k4 : PySem.W.keepIn K (.ref f4) = true)
    (a5 : PySem.W.nsIn K mainGlobals "above" = some (some (.ref f5)))
    (l5 : K.lookup f5 = some ⟨oc5, od5, .func (PySem.W.fnOf "above" "above" (defArgs s_above) (defBody s_above) (defScope s_above) .none kV5 dc5 pm5 an5 cd5 ct5), sl5⟩)
    (c5 : PySem.W.codeIn K cd5 "above" = true)
    (k5 : PySem.W.keepIn K (.ref f5) = true)
    (a6 : PySem.W.nsIn K mainGlobals "refuse_head" = some (some (.ref f6)))
    (l6 : K.lookup f6 = some ⟨oc6, od6, .func (PySem.W.fnOf "refuse_head" "refuse_head" (defArgs s_refuse_head) (defBody s_refuse_head) (defScope s_refuse_head) .none kV6 dc6 pm6 an6 cd6 ct6), sl6⟩)
    (c6 : PySem.W.codeIn K cd6 "refuse_head" = true)
    (k6 : PySem.W.keepIn K (.ref f6) = true)
    (a7 : PySem.W.nsIn K mainGlobals "under_fits" = some (some (.ref f7)))
    (l7 : K.lookup f7 = some ⟨oc7, od7, .func (PySem.W.fnOf "under_fits" "under_fits" (defArgs s_under_fits) (defBody s_under_fits) (defScope s_under_fits) .none kV7 dc7 pm7 an7 cd7 ct7), sl7⟩)
    (c7 : PySem.W.codeIn K cd7 "under_fits" = true)
    (k7 : PySem.W.keepIn K (.ref f7) = true)
    (a8 : PySem.W.nsIn K mainGlobals "tie_fits" = some (some (.ref f8)))
    (l8 : K.lookup f8 = some ⟨oc8, od8, .func (PySem.W.fnOf "tie_fits" "tie_fits" (defArgs s_tie_fits) (defBody s_tie_fits) (defScope s_tie_fits) .none kV8 dc8 pm8 an8 cd8 ct8), sl8⟩)
    (c8 : PySem.W.codeIn K cd8 "tie_fits" = true)
    (k8 : PySem.W.keepIn K (.ref f8) = true)
    (a9 : PySem.W.nsIn K mainGlobals "ahead" = some (some (.ref f9)))
    (l9 : K.lookup f9 = some ⟨oc9, od9, .func (PySem.W.fnOf "ahead" "ahead" (defArgs s_ahead) (defBody s_ahead) (defScope s_ahead) .none kV9 dc9 pm9 an9 cd9 ct9), sl9⟩)
    (c9 : PySem.W.codeIn K cd9 "ahead" = true)
    (k9 : PySem.W.keepIn K (.ref f9) = true)
    (a10 : PySem.W.nsIn K mainGlobals "sorting_list" = some (some (.ref f10)))
    (l10 : K.lookup f10 = some ⟨oc10, od10, .func (PySem.W.fnOf "sorting_list" "sorting_list" (defArgs s_sorting_list) (defBody s_sorting_list) (defScope s_sorting_list) .none kV10 dc10 pm10 an10 cd10 ct10), sl10⟩)
    (c10 : PySem.W.codeIn K cd10 "sorting_list" = true)
    (k10 : PySem.W.keepIn K (.ref f10) = true)
    (a11 : PySem.W.nsIn K mainGlobals "group_list" = some (some (.ref f11)))
    (l11 : K.lookup f11 = some ⟨oc11, od11, .func (PySem.W.fnOf "group_list" "group_list" (defArgs s_group_list) (defBody s_group_list) (defScope s_group_list) .none kV11 dc11 pm11 an11 cd11 ct11), sl11⟩)
    (c11 : PySem.W.codeIn K cd11 "group_list" = true)
    (k11 : PySem.W.keepIn K (.ref f11) = true)
    (a12 : PySem.W.nsIn K mainGlobals "sheet_list" = some (some (.ref f12)))
    (l12 : K.lookup f12 = some ⟨oc12, od12, .func (PySem.W.fnOf "sheet_list" "sheet_list" (defArgs s_sheet_list) (defBody s_sheet_list) (defScope s_sheet_list) .none kV12 dc12 pm12 an12 cd12 ct12), sl12⟩)
    (c12 : PySem.W.codeIn K cd12 "sheet_list" = true)
    (k12 : PySem.W.keepIn K (.ref f12) = true)
    (a13 : PySem.W.nsIn K mainGlobals "_law_cell_at" = some (some (.ref f13)))
    (l13 : K.lookup f13 = some ⟨oc13, od13, .func (PySem.W.fnOf "_law_cell_at" "_law_cell_at" (defArgs s_Lcell_at) (defBody s_Lcell_at) (defScope s_Lcell_at) .none kV13 dc13 pm13 an13 cd13 ct13), sl13⟩)
    (c13 : PySem.W.codeIn K cd13 "_law_cell_at" = true)
    (k13 : PySem.W.keepIn K (.ref f13) = true)
    (a14 : PySem.W.nsIn K mainGlobals "_law_whole" = some (some (.ref f14)))
    (l14 : K.lookup f14 = some ⟨oc14, od14, .func (PySem.W.fnOf "_law_whole" "_law_whole" (defArgs s_Lwhole) (defBody s_Lwhole) (defScope s_Lwhole) .none kV14 dc14 pm14 an14 cd14 ct14), sl14⟩)
    (c14 : PySem.W.codeIn K cd14 "_law_whole" = true)
    (k14 : PySem.W.keepIn K (.ref f14) = true)
    (a15 : PySem.W.nsIn K mainGlobals "_law_mixed" = some (some (.ref f15)))
    (l15 : K.lookup f15 = some ⟨oc15, od15, .func (PySem.W.fnOf "_law_mixed" "_law_mixed" (defArgs s_Lmixed) (defBody s_Lmixed) (defScope s_Lmixed) .none kV15 dc15 pm15 an15 cd15 ct15), sl15⟩)
    (c15 : PySem.W.codeIn K cd15 "_law_mixed" = true)
    (k15 : PySem.W.keepIn K (.ref f15) = true)
    (a16 : PySem.W.nsIn K mainGlobals "_law_draws" = some (some (.ref f16)))
    (l16 : K.lookup f16 = some ⟨oc16, od16, .func (PySem.W.fnOf "_law_draws" "_law_draws" (defArgs s_Ldraws) (defBody s_Ldraws) (defScope s_Ldraws) .none kV16 dc16 pm16 an16 cd16 ct16), sl16⟩)
    (c16 : PySem.W.codeIn K cd16 "_law_draws" = true)
    (k16 : PySem.W.keepIn K (.ref f16) = true)
    (a17 : PySem.W.nsIn K mainGlobals "_law_words" = some (some (.ref f17)))
    (l17 : K.lookup f17 = some ⟨oc17, od17, .func (PySem.W.fnOf "_law_words" "_law_words" (defArgs s_Lwords) (defBody s_Lwords) (defScope s_Lwords) .none kV17 dc17 pm17 an17 cd17 ct17), sl17⟩)
    (c17 : PySem.W.codeIn K cd17 "_law_words" = true)
    (k17 : PySem.W.keepIn K (.ref f17) = true)
    (a18 : PySem.W.nsIn K mainGlobals "_law_any_word" = some (some (.ref f18)))
    (l18 : K.lookup f18 = some ⟨oc18, od18, .func (PySem.W.fnOf "_law_any_word" "_law_any_word" (defArgs s_Lany_word) (defBody s_Lany_word) (defScope s_Lany_word) .none kV18 dc18 pm18 an18 cd18 ct18), sl18⟩)
    (c18 : PySem.W.codeIn K cd18 "_law_any_word" = true)
    (k18 : PySem.W.keepIn K (.ref f18) = true)
    (a19 : PySem.W.nsIn K mainGlobals "_law_stamp" = some (some (.ref f19)))
    (l19 : K.lookup f19 = some ⟨oc19, od19, .func (PySem.W.fnOf "_law_stamp" "_law_stamp" (defArgs s_Lstamp) (defBody s_Lstamp) (defScope s_Lstamp) .none kV19 dc19 pm19 an19 cd19 ct19), sl19⟩)
    (c19 : PySem.W.codeIn K cd19 "_law_stamp" = true)
    (k19 : PySem.W.keepIn K (.ref f19) = true)
    (a20 : PySem.W.nsIn K mainGlobals "_law_pick" = some (some (.ref f20)))
    (l20 : K.lookup f20 = some ⟨oc20, od20, .func (PySem.W.fnOf "_law_pick" "_law_pick" (defArgs s_Lpick) (defBody s_Lpick) (defScope s_Lpick) .none kV20 dc20 pm20 an20 cd20 ct20), sl20⟩)
    (c20 : PySem.W.codeIn K cd20 "_law_pick" = true)
    (k20 : PySem.W.keepIn K (.ref f20) = true)
    (a21 : PySem.W.nsIn K mainGlobals "_law_base" = some (some (.ref f21)))
    (l21 : K.lookup f21 = some ⟨oc21, od21, .func (PySem.W.fnOf "_law_base" "_law_base" (defArgs s_Lbase) (defBody s_Lbase) (defScope s_Lbase) .none kV21 dc21 pm21 an21 cd21 ct21), sl21⟩)
    (c21 : PySem.W.codeIn K cd21 "_law_base" = true)
    (k21 : PySem.W.keepIn K (.ref f21) = true)
    (a22 : PySem.W.nsIn K mainGlobals "_law_entry" = some (some (.ref f22)))
    (l22 : K.lookup f22 = some ⟨oc22, od22, .func (PySem.W.fnOf "_law_entry" "_law_entry" (defArgs s_Lentry) (defBody s_Lentry) (defScope s_Lentry) .none kV22 dc22 pm22 an22 cd22 ct22), sl22⟩)
    (c22 : PySem.W.codeIn K cd22 "_law_entry" = true)
    (k22 : PySem.W.keepIn K (.ref f22) = true)
    (a23 : PySem.W.nsIn K mainGlobals "_law_book" = some (some (.ref f23)))
    (l23 : K.lookup f23 = some ⟨oc23, od23, .func (PySem.W.fnOf "_law_book" "_law_book" (defArgs s_Lbook) (defBody s_Lbook) (defScope s_Lbook) .none kV23 dc23 pm23 an23 cd23 ct23), sl23⟩)
    (c23 : PySem.W.codeIn K cd23 "_law_book" = true)
    (k23 : PySem.W.keepIn K (.ref f23) = true)
    (a24 : PySem.W.nsIn K mainGlobals "_law_made" = some (some (.ref f24)))
    (l24 : K.lookup f24 = some ⟨oc24, od24, .func (PySem.W.fnOf "_law_made" "_law_made" (defArgs s_Lmade) (defBody s_Lmade) (defScope s_Lmade) .none kV24 dc24 pm24 an24 cd24 ct24), sl24⟩)
    (c24 : PySem.W.codeIn K cd24 "_law_made" = true)
    (k24 : PySem.W.keepIn K (.ref f24) = true)
    (a25 : PySem.W.nsIn K mainGlobals "_law_up" = some (some (.ref f25)))
    (l25 : K.lookup f25 = some ⟨oc25, od25, .func (PySem.W.fnOf "_law_up" "_law_up" (defArgs s_Lup) (defBody s_Lup) (defScope s_Lup) .none kV25 dc25 pm25 an25 cd25 ct25), sl25⟩)
    (c25 : PySem.W.codeIn K cd25 "_law_up" = true)
    (k25 : PySem.W.keepIn K (.ref f25) = true)
    (a26 : PySem.W.nsIn K mainGlobals "_law_word_of" = some (some (.ref f26)))
    (l26 : K.lookup f26 = some ⟨oc26, od26, .func (PySem.W.fnOf "_law_word_of" "_law_word_of" (defArgs s_Lword_of) (defBody s_Lword_of) (defScope s_Lword_of) .none kV26 dc26 pm26 an26 cd26 ct26), sl26⟩)
    (c26 : PySem.W.codeIn K cd26 "_law_word_of" = true)
    (k26 : PySem.W.keepIn K (.ref f26) = true)
    (a27 : PySem.W.nsIn K mainGlobals "_law_sieved" = some (some (.ref f27)))
    (l27 : K.lookup f27 = some ⟨oc27, od27, .func (PySem.W.fnOf "_law_sieved" "_law_sieved" (defArgs s_Lsieved) (defBody s_Lsieved) (defScope s_Lsieved) .none kV27 dc27 pm27 an27 cd27 ct27), sl27⟩)
    (c27 : PySem.W.codeIn K cd27 "_law_sieved" = true)
    (k27 : PySem.W.keepIn K (.ref f27) = true)
    (a28 : PySem.W.nsIn K mainGlobals "_law_is_entry" = some (some (.ref f28)))
    (l28 : K.lookup f28 = some ⟨oc28, od28, .func (PySem.W.fnOf "_law_is_entry" "_law_is_entry" (defArgs s_Lis_entry) (defBody s_Lis_entry) (defScope s_Lis_entry) .none kV28 dc28 pm28 an28 cd28 ct28), sl28⟩)
    (c28 : PySem.W.codeIn K cd28 "_law_is_entry" = true)
    (k28 : PySem.W.keepIn K (.ref f28) = true)
    (a29 : PySem.W.nsIn K mainGlobals "_law_is_book" = some (some (.ref f29)))
    (l29 : K.lookup f29 = some ⟨oc29, od29, .func (PySem.W.fnOf "_law_is_book" "_law_is_book" (defArgs s_Lis_book) (defBody s_Lis_book) (defScope s_Lis_book) .none kV29 dc29 pm29 an29 cd29 ct29), sl29⟩)
    (c29 : PySem.W.codeIn K cd29 "_law_is_book" = true)
    (k29 : PySem.W.keepIn K (.ref f29) = true)
    (a30 : PySem.W.nsIn K mainGlobals "_law_kind" = some (some (.ref f30)))
    (l30 : K.lookup f30 = some ⟨oc30, od30, .func (PySem.W.fnOf "_law_kind" "_law_kind" (defArgs s_Lkind) (defBody s_Lkind) (defScope s_Lkind) .none kV30 dc30 pm30 an30 cd30 ct30), sl30⟩)
    (c30 : PySem.W.codeIn K cd30 "_law_kind" = true)
    (k30 : PySem.W.keepIn K (.ref f30) = true)
    (a31 : PySem.W.nsIn K mainGlobals "_law_refused" = some (some (.ref f31)))
    (l31 : K.lookup f31 = some ⟨oc31, od31, .func (PySem.W.fnOf "_law_refused" "_law_refused" (defArgs s_Lrefused) (defBody s_Lrefused) (defScope s_Lrefused) .none kV31 dc31 pm31 an31 cd31 ct31), sl31⟩)
    (c31 : PySem.W.codeIn K cd31 "_law_refused" = true)
    (k31 : PySem.W.keepIn K (.ref f31) = true)
    (a32 : PySem.W.nsIn K mainGlobals "_law_odd" = some (some (.ref f32)))
    (l32 : K.lookup f32 = some ⟨oc32, od32, .func (PySem.W.fnOf "_law_odd" "_law_odd" (defArgs s_Lodd) (defBody s_Lodd) (defScope s_Lodd) .none kV32 dc32 pm32 an32 cd32 ct32), sl32⟩)
    (c32 : PySem.W.codeIn K cd32 "_law_odd" = true)
    (k32 : PySem.W.keepIn K (.ref f32) = true)
    (a33 : PySem.W.nsIn K mainGlobals "law" = some (some (.ref f33)))
    (l33 : K.lookup f33 = some ⟨oc33, od33, .func (PySem.W.fnOf "law" "law" (defArgs s_law) (defBody s_law) (defScope s_law) .none kV33 dc33 pm33 an33 cd33 ct33), sl33⟩)
    (c33 : PySem.W.codeIn K cd33 "law" = true)
    (k33 : PySem.W.keepIn K (.ref f33) = true)
    (cg_Entry : PySem.W.nsIn K mainGlobals "Entry" = some (some (.ref c_Entry)))
    (pg_Entry : PySem.W.plainGet K c_Entry Str.empty = true)
    (hd_Entry : PySem.W.hasDictIn K c_Entry = true)
    (po_Entry : PySem.W.plainOver K c_Entry = true)
    (sa_Entry : PySem.W.findIn K (.ref c_Entry) "__setattr__" = some (some (.builtin "object.__setattr__")))
    (mk_Entry : PySem.W.makesIn K c_Entry = true)
    (in_Entry : PySem.W.findIn K (.ref c_Entry) "__init__" = some (some (.ref f_Entry)))
    (fn_Entry : PySem.W.isFn K (.ref f_Entry) = true)
    (kc_Entry : PySem.W.keepIn K (.ref c_Entry) = true)
    (kf_Entry : PySem.W.keepIn K (.ref f_Entry) = true)
    (lf_Entry : K.lookup f_Entry = some ⟨oc_Entry, od_Entry, .func (PySem.W.fnOf "__init__" "Entry.__init__" (defArgs s_Entry_init) (defBody s_Entry_init) (defScope s_Entry_init) (.ref t_Entry) kV_Entry dc_Entry pm_Entry an_Entry cd_Entry ct_Entry), sl_Entry⟩)
    (cf_Entry : PySem.W.codeIn K cd_Entry "Entry.__init__" = true)
    (lt_Entry : K.lookup t_Entry = some o_Entry)
    (dt_Entry : o_Entry.data = .seq #[.none, .none, .none, .bool true] n_Entry)
    (na_Entry_number : PySem.W.findIn K (.ref c_Entry) "number" = some none)
    (na_Entry_day : PySem.W.findIn K (.ref c_Entry) "day" = some none)
    (na_Entry_rank : PySem.W.findIn K (.ref c_Entry) "rank" = some none)
    (na_Entry_word : PySem.W.findIn K (.ref c_Entry) "word" = some none)
    (na_Entry_under : PySem.W.findIn K (.ref c_Entry) "under" = some none)
    (na_Entry_sheet : PySem.W.findIn K (.ref c_Entry) "sheet" = some none)
    (na_Entry_base : PySem.W.findIn K (.ref c_Entry) "base" = some none)
    (na_Entry_described : PySem.W.findIn K (.ref c_Entry) "described" = some none)
    (cg_Results : PySem.W.nsIn K mainGlobals "Results" = some (some (.ref c_Results)))
    (pg_Results : PySem.W.plainGet K c_Results Str.empty = true)
    (hd_Results : PySem.W.hasDictIn K c_Results = true)
    (po_Results : PySem.W.plainOver K c_Results = true)
    (sa_Results : PySem.W.findIn K (.ref c_Results) "__setattr__" = some (some (.builtin "object.__setattr__")))
    (kc_Results : PySem.W.keepIn K (.ref c_Results) = true)
    (mk_Results : PySem.W.makesIn K c_Results = true)
    (in_Results : PySem.W.findIn K (.ref c_Results) "__init__" = some (some (.ref f_Results_init)))
    (fn_Results : PySem.W.isFn K (.ref f_Results_init) = true)
    (l_Results_init : K.lookup f_Results_init = some ⟨oc_Results_init, od_Results_init, .func (PySem.W.fnOf "__init__" "Results.__init__" (defArgs s_Results_init) (defBody s_Results_init) (defScope s_Results_init) .none kV_Results_init dc_Results_init pm_Results_init an_Results_init cd_Results_init ct_Results_init), sl_Results_init⟩)
    (k_Results_init : PySem.W.codeIn K cd_Results_init "Results.__init__" = true)
    (p_Results_init : PySem.W.keepIn K (.ref f_Results_init) = true)
    (na_Results_outs : PySem.W.findIn K (.ref c_Results) "outs" = some none)
    (na_Results_names : PySem.W.findIn K (.ref c_Results) "names" = some none)
    (na_Results_rights : PySem.W.findIn K (.ref c_Results) "rights" = some none)
    (na_Results_holders : PySem.W.findIn K (.ref c_Results) "holders" = some none)
    (cg_Clerk : PySem.W.nsIn K mainGlobals "Clerk" = some (some (.ref c_Clerk)))
    (pg_Clerk : PySem.W.plainGet K c_Clerk Str.empty = true)
    (hd_Clerk : PySem.W.hasDictIn K c_Clerk = true)
    (po_Clerk : PySem.W.plainOver K c_Clerk = true)
    (sa_Clerk : PySem.W.findIn K (.ref c_Clerk) "__setattr__" = some (some (.builtin "object.__setattr__")))
    (kc_Clerk : PySem.W.keepIn K (.ref c_Clerk) = true)
    (mk_Clerk : PySem.W.makesIn K c_Clerk = true)
    (in_Clerk : PySem.W.findIn K (.ref c_Clerk) "__init__" = some (some (.ref f_Clerk_init)))
    (fn_Clerk : PySem.W.isFn K (.ref f_Clerk_init) = true)
    (l_Clerk_init : K.lookup f_Clerk_init = some ⟨oc_Clerk_init, od_Clerk_init, .func (PySem.W.fnOf "__init__" "Clerk.__init__" (defArgs s_Clerk_init) (defBody s_Clerk_init) (defScope s_Clerk_init) .none kV_Clerk_init dc_Clerk_init pm_Clerk_init an_Clerk_init cd_Clerk_init ct_Clerk_init), sl_Clerk_init⟩)
    (k_Clerk_init : PySem.W.codeIn K cd_Clerk_init "Clerk.__init__" = true)
    (p_Clerk_init : PySem.W.keepIn K (.ref f_Clerk_init) = true)
    (na_Clerk_entries : PySem.W.findIn K (.ref c_Clerk) "entries" = some none)
    (na_Clerk_results : PySem.W.findIn K (.ref c_Clerk) "results" = some none)
    (na_Clerk_deeds : PySem.W.findIn K (.ref c_Clerk) "deeds" = some none)
    (na_Clerk_piles : PySem.W.findIn K (.ref c_Clerk) "piles" = some none)
    (mf_Results_put : PySem.W.findIn K (.ref c_Results) "put" = some (some (.ref f_Results_put)))
    (mi_Results_put : PySem.W.isFn K (.ref f_Results_put) = true)
    (l_Results_put : K.lookup f_Results_put = some ⟨oc_Results_put, od_Results_put, .func (PySem.W.fnOf "put" "Results.put" (defArgs s_Results_put) (defBody s_Results_put) (defScope s_Results_put) .none kV_Results_put dc_Results_put pm_Results_put an_Results_put cd_Results_put ct_Results_put), sl_Results_put⟩)
    (k_Results_put : PySem.W.codeIn K cd_Results_put "Results.put" = true)
    (p_Results_put : PySem.W.keepIn K (.ref f_Results_put) = true)
    (mf_Results_name_of : PySem.W.findIn K (.ref c_Results) "name_of" = some (some (.ref f_Results_name_of)))
    (mi_Results_name_of : PySem.W.isFn K (.ref f_Results_name_of) = true)
    (l_Results_name_of : K.lookup f_Results_name_of = some ⟨oc_Results_name_of, od_Results_name_of, .func (PySem.W.fnOf "name_of" "Results.name_of" (defArgs s_Results_name_of) (defBody s_Results_name_of) (defScope s_Results_name_of) .none kV_Results_name_of dc_Results_name_of pm_Results_name_of an_Results_name_of cd_Results_name_of ct_Results_name_of), sl_Results_name_of⟩)
    (k_Results_name_of : PySem.W.codeIn K cd_Results_name_of "Results.name_of" = true)
    (p_Results_name_of : PySem.W.keepIn K (.ref f_Results_name_of) = true)
    (mf_Results_outcome_of : PySem.W.findIn K (.ref c_Results) "outcome_of" = some (some (.ref f_Results_outcome_of)))
    (mi_Results_outcome_of : PySem.W.isFn K (.ref f_Results_outcome_of) = true)
    (l_Results_outcome_of : K.lookup f_Results_outcome_of = some ⟨oc_Results_outcome_of, od_Results_outcome_of, .func (PySem.W.fnOf "outcome_of" "Results.outcome_of" (defArgs s_Results_outcome_of) (defBody s_Results_outcome_of) (defScope s_Results_outcome_of) .none kV_Results_outcome_of dc_Results_outcome_of pm_Results_outcome_of an_Results_outcome_of cd_Results_outcome_of ct_Results_outcome_of), sl_Results_outcome_of⟩)
    (k_Results_outcome_of : PySem.W.codeIn K cd_Results_outcome_of "Results.outcome_of" = true)
    (p_Results_outcome_of : PySem.W.keepIn K (.ref f_Results_outcome_of) = true)
    (mf_Clerk_publish : PySem.W.findIn K (.ref c_Clerk) "publish" = some (some (.ref f_Clerk_publish)))
    (mi_Clerk_publish : PySem.W.isFn K (.ref f_Clerk_publish) = true)
    (l_Clerk_publish : K.lookup f_Clerk_publish = some ⟨oc_Clerk_publish, od_Clerk_publish, .func (PySem.W.fnOf "publish" "Clerk.publish" (defArgs s_Clerk_publish) (defBody s_Clerk_publish) (defScope s_Clerk_publish) .none kV_Clerk_publish dc_Clerk_publish pm_Clerk_publish an_Clerk_publish cd_Clerk_publish ct_Clerk_publish), sl_Clerk_publish⟩)
    (k_Clerk_publish : PySem.W.codeIn K cd_Clerk_publish "Clerk.publish" = true)
    (p_Clerk_publish : PySem.W.keepIn K (.ref f_Clerk_publish) = true)
    (mf_Clerk_book : PySem.W.findIn K (.ref c_Clerk) "book" = some (some (.ref f_Clerk_book)))
    (mi_Clerk_book : PySem.W.isFn K (.ref f_Clerk_book) = true)
    (l_Clerk_book : K.lookup f_Clerk_book = some ⟨oc_Clerk_book, od_Clerk_book, .func (PySem.W.fnOf "book" "Clerk.book" (defArgs s_Clerk_book) (defBody s_Clerk_book) (defScope s_Clerk_book) .none kV_Clerk_book dc_Clerk_book pm_Clerk_book an_Clerk_book cd_Clerk_book ct_Clerk_book), sl_Clerk_book⟩)
    (k_Clerk_book : PySem.W.codeIn K cd_Clerk_book "Clerk.book" = true)
    (p_Clerk_book : PySem.W.keepIn K (.ref f_Clerk_book) = true)
    (mf_Clerk_acts : PySem.W.findIn K (.ref c_Clerk) "acts" = some (some (.ref f_Clerk_acts)))
    (mi_Clerk_acts : PySem.W.isFn K (.ref f_Clerk_acts) = true)
    (l_Clerk_acts : K.lookup f_Clerk_acts = some ⟨oc_Clerk_acts, od_Clerk_acts, .func (PySem.W.fnOf "acts" "Clerk.acts" (defArgs s_Clerk_acts) (defBody s_Clerk_acts) (defScope s_Clerk_acts) .none kV_Clerk_acts dc_Clerk_acts pm_Clerk_acts an_Clerk_acts cd_Clerk_acts ct_Clerk_acts), sl_Clerk_acts⟩)
    (k_Clerk_acts : PySem.W.codeIn K cd_Clerk_acts "Clerk.acts" = true)
    (p_Clerk_acts : PySem.W.keepIn K (.ref f_Clerk_acts) = true)
    (mf_Clerk_sorting : PySem.W.findIn K (.ref c_Clerk) "sorting" = some (some (.ref f_Clerk_sorting)))
    (mi_Clerk_sorting : PySem.W.isFn K (.ref f_Clerk_sorting) = true)
    (l_Clerk_sorting : K.lookup f_Clerk_sorting = some ⟨oc_Clerk_sorting, od_Clerk_sorting, .func (PySem.W.fnOf "sorting" "Clerk.sorting" (defArgs s_Clerk_sorting) (defBody s_Clerk_sorting) (defScope s_Clerk_sorting) .none kV_Clerk_sorting dc_Clerk_sorting pm_Clerk_sorting an_Clerk_sorting cd_Clerk_sorting ct_Clerk_sorting), sl_Clerk_sorting⟩)
    (k_Clerk_sorting : PySem.W.codeIn K cd_Clerk_sorting "Clerk.sorting" = true)
    (p_Clerk_sorting : PySem.W.keepIn K (.ref f_Clerk_sorting) = true)
    (cg_MOST_LETTERS : PySem.W.nsIn K mainGlobals "MOST_LETTERS" = some (some u_MOST_LETTERS))
    (cr_MOST_LETTERS : RelV (.int 12) u_MOST_LETTERS)
    (cg_LAST_DAY : PySem.W.nsIn K mainGlobals "LAST_DAY" = some (some u_LAST_DAY))
    (cr_LAST_DAY : RelV (.int 1000000) u_LAST_DAY)
    (cg_LAST_NUMBER : PySem.W.nsIn K mainGlobals "LAST_NUMBER" = some (some u_LAST_NUMBER))
    (cr_LAST_NUMBER : RelV (.int 1000000000) u_LAST_NUMBER)
    (cg_RANKS : PySem.W.nsIn K mainGlobals "RANKS" = some (some (.ref u_RANKS)))
    (cl_RANKS : K.lookup u_RANKS = some o_RANKS)
    (cc_RANKS : o_RANKS.cls = .type "tuple")
    (cd_RANKS : o_RANKS.data = .seq i_RANKS.toArray n_RANKS)
    (cv_RANKS : Vals [.str "genus", .str "species", .str "form"] i_RANKS)
    (cg_ABOVE : PySem.W.nsIn K mainGlobals "ABOVE" = some (some (.ref u_ABOVE)))
    (cl_ABOVE : K.lookup u_ABOVE = some ⟨.type "dict", none, .dict e_ABOVE.toArray n_ABOVE, #[]⟩)
    (cv_ABOVE : Paired (EntryIs w) ([("genus", .non), ("species", .str "genus"), ("form", .str "species")] : List (Str × V)) e_ABOVE)
    (cg_NoRank : PySem.W.nsIn K mainGlobals "NoRank" = some (some (.ref c_NoRank)))
    (cg_NoNumber : PySem.W.nsIn K mainGlobals "NoNumber" = some (some (.ref c_NoNumber)))
    (cg_NoDay : PySem.W.nsIn K mainGlobals "NoDay" = some (some (.ref c_NoDay)))
    (cg_NoWord : PySem.W.nsIn K mainGlobals "NoWord" = some (some (.ref c_NoWord)))
    (cg_NoSorting : PySem.W.nsIn K mainGlobals "NoSorting" = some (some (.ref c_NoSorting)))
    (cg_NoEntry : PySem.W.nsIn K mainGlobals "NoEntry" = some (some (.ref c_NoEntry)))
    (cg_Late : PySem.W.nsIn K mainGlobals "Late" = some (some (.ref c_Late)))
    (cg_RightError : PySem.W.nsIn K mainGlobals "RightError" = some (some (.ref c_RightError)))
    (cg_NoAct : PySem.W.nsIn K mainGlobals "NoAct" = some (some (.ref c_NoAct)))
    (cg_NoSheet : PySem.W.nsIn K mainGlobals "NoSheet" = some (some (.ref c_NoSheet)))
    (cg_NoPath : PySem.W.nsIn K mainGlobals "NoPath" = some (some (.ref c_NoPath)))
    (xl_NoRank : K.lookup c_NoRank = some (excClassObj nm_NoRank q_NoRank c_NoRank N_NoRank bs_NoRank (.ref A_NoRank :: vmro) hd_NoRank sn_NoRank sub_NoRank ab_NoRank col_NoRank dd_NoRank k0_NoRank k1_NoRank k2_NoRank k3_NoRank k5_NoRank "ValueError.__new__"))
    (xn_NoRank : K.lookup N_NoRank = some ⟨x1_NoRank, x2_NoRank, .dict es_NoRank x3_NoRank, x4_NoRank⟩)
    (xs_NoRank : strKeysB es_NoRank = true)
    (xi_NoRank : nsFind es_NoRank "__init__" = none)
    (xa_NoRank : K.lookup A_NoRank = some { cls := y0_NoRank, dict := y1_NoRank, data := .cls y2_NoRank, slots := y3_NoRank })
    (xb_NoRank : K.lookup y2_NoRank.ns = some ⟨z1_NoRank, z2_NoRank, .dict et_NoRank z3_NoRank, z4_NoRank⟩)
    (xt_NoRank : strKeysB et_NoRank = true)
    (xj_NoRank : nsFind et_NoRank "__init__" = none)
    (qcs_NoRank : (PySem.W.clsIn K c_NoRank).isSome = true)
    (qga_NoRank : PySem.W.findIn K (.ref c_NoRank) "__getattribute__" = some (some (.builtin "BaseException.__getattribute__")))
    (qgt_NoRank : PySem.W.findIn K (.ref c_NoRank) "__getattr__" = some none)
    (qca_NoRank : PySem.W.findIn K (.ref c_NoRank) "__class__" = some (some (.builtin "object.__class__")))
    (qgg_NoRank : PySem.W.specialIn K (.builtin "object.__class__") "__get__" = some (some (.builtin "getset_descriptor.__get__")))
    (qtk_NoRank : PySem.W.takesIn K (.builtin "object.__class__") = some true)
    (qmo_NoRank : PySem.W.mroIn K c_NoRank (.type "object") = some true)
    (qsb_NoRank : PySem.W.subIn K (.ref c_NoRank) (.type "BaseException") = some true)
    (i_NoRank_NoEntry : PySem.W.kitOne K (.ref c_NoRank) (.ref c_NoEntry) = some false)
    (i_NoRank_Late : PySem.W.kitOne K (.ref c_NoRank) (.ref c_Late) = some false)
    (i_NoRank_NoAct : PySem.W.kitOne K (.ref c_NoRank) (.ref c_NoAct) = some false)
    (i_NoRank_NoSheet : PySem.W.kitOne K (.ref c_NoRank) (.ref c_NoSheet) = some false)
    (i_NoRank_NoPath : PySem.W.kitOne K (.ref c_NoRank) (.ref c_NoPath) = some false)
    (i_NoRank_ValueError : PySem.W.kitOne K (.ref c_NoRank) (.type "ValueError") = some true)
    (e_NoRank_RightError : PySem.W.exmOne K (.ref c_NoRank) (.ref c_RightError) = some true)
    (xl_NoNumber : K.lookup c_NoNumber = some (excClassObj nm_NoNumber q_NoNumber c_NoNumber N_NoNumber bs_NoNumber (.ref A_NoNumber :: vmro) hd_NoNumber sn_NoNumber sub_NoNumber ab_NoNumber col_NoNumber dd_NoNumber k0_NoNumber k1_NoNumber k2_NoNumber k3_NoNumber k5_NoNumber "ValueError.__new__"))
    (xn_NoNumber : K.lookup N_NoNumber = some ⟨x1_NoNumber, x2_NoNumber, .dict es_NoNumber x3_NoNumber, x4_NoNumber⟩)
    (xs_NoNumber : strKeysB es_NoNumber = true)
    (xi_NoNumber : nsFind es_NoNumber "__init__" = none)
    (xa_NoNumber : K.lookup A_NoNumber = some { cls := y0_NoNumber, dict := y1_NoNumber, data := .cls y2_NoNumber, slots := y3_NoNumber })
    (xb_NoNumber : K.lookup y2_NoNumber.ns = some ⟨z1_NoNumber, z2_NoNumber, .dict et_NoNumber z3_NoNumber, z4_NoNumber⟩)
    (xt_NoNumber : strKeysB et_NoNumber = true)
    (xj_NoNumber : nsFind et_NoNumber "__init__" = none)
    (qcs_NoNumber : (PySem.W.clsIn K c_NoNumber).isSome = true)
    (qga_NoNumber : PySem.W.findIn K (.ref c_NoNumber) "__getattribute__" = some (some (.builtin "BaseException.__getattribute__")))
    (qgt_NoNumber : PySem.W.findIn K (.ref c_NoNumber) "__getattr__" = some none)
    (qca_NoNumber : PySem.W.findIn K (.ref c_NoNumber) "__class__" = some (some (.builtin "object.__class__")))
    (qgg_NoNumber : PySem.W.specialIn K (.builtin "object.__class__") "__get__" = some (some (.builtin "getset_descriptor.__get__")))
    (qtk_NoNumber : PySem.W.takesIn K (.builtin "object.__class__") = some true)
    (qmo_NoNumber : PySem.W.mroIn K c_NoNumber (.type "object") = some true)
    (qsb_NoNumber : PySem.W.subIn K (.ref c_NoNumber) (.type "BaseException") = some true)
    (i_NoNumber_NoEntry : PySem.W.kitOne K (.ref c_NoNumber) (.ref c_NoEntry) = some false)
    (i_NoNumber_Late : PySem.W.kitOne K (.ref c_NoNumber) (.ref c_Late) = some false)
    (i_NoNumber_NoAct : PySem.W.kitOne K (.ref c_NoNumber) (.ref c_NoAct) = some false)
    (i_NoNumber_NoSheet : PySem.W.kitOne K (.ref c_NoNumber) (.ref c_NoSheet) = some false)
    (i_NoNumber_NoPath : PySem.W.kitOne K (.ref c_NoNumber) (.ref c_NoPath) = some false)
    (i_NoNumber_ValueError : PySem.W.kitOne K (.ref c_NoNumber) (.type "ValueError") = some true)
    (e_NoNumber_RightError : PySem.W.exmOne K (.ref c_NoNumber) (.ref c_RightError) = some true)
    (xl_NoDay : K.lookup c_NoDay = some (excClassObj nm_NoDay q_NoDay c_NoDay N_NoDay bs_NoDay (.ref A_NoDay :: vmro) hd_NoDay sn_NoDay sub_NoDay ab_NoDay col_NoDay dd_NoDay k0_NoDay k1_NoDay k2_NoDay k3_NoDay k5_NoDay "ValueError.__new__"))
    (xn_NoDay : K.lookup N_NoDay = some ⟨x1_NoDay, x2_NoDay, .dict es_NoDay x3_NoDay, x4_NoDay⟩)
    (xs_NoDay : strKeysB es_NoDay = true)
    (xi_NoDay : nsFind es_NoDay "__init__" = none)
    (xa_NoDay : K.lookup A_NoDay = some { cls := y0_NoDay, dict := y1_NoDay, data := .cls y2_NoDay, slots := y3_NoDay })
    (xb_NoDay : K.lookup y2_NoDay.ns = some ⟨z1_NoDay, z2_NoDay, .dict et_NoDay z3_NoDay, z4_NoDay⟩)
    (xt_NoDay : strKeysB et_NoDay = true)
    (xj_NoDay : nsFind et_NoDay "__init__" = none)
    (qcs_NoDay : (PySem.W.clsIn K c_NoDay).isSome = true)
    (qga_NoDay : PySem.W.findIn K (.ref c_NoDay) "__getattribute__" = some (some (.builtin "BaseException.__getattribute__")))
    (qgt_NoDay : PySem.W.findIn K (.ref c_NoDay) "__getattr__" = some none)
    (qca_NoDay : PySem.W.findIn K (.ref c_NoDay) "__class__" = some (some (.builtin "object.__class__")))
    (qgg_NoDay : PySem.W.specialIn K (.builtin "object.__class__") "__get__" = some (some (.builtin "getset_descriptor.__get__")))
    (qtk_NoDay : PySem.W.takesIn K (.builtin "object.__class__") = some true)
    (qmo_NoDay : PySem.W.mroIn K c_NoDay (.type "object") = some true)
    (qsb_NoDay : PySem.W.subIn K (.ref c_NoDay) (.type "BaseException") = some true)
    (i_NoDay_NoEntry : PySem.W.kitOne K (.ref c_NoDay) (.ref c_NoEntry) = some false)
    (i_NoDay_Late : PySem.W.kitOne K (.ref c_NoDay) (.ref c_Late) = some false)
    (i_NoDay_NoAct : PySem.W.kitOne K (.ref c_NoDay) (.ref c_NoAct) = some false)
    (i_NoDay_NoSheet : PySem.W.kitOne K (.ref c_NoDay) (.ref c_NoSheet) = some false)
    (i_NoDay_NoPath : PySem.W.kitOne K (.ref c_NoDay) (.ref c_NoPath) = some false)
    (i_NoDay_ValueError : PySem.W.kitOne K (.ref c_NoDay) (.type "ValueError") = some true)
    (e_NoDay_RightError : PySem.W.exmOne K (.ref c_NoDay) (.ref c_RightError) = some true)
    (xl_NoWord : K.lookup c_NoWord = some (excClassObj nm_NoWord q_NoWord c_NoWord N_NoWord bs_NoWord (.ref A_NoWord :: vmro) hd_NoWord sn_NoWord sub_NoWord ab_NoWord col_NoWord dd_NoWord k0_NoWord k1_NoWord k2_NoWord k3_NoWord k5_NoWord "ValueError.__new__"))
    (xn_NoWord : K.lookup N_NoWord = some ⟨x1_NoWord, x2_NoWord, .dict es_NoWord x3_NoWord, x4_NoWord⟩)
    (xs_NoWord : strKeysB es_NoWord = true)
    (xi_NoWord : nsFind es_NoWord "__init__" = none)
    (xa_NoWord : K.lookup A_NoWord = some { cls := y0_NoWord, dict := y1_NoWord, data := .cls y2_NoWord, slots := y3_NoWord })
    (xb_NoWord : K.lookup y2_NoWord.ns = some ⟨z1_NoWord, z2_NoWord, .dict et_NoWord z3_NoWord, z4_NoWord⟩)
    (xt_NoWord : strKeysB et_NoWord = true)
    (xj_NoWord : nsFind et_NoWord "__init__" = none)
    (qcs_NoWord : (PySem.W.clsIn K c_NoWord).isSome = true)
    (qga_NoWord : PySem.W.findIn K (.ref c_NoWord) "__getattribute__" = some (some (.builtin "BaseException.__getattribute__")))
    (qgt_NoWord : PySem.W.findIn K (.ref c_NoWord) "__getattr__" = some none)
    (qca_NoWord : PySem.W.findIn K (.ref c_NoWord) "__class__" = some (some (.builtin "object.__class__")))
    (qgg_NoWord : PySem.W.specialIn K (.builtin "object.__class__") "__get__" = some (some (.builtin "getset_descriptor.__get__")))
    (qtk_NoWord : PySem.W.takesIn K (.builtin "object.__class__") = some true)
    (qmo_NoWord : PySem.W.mroIn K c_NoWord (.type "object") = some true)
    (qsb_NoWord : PySem.W.subIn K (.ref c_NoWord) (.type "BaseException") = some true)
    (i_NoWord_NoEntry : PySem.W.kitOne K (.ref c_NoWord) (.ref c_NoEntry) = some false)
    (i_NoWord_Late : PySem.W.kitOne K (.ref c_NoWord) (.ref c_Late) = some false)
    (i_NoWord_NoAct : PySem.W.kitOne K (.ref c_NoWord) (.ref c_NoAct) = some false)
    (i_NoWord_NoSheet : PySem.W.kitOne K (.ref c_NoWord) (.ref c_NoSheet) = some false)
    (i_NoWord_NoPath : PySem.W.kitOne K (.ref c_NoWord) (.ref c_NoPath) = some false)
    (i_NoWord_ValueError : PySem.W.kitOne K (.ref c_NoWord) (.type "ValueError") = some true)
    (e_NoWord_RightError : PySem.W.exmOne K (.ref c_NoWord) (.ref c_RightError) = some true)
    (xl_NoSorting : K.lookup c_NoSorting = some (excClassObj nm_NoSorting q_NoSorting c_NoSorting N_NoSorting bs_NoSorting (.ref A_NoSorting :: vmro) hd_NoSorting sn_NoSorting sub_NoSorting ab_NoSorting col_NoSorting dd_NoSorting k0_NoSorting k1_NoSorting k2_NoSorting k3_NoSorting k5_NoSorting "ValueError.__new__"))
    (xn_NoSorting : K.lookup N_NoSorting = some ⟨x1_NoSorting, x2_NoSorting, .dict es_NoSorting x3_NoSorting, x4_NoSorting⟩)
    (xs_NoSorting : strKeysB es_NoSorting = true)
    (xi_NoSorting : nsFind es_NoSorting "__init__" = none)
    (xa_NoSorting : K.lookup A_NoSorting = some { cls := y0_NoSorting, dict := y1_NoSorting, data := .cls y2_NoSorting, slots := y3_NoSorting })
    (xb_NoSorting : K.lookup y2_NoSorting.ns = some ⟨z1_NoSorting, z2_NoSorting, .dict et_NoSorting z3_NoSorting, z4_NoSorting⟩)
    (xt_NoSorting : strKeysB et_NoSorting = true)
    (xj_NoSorting : nsFind et_NoSorting "__init__" = none)
    (qcs_NoSorting : (PySem.W.clsIn K c_NoSorting).isSome = true)
    (qga_NoSorting : PySem.W.findIn K (.ref c_NoSorting) "__getattribute__" = some (some (.builtin "BaseException.__getattribute__")))
    (qgt_NoSorting : PySem.W.findIn K (.ref c_NoSorting) "__getattr__" = some none)
    (qca_NoSorting : PySem.W.findIn K (.ref c_NoSorting) "__class__" = some (some (.builtin "object.__class__")))
    (qgg_NoSorting : PySem.W.specialIn K (.builtin "object.__class__") "__get__" = some (some (.builtin "getset_descriptor.__get__")))
    (qtk_NoSorting : PySem.W.takesIn K (.builtin "object.__class__") = some true)
    (qmo_NoSorting : PySem.W.mroIn K c_NoSorting (.type "object") = some true)
    (qsb_NoSorting : PySem.W.subIn K (.ref c_NoSorting) (.type "BaseException") = some true)
    (i_NoSorting_NoEntry : PySem.W.kitOne K (.ref c_NoSorting) (.ref c_NoEntry) = some false)
    (i_NoSorting_Late : PySem.W.kitOne K (.ref c_NoSorting) (.ref c_Late) = some false)
    (i_NoSorting_NoAct : PySem.W.kitOne K (.ref c_NoSorting) (.ref c_NoAct) = some false)
    (i_NoSorting_NoSheet : PySem.W.kitOne K (.ref c_NoSorting) (.ref c_NoSheet) = some false)
    (i_NoSorting_NoPath : PySem.W.kitOne K (.ref c_NoSorting) (.ref c_NoPath) = some false)
    (i_NoSorting_ValueError : PySem.W.kitOne K (.ref c_NoSorting) (.type "ValueError") = some true)
    (e_NoSorting_RightError : PySem.W.exmOne K (.ref c_NoSorting) (.ref c_RightError) = some true)
    (xl_NoEntry : K.lookup c_NoEntry = some (excClassObj nm_NoEntry q_NoEntry c_NoEntry N_NoEntry bs_NoEntry (.ref A_NoEntry :: vmro) hd_NoEntry sn_NoEntry sub_NoEntry ab_NoEntry col_NoEntry dd_NoEntry k0_NoEntry k1_NoEntry k2_NoEntry k3_NoEntry k5_NoEntry "ValueError.__new__"))
    (xn_NoEntry : K.lookup N_NoEntry = some ⟨x1_NoEntry, x2_NoEntry, .dict es_NoEntry x3_NoEntry, x4_NoEntry⟩)
    (xs_NoEntry : strKeysB es_NoEntry = true)
    (xi_NoEntry : nsFind es_NoEntry "__init__" = none)
    (xa_NoEntry : K.lookup A_NoEntry = some { cls := y0_NoEntry, dict := y1_NoEntry, data := .cls y2_NoEntry, slots := y3_NoEntry })
    (xb_NoEntry : K.lookup y2_NoEntry.ns = some ⟨z1_NoEntry, z2_NoEntry, .dict et_NoEntry z3_NoEntry, z4_NoEntry⟩)
    (xt_NoEntry : strKeysB et_NoEntry = true)
    (xj_NoEntry : nsFind et_NoEntry "__init__" = none)
    (qcs_NoEntry : (PySem.W.clsIn K c_NoEntry).isSome = true)
    (qga_NoEntry : PySem.W.findIn K (.ref c_NoEntry) "__getattribute__" = some (some (.builtin "BaseException.__getattribute__")))
    (qgt_NoEntry : PySem.W.findIn K (.ref c_NoEntry) "__getattr__" = some none)
    (qca_NoEntry : PySem.W.findIn K (.ref c_NoEntry) "__class__" = some (some (.builtin "object.__class__")))
    (qgg_NoEntry : PySem.W.specialIn K (.builtin "object.__class__") "__get__" = some (some (.builtin "getset_descriptor.__get__")))
    (qtk_NoEntry : PySem.W.takesIn K (.builtin "object.__class__") = some true)
    (qmo_NoEntry : PySem.W.mroIn K c_NoEntry (.type "object") = some true)
    (qsb_NoEntry : PySem.W.subIn K (.ref c_NoEntry) (.type "BaseException") = some true)
    (i_NoEntry_NoEntry : PySem.W.kitOne K (.ref c_NoEntry) (.ref c_NoEntry) = some true)
    (i_NoEntry_Late : PySem.W.kitOne K (.ref c_NoEntry) (.ref c_Late) = some false)
    (i_NoEntry_NoAct : PySem.W.kitOne K (.ref c_NoEntry) (.ref c_NoAct) = some false)
    (i_NoEntry_NoSheet : PySem.W.kitOne K (.ref c_NoEntry) (.ref c_NoSheet) = some false)
    (i_NoEntry_NoPath : PySem.W.kitOne K (.ref c_NoEntry) (.ref c_NoPath) = some false)
    (i_NoEntry_ValueError : PySem.W.kitOne K (.ref c_NoEntry) (.type "ValueError") = some true)
    (e_NoEntry_RightError : PySem.W.exmOne K (.ref c_NoEntry) (.ref c_RightError) = some true)
    (xl_Late : K.lookup c_Late = some (excClassObj nm_Late q_Late c_Late N_Late bs_Late (.ref A_Late :: vmro) hd_Late sn_Late sub_Late ab_Late col_Late dd_Late k0_Late k1_Late k2_Late k3_Late k5_Late "ValueError.__new__"))
    (xn_Late : K.lookup N_Late = some ⟨x1_Late, x2_Late, .dict es_Late x3_Late, x4_Late⟩)
    (xs_Late : strKeysB es_Late = true)
    (xi_Late : nsFind es_Late "__init__" = none)
    (xa_Late : K.lookup A_Late = some { cls := y0_Late, dict := y1_Late, data := .cls y2_Late, slots := y3_Late })
    (xb_Late : K.lookup y2_Late.ns = some ⟨z1_Late, z2_Late, .dict et_Late z3_Late, z4_Late⟩)
    (xt_Late : strKeysB et_Late = true)
    (xj_Late : nsFind et_Late "__init__" = none)
    (qcs_Late : (PySem.W.clsIn K c_Late).isSome = true)
    (qga_Late : PySem.W.findIn K (.ref c_Late) "__getattribute__" = some (some (.builtin "BaseException.__getattribute__")))
    (qgt_Late : PySem.W.findIn K (.ref c_Late) "__getattr__" = some none)
    (qca_Late : PySem.W.findIn K (.ref c_Late) "__class__" = some (some (.builtin "object.__class__")))
    (qgg_Late : PySem.W.specialIn K (.builtin "object.__class__") "__get__" = some (some (.builtin "getset_descriptor.__get__")))
    (qtk_Late : PySem.W.takesIn K (.builtin "object.__class__") = some true)
    (qmo_Late : PySem.W.mroIn K c_Late (.type "object") = some true)
    (qsb_Late : PySem.W.subIn K (.ref c_Late) (.type "BaseException") = some true)
    (i_Late_NoEntry : PySem.W.kitOne K (.ref c_Late) (.ref c_NoEntry) = some false)
    (i_Late_Late : PySem.W.kitOne K (.ref c_Late) (.ref c_Late) = some true)
    (i_Late_NoAct : PySem.W.kitOne K (.ref c_Late) (.ref c_NoAct) = some false)
    (i_Late_NoSheet : PySem.W.kitOne K (.ref c_Late) (.ref c_NoSheet) = some false)
    (i_Late_NoPath : PySem.W.kitOne K (.ref c_Late) (.ref c_NoPath) = some false)
    (i_Late_ValueError : PySem.W.kitOne K (.ref c_Late) (.type "ValueError") = some true)
    (e_Late_RightError : PySem.W.exmOne K (.ref c_Late) (.ref c_RightError) = some true)
    (wc_Entry : PySem.W.findIn K (.ref c_Entry) "__class__" = some (some (.builtin "object.__class__")))
    (wg_Entry : PySem.W.specialIn K (.builtin "object.__class__") "__get__" = some (some (.builtin "getset_descriptor.__get__")))
    (wt_Entry : PySem.W.takesIn K (.builtin "object.__class__") = some true)
    (wm_Entry : PySem.W.mroIn K c_Entry (.type "object") = some true)
    (ws_Entry : PySem.W.kitOne K (.ref c_Entry) (.ref c_Entry) = some true)
    (wn_Entry_NoneType : PySem.W.kitOne K (.type "NoneType") (.ref c_Entry) = some false)
    (wn_Entry_int : PySem.W.kitOne K (.type "int") (.ref c_Entry) = some false)
    (wn_Entry_str : PySem.W.kitOne K (.type "str") (.ref c_Entry) = some false)
    (wn_Entry_bool : PySem.W.kitOne K (.type "bool") (.ref c_Entry) = some false)
    (wn_Entry_list : PySem.W.kitOne K (.type "list") (.ref c_Entry) = some false)
    (wn_Entry_tuple : PySem.W.kitOne K (.type "tuple") (.ref c_Entry) = some false)
    (wn_Entry_dict : PySem.W.kitOne K (.type "dict") (.ref c_Entry) = some false)
    (z_len : PySem.W.nsIn K mainGlobals "len" = some none)
    (z_isinstance : PySem.W.nsIn K mainGlobals "isinstance" = some none)
    (z_str : PySem.W.nsIn K mainGlobals "str" = some none)
    (z_bool : PySem.W.nsIn K mainGlobals "bool" = some none)
    (z_all : PySem.W.nsIn K mainGlobals "all" = some none)
    (z_range : PySem.W.nsIn K mainGlobals "range" = some none)
    (z_int : PySem.W.nsIn K mainGlobals "int" = some none)
    (z_list : PySem.W.nsIn K mainGlobals "list" = some none)
    (z_min : PySem.W.nsIn K mainGlobals "min" = some none)
    (z_max : PySem.W.nsIn K mainGlobals "max" = some none)
    (z_dict : PySem.W.nsIn K mainGlobals "dict" = some none)
    (z_zip : PySem.W.nsIn K mainGlobals "zip" = some none)
    (z_ValueError : PySem.W.nsIn K mainGlobals "ValueError" = some none)
    : ∃ fd : FuncData, (∀ (s : Shared) (v : Value), BindsTo s fd ⟨[v], []⟩ [("_law_script", v)]) ∧ ∀ base : Heap, K.In base → base.Ns mainGlobals mg → FnOk l.prog w K mg base CX0 8 fa fd ["_law_script"] (spLaw K) := by
  have e := hfa.symm.trans (PySem.W.mg_of X G a33)
  cases e
  have F0 := fun_mk (st := s_is_whole) l0 c0 k0
  have b0 := F0.binds (ps := ["thing"]) fun _ _ _ _ _ _ us hl => by
    obtain ⟨a0, us0, rfl, g0⟩ := lenS hl
    obtain rfl := len0 g0
    rfl
  have F1 := fun_mk (st := s_is_day) l1 c1 k1
  have b1 := F1.binds (ps := ["thing"]) fun _ _ _ _ _ _ us hl => by
    obtain ⟨a0, us0, rfl, g0⟩ := lenS hl
    obtain rfl := len0 g0
    rfl
  have F2 := fun_mk (st := s_is_number) l2 c2 k2
  have b2 := F2.binds (ps := ["thing"]) fun _ _ _ _ _ _ us hl => by
    obtain ⟨a0, us0, rfl, g0⟩ := lenS hl
    obtain rfl := len0 g0
    rfl
  have F3 := fun_mk (st := s_is_word) l3 c3 k3
  have b3 := F3.binds (ps := ["thing"]) fun _ _ _ _ _ _ us hl => by
    obtain ⟨a0, us0, rfl, g0⟩ := lenS hl
    obtain rfl := len0 g0
    rfl
  have F4 := fun_mk (st := s_is_rank) l4 c4 k4
  have b4 := F4.binds (ps := ["thing"]) fun _ _ _ _ _ _ us hl => by
    obtain ⟨a0, us0, rfl, g0⟩ := lenS hl
    obtain rfl := len0 g0
    rfl
  have F5 := fun_mk (st := s_above) l5 c5 k5
  have b5 := F5.binds (ps := ["rank"]) fun _ _ _ _ _ _ us hl => by
    obtain ⟨a0, us0, rfl, g0⟩ := lenS hl
    obtain rfl := len0 g0
    rfl
  have F6 := fun_mk (st := s_refuse_head) l6 c6 k6
  have b6 := F6.binds (ps := ["number", "day", "rank", "word"]) fun _ _ _ _ _ _ us hl => by
    obtain ⟨a0, us0, rfl, g0⟩ := lenS hl
    obtain ⟨a1, us1, rfl, g1⟩ := lenS g0
    obtain ⟨a2, us2, rfl, g2⟩ := lenS g1
    obtain ⟨a3, us3, rfl, g3⟩ := lenS g2
    obtain rfl := len0 g3
    rfl
  have F7 := fun_mk (st := s_under_fits) l7 c7 k7
  have b7 := F7.binds (ps := ["rank", "under"]) fun _ _ _ _ _ _ us hl => by
    obtain ⟨a0, us0, rfl, g0⟩ := lenS hl
    obtain ⟨a1, us1, rfl, g1⟩ := lenS g0
    obtain rfl := len0 g1
    rfl
  have F8 := fun_mk (st := s_tie_fits) l8 c8 k8
  have b8 := F8.binds (ps := ["rank", "sheet", "base"]) fun _ _ _ _ _ _ us hl => by
    obtain ⟨a0, us0, rfl, g0⟩ := lenS hl
    obtain ⟨a1, us1, rfl, g1⟩ := lenS g0
    obtain ⟨a2, us2, rfl, g2⟩ := lenS g1
    obtain rfl := len0 g2
    rfl
  have F9 := fun_mk (st := s_ahead) l9 c9 k9
  have b9 := F9.binds (ps := ["one", "other"]) fun _ _ _ _ _ _ us hl => by
    obtain ⟨a0, us0, rfl, g0⟩ := lenS hl
    obtain ⟨a1, us1, rfl, g1⟩ := lenS g0
    obtain rfl := len0 g1
    rfl
  have F10 := fun_mk (st := s_sorting_list) l10 c10 k10
  have b10 := F10.binds (ps := ["sorting"]) fun _ _ _ _ _ _ us hl => by
    obtain ⟨a0, us0, rfl, g0⟩ := lenS hl
    obtain rfl := len0 g0
    rfl
  have F11 := fun_mk (st := s_group_list) l11 c11 k11
  have b11 := F11.binds (ps := ["group", "depth", "seen"]) fun _ _ _ _ _ _ us hl => by
    obtain ⟨a0, us0, rfl, g0⟩ := lenS hl
    obtain ⟨a1, us1, rfl, g1⟩ := lenS g0
    obtain ⟨a2, us2, rfl, g2⟩ := lenS g1
    obtain rfl := len0 g2
    rfl
  have F12 := fun_mk (st := s_sheet_list) l12 c12 k12
  have b12 := F12.binds (ps := ["sheets", "seen"]) fun _ _ _ _ _ _ us hl => by
    obtain ⟨a0, us0, rfl, g0⟩ := lenS hl
    obtain ⟨a1, us1, rfl, g1⟩ := lenS g0
    obtain rfl := len0 g1
    rfl
  have F13 := fun_mk (st := s_Lcell_at) l13 c13 k13
  have b13 := F13.binds (ps := ["_law_script", "_law_k"]) fun _ _ _ _ _ _ us hl => by
    obtain ⟨a0, us0, rfl, g0⟩ := lenS hl
    obtain ⟨a1, us1, rfl, g1⟩ := lenS g0
    obtain rfl := len0 g1
    rfl
  have F14 := fun_mk (st := s_Lwhole) l14 c14 k14
  have b14 := F14.binds (ps := ["_law_found"]) fun _ _ _ _ _ _ us hl => by
    obtain ⟨a0, us0, rfl, g0⟩ := lenS hl
    obtain rfl := len0 g0
    rfl
  have F15 := fun_mk (st := s_Lmixed) l15 c15 k15
  have b15 := F15.binds (ps := ["_law_cell", "_law_k"]) fun _ _ _ _ _ _ us hl => by
    obtain ⟨a0, us0, rfl, g0⟩ := lenS hl
    obtain ⟨a1, us1, rfl, g1⟩ := lenS g0
    obtain rfl := len0 g1
    rfl
  have F16 := fun_mk (st := s_Ldraws) l16 c16 k16
  have b16 := F16.binds (ps := ["_law_cell", "_law_k", "_law_free"]) fun _ _ _ _ _ _ us hl => by
    obtain ⟨a0, us0, rfl, g0⟩ := lenS hl
    obtain ⟨a1, us1, rfl, g1⟩ := lenS g0
    obtain ⟨a2, us2, rfl, g2⟩ := lenS g1
    obtain rfl := len0 g2
    rfl
  have F17 := fun_mk (st := s_Lwords) l17 c17 k17
  have b17 := F17.binds (ps := ["_law_cell", "_law_free"]) fun _ _ _ _ _ _ us hl => by
    obtain ⟨a0, us0, rfl, g0⟩ := lenS hl
    obtain ⟨a1, us1, rfl, g1⟩ := lenS g0
    obtain rfl := len0 g1
    rfl
  have F18 := fun_mk (st := s_Lany_word) l18 c18 k18
  have b18 := F18.binds (ps := ["_law_number"]) fun _ _ _ _ _ _ us hl => by
    obtain ⟨a0, us0, rfl, g0⟩ := lenS hl
    obtain rfl := len0 g0
    rfl
  have F19 := fun_mk (st := s_Lstamp) l19 c19 k19
  have b19 := F19.binds (ps := ["_law_book_here", "_law_one", "_law_other"]) fun _ _ _ _ _ _ us hl => by
    obtain ⟨a0, us0, rfl, g0⟩ := lenS hl
    obtain ⟨a1, us1, rfl, g1⟩ := lenS g0
    obtain ⟨a2, us2, rfl, g2⟩ := lenS g1
    obtain rfl := len0 g2
    rfl
  have F20 := fun_mk (st := s_Lpick) l20 c20 k20
  have b20 := F20.binds (ps := ["_law_book_here", "_law_rank", "_law_one", "_law_other"]) fun _ _ _ _ _ _ us hl => by
    obtain ⟨a0, us0, rfl, g0⟩ := lenS hl
    obtain ⟨a1, us1, rfl, g1⟩ := lenS g0
    obtain ⟨a2, us2, rfl, g2⟩ := lenS g1
    obtain ⟨a3, us3, rfl, g3⟩ := lenS g2
    obtain rfl := len0 g3
    rfl
  have F21 := fun_mk (st := s_Lbase) l21 c21 k21
  have b21 := F21.binds (ps := ["_law_book_here", "_law_rank", "_law_one", "_law_other"]) fun _ _ _ _ _ _ us hl => by
    obtain ⟨a0, us0, rfl, g0⟩ := lenS hl
    obtain ⟨a1, us1, rfl, g1⟩ := lenS g0
    obtain ⟨a2, us2, rfl, g2⟩ := lenS g1
    obtain ⟨a3, us3, rfl, g3⟩ := lenS g2
    obtain rfl := len0 g3
    rfl
  have F22 := fun_mk (st := s_Lentry) l22 c22 k22
  have b22 := F22.binds (ps := ["_law_book_here", "_law_words_here", "_law_cell", "_law_k", "_law_free"]) fun _ _ _ _ _ _ us hl => by
    obtain ⟨a0, us0, rfl, g0⟩ := lenS hl
    obtain ⟨a1, us1, rfl, g1⟩ := lenS g0
    obtain ⟨a2, us2, rfl, g2⟩ := lenS g1
    obtain ⟨a3, us3, rfl, g3⟩ := lenS g2
    obtain ⟨a4, us4, rfl, g4⟩ := lenS g3
    obtain rfl := len0 g4
    rfl
  have F23 := fun_mk (st := s_Lbook) l23 c23 k23
  have b23 := F23.binds (ps := ["_law_script", "_law_start"]) fun _ _ _ _ _ _ us hl => by
    obtain ⟨a0, us0, rfl, g0⟩ := lenS hl
    obtain ⟨a1, us1, rfl, g1⟩ := lenS g0
    obtain rfl := len0 g1
    rfl
  have F24 := fun_mk (st := s_Lmade) l24 c24 k24
  have b24 := F24.binds (ps := ["_law_book_here"]) fun _ _ _ _ _ _ us hl => by
    obtain ⟨a0, us0, rfl, g0⟩ := lenS hl
    obtain rfl := len0 g0
    rfl
  have F25 := fun_mk (st := s_Lup) l25 c25 k25
  have b25 := F25.binds (ps := ["_law_rank"]) fun _ _ _ _ _ _ us hl => by
    obtain ⟨a0, us0, rfl, g0⟩ := lenS hl
    obtain rfl := len0 g0
    rfl
  have F26 := fun_mk (st := s_Lword_of) l26 c26 k26
  have b26 := F26.binds (ps := ["_law_one", "_law_name", "_law_right", "_law_borne"]) fun _ _ _ _ _ _ us hl => by
    obtain ⟨a0, us0, rfl, g0⟩ := lenS hl
    obtain ⟨a1, us1, rfl, g1⟩ := lenS g0
    obtain ⟨a2, us2, rfl, g2⟩ := lenS g1
    obtain ⟨a3, us3, rfl, g3⟩ := lenS g2
    obtain rfl := len0 g3
    rfl
  have F27 := fun_mk (st := s_Lsieved) l27 c27 k27
  have b27 := F27.binds (ps := ["_law_book_here"]) fun _ _ _ _ _ _ us hl => by
    obtain ⟨a0, us0, rfl, g0⟩ := lenS hl
    obtain rfl := len0 g0
    rfl
  have F28 := fun_mk (st := s_Lis_entry) l28 c28 k28
  have b28 := F28.binds (ps := ["_law_entry_here", "_law_one"]) fun _ _ _ _ _ _ us hl => by
    obtain ⟨a0, us0, rfl, g0⟩ := lenS hl
    obtain ⟨a1, us1, rfl, g1⟩ := lenS g0
    obtain rfl := len0 g1
    rfl
  have F29 := fun_mk (st := s_Lis_book) l29 c29 k29
  have b29 := F29.binds (ps := ["_law_found", "_law_book_here"]) fun _ _ _ _ _ _ us hl => by
    obtain ⟨a0, us0, rfl, g0⟩ := lenS hl
    obtain ⟨a1, us1, rfl, g1⟩ := lenS g0
    obtain rfl := len0 g1
    rfl
  have F30 := fun_mk (st := s_Lkind) l30 c30 k30
  have b30 := F30.binds (ps := ["_law_error"]) fun _ _ _ _ _ _ us hl => by
    obtain ⟨a0, us0, rfl, g0⟩ := lenS hl
    obtain rfl := len0 g0
    rfl
  have F31 := fun_mk (st := s_Lrefused) l31 c31 k31
  have b31 := F31.binds (ps := ["_law_clerk", "_law_thing", "_law_due"]) fun _ _ _ _ _ _ us hl => by
    obtain ⟨a0, us0, rfl, g0⟩ := lenS hl
    obtain ⟨a1, us1, rfl, g1⟩ := lenS g0
    obtain ⟨a2, us2, rfl, g2⟩ := lenS g1
    obtain rfl := len0 g2
    rfl
  have F32 := fun_mk (st := s_Lodd) l32 c32 k32
  have b32 := F32.binds (ps := ["_law_clerk", "_law_book_here", "_law_mixed_here"]) fun _ _ _ _ _ _ us hl => by
    obtain ⟨a0, us0, rfl, g0⟩ := lenS hl
    obtain ⟨a1, us1, rfl, g1⟩ := lenS g0
    obtain ⟨a2, us2, rfl, g2⟩ := lenS g1
    obtain rfl := len0 g2
    rfl
  have F33 := fun_mk (st := s_law) l33 c33 k33
  have b33 := F33.binds (ps := ["_law_script"]) fun _ _ _ _ _ _ us hl => by
    obtain ⟨a0, us0, rfl, g0⟩ := lenS hl
    obtain rfl := len0 g0
    rfl
  have bb_Results_init := (fun_mk (st := s_Results_init) l_Results_init k_Results_init p_Results_init).binds (ps := ["self"]) fun _ _ _ _ _ _ us hl => by
    obtain ⟨a0, us0, rfl, g0⟩ := lenS hl
    obtain rfl := len0 g0
    rfl
  have bb_Clerk_init := (fun_mk (st := s_Clerk_init) l_Clerk_init k_Clerk_init p_Clerk_init).binds (ps := ["self"]) fun _ _ _ _ _ _ us hl => by
    obtain ⟨a0, us0, rfl, g0⟩ := lenS hl
    obtain rfl := len0 g0
    rfl
  have bb_Results_put := (fun_mk (st := s_Results_put) l_Results_put k_Results_put p_Results_put).binds (ps := ["self", "entry"]) fun _ _ _ _ _ _ us hl => by
    obtain ⟨a0, us0, rfl, g0⟩ := lenS hl
    obtain ⟨a1, us1, rfl, g1⟩ := lenS g0
    obtain rfl := len0 g1
    rfl
  have bb_Results_name_of := (fun_mk (st := s_Results_name_of) l_Results_name_of k_Results_name_of p_Results_name_of).binds (ps := ["self", "entry"]) fun _ _ _ _ _ _ us hl => by
    obtain ⟨a0, us0, rfl, g0⟩ := lenS hl
    obtain ⟨a1, us1, rfl, g1⟩ := lenS g0
    obtain rfl := len0 g1
    rfl
  have bb_Results_outcome_of := (fun_mk (st := s_Results_outcome_of) l_Results_outcome_of k_Results_outcome_of p_Results_outcome_of).binds (ps := ["self", "entry", "name"]) fun _ _ _ _ _ _ us hl => by
    obtain ⟨a0, us0, rfl, g0⟩ := lenS hl
    obtain ⟨a1, us1, rfl, g1⟩ := lenS g0
    obtain ⟨a2, us2, rfl, g2⟩ := lenS g1
    obtain rfl := len0 g2
    rfl
  have bb_Clerk_publish := (fun_mk (st := s_Clerk_publish) l_Clerk_publish k_Clerk_publish p_Clerk_publish).binds (ps := ["self", "entry"]) fun _ _ _ _ _ _ us hl => by
    obtain ⟨a0, us0, rfl, g0⟩ := lenS hl
    obtain ⟨a1, us1, rfl, g1⟩ := lenS g0
    obtain rfl := len0 g1
    rfl
  have bb_Clerk_book := (fun_mk (st := s_Clerk_book) l_Clerk_book k_Clerk_book p_Clerk_book).binds (ps := ["self"]) fun _ _ _ _ _ _ us hl => by
    obtain ⟨a0, us0, rfl, g0⟩ := lenS hl
    obtain rfl := len0 g0
    rfl
  have bb_Clerk_acts := (fun_mk (st := s_Clerk_acts) l_Clerk_acts k_Clerk_acts p_Clerk_acts).binds (ps := ["self"]) fun _ _ _ _ _ _ us hl => by
    obtain ⟨a0, us0, rfl, g0⟩ := lenS hl
    obtain rfl := len0 g0
    rfl
  have bb_Clerk_sorting := (fun_mk (st := s_Clerk_sorting) l_Clerk_sorting k_Clerk_sorting p_Clerk_sorting).binds (ps := ["self"]) fun _ _ _ _ _ _ us hl => by
    obtain ⟨a0, us0, rfl, g0⟩ := lenS hl
    obtain rfl := len0 g0
    rfl
  have T : Txt w K mg ⟨f0, _, f1, _, f2, _, f3, _, f4, _, f5, _, f6, _, f7, _, f8, _, f9, _, f10, _, f11, _, f12, _, f13, _, f14, _, f15, _, f16, _, f17, _, f18, _, f19, _, f20, _, f21, _, f22, _, f23, _, f24, _, f25, _, f26, _, f27, _, f28, _, f29, _, f30, _, f31, _, f32, _, fa, _, c_Entry, f_Entry, t_Entry, _, c_Results, f_Results_init, _, c_Clerk, f_Clerk_init, _, f_Results_put, _, f_Results_name_of, _, f_Results_outcome_of, _, f_Clerk_publish, _, f_Clerk_book, _, f_Clerk_acts, _, f_Clerk_sorting, _, u_MOST_LETTERS, u_LAST_DAY, u_LAST_NUMBER, u_RANKS, u_ABOVE, c_NoRank, c_NoNumber, c_NoDay, c_NoWord, c_NoSorting, c_NoEntry, c_Late, c_RightError, c_NoAct, c_NoSheet, c_NoPath⟩ := ⟨⟨F0, PySem.W.mg_of X G a0, b0⟩, ⟨F1, PySem.W.mg_of X G a1, b1⟩, ⟨F2, PySem.W.mg_of X G a2, b2⟩, ⟨F3, PySem.W.mg_of X G a3, b3⟩, ⟨F4, PySem.W.mg_of X G a4, b4⟩, ⟨F5, PySem.W.mg_of X G a5, b5⟩, ⟨F6, PySem.W.mg_of X G a6, b6⟩, ⟨F7, PySem.W.mg_of X G a7, b7⟩, ⟨F8, PySem.W.mg_of X G a8, b8⟩, ⟨F9, PySem.W.mg_of X G a9, b9⟩, ⟨F10, PySem.W.mg_of X G a10, b10⟩, ⟨F11, PySem.W.mg_of X G a11, b11⟩, ⟨F12, PySem.W.mg_of X G a12, b12⟩, ⟨F13, PySem.W.mg_of X G a13, b13⟩, ⟨F14, PySem.W.mg_of X G a14, b14⟩, ⟨F15, PySem.W.mg_of X G a15, b15⟩, ⟨F16, PySem.W.mg_of X G a16, b16⟩, ⟨F17, PySem.W.mg_of X G a17, b17⟩, ⟨F18, PySem.W.mg_of X G a18, b18⟩, ⟨F19, PySem.W.mg_of X G a19, b19⟩, ⟨F20, PySem.W.mg_of X G a20, b20⟩, ⟨F21, PySem.W.mg_of X G a21, b21⟩, ⟨F22, PySem.W.mg_of X G a22, b22⟩, ⟨F23, PySem.W.mg_of X G a23, b23⟩, ⟨F24, PySem.W.mg_of X G a24, b24⟩, ⟨F25, PySem.W.mg_of X G a25, b25⟩, ⟨F26, PySem.W.mg_of X G a26, b26⟩, ⟨F27, PySem.W.mg_of X G a27, b27⟩, ⟨F28, PySem.W.mg_of X G a28, b28⟩, ⟨F29, PySem.W.mg_of X G a29, b29⟩, ⟨F30, PySem.W.mg_of X G a30, b30⟩, ⟨F31, PySem.W.mg_of X G a31, b31⟩, ⟨F32, PySem.W.mg_of X G a32, b32⟩, ⟨F33, PySem.W.mg_of X G a33, b33⟩, PySem.W.mg_of X G cg_Entry, ⟨pg_Entry, hd_Entry, po_Entry, sa_Entry⟩, ⟨mk_Entry, in_Entry, fn_Entry, kc_Entry⟩, funD_mk lf_Entry cf_Entry kf_Entry, na_Entry_number, na_Entry_day, na_Entry_rank, na_Entry_word, na_Entry_under, na_Entry_sheet, na_Entry_base, na_Entry_described, mb_Entry_8 (funD_mk lf_Entry cf_Entry kf_Entry) lt_Entry dt_Entry, mb_Entry_6 (funD_mk lf_Entry cf_Entry kf_Entry) lt_Entry dt_Entry, PySem.W.mg_of X G cg_Results, ⟨pg_Results, hd_Results, po_Results, sa_Results⟩, fun_mk l_Results_init k_Results_init p_Results_init, bb_Results_init, ⟨mk_Results, in_Results, fn_Results, kc_Results⟩, na_Results_outs, na_Results_names, na_Results_rights, na_Results_holders, PySem.W.mg_of X G cg_Clerk, ⟨pg_Clerk, hd_Clerk, po_Clerk, sa_Clerk⟩, fun_mk l_Clerk_init k_Clerk_init p_Clerk_init, bb_Clerk_init, ⟨mk_Clerk, in_Clerk, fn_Clerk, kc_Clerk⟩, na_Clerk_entries, na_Clerk_results, na_Clerk_deeds, na_Clerk_piles, fun_mk l_Results_put k_Results_put p_Results_put, bb_Results_put, ⟨mf_Results_put, mi_Results_put, p_Results_put⟩, fun_mk l_Results_name_of k_Results_name_of p_Results_name_of, bb_Results_name_of, ⟨mf_Results_name_of, mi_Results_name_of, p_Results_name_of⟩, fun_mk l_Results_outcome_of k_Results_outcome_of p_Results_outcome_of, bb_Results_outcome_of, ⟨mf_Results_outcome_of, mi_Results_outcome_of, p_Results_outcome_of⟩, fun_mk l_Clerk_publish k_Clerk_publish p_Clerk_publish, bb_Clerk_publish, ⟨mf_Clerk_publish, mi_Clerk_publish, p_Clerk_publish⟩, fun_mk l_Clerk_book k_Clerk_book p_Clerk_book, bb_Clerk_book, ⟨mf_Clerk_book, mi_Clerk_book, p_Clerk_book⟩, fun_mk l_Clerk_acts k_Clerk_acts p_Clerk_acts, bb_Clerk_acts, ⟨mf_Clerk_acts, mi_Clerk_acts, p_Clerk_acts⟩, fun_mk l_Clerk_sorting k_Clerk_sorting p_Clerk_sorting, bb_Clerk_sorting, ⟨mf_Clerk_sorting, mi_Clerk_sorting, p_Clerk_sorting⟩, PySem.W.mg_of X G cg_MOST_LETTERS, cr_MOST_LETTERS, PySem.W.mg_of X G cg_LAST_DAY, cr_LAST_DAY, PySem.W.mg_of X G cg_LAST_NUMBER, cr_LAST_NUMBER, PySem.W.mg_of X G cg_RANKS, fun H => sqT_of cl_RANKS cc_RANKS cd_RANKS (by rw [List.size_toArray, ← Paired.length cv_RANKS]; exact le_ble rfl) (by simpa using cv_RANKS), PySem.W.mg_of X G cg_ABOVE, ⟨⟨_, _, cl_ABOVE, cv_ABOVE⟩, by decide +kernel⟩, PySem.W.mg_of X G cg_NoRank, PySem.W.mg_of X G cg_NoNumber, PySem.W.mg_of X G cg_NoDay, PySem.W.mg_of X G cg_NoWord, PySem.W.mg_of X G cg_NoSorting, PySem.W.mg_of X G cg_NoEntry, PySem.W.mg_of X G cg_Late, PySem.W.mg_of X G cg_RightError, PySem.W.mg_of X G cg_NoAct, PySem.W.mg_of X G cg_NoSheet, PySem.W.mg_of X G cg_NoPath, XCls.mk2 xl_NoRank xn_NoRank xs_NoRank xi_NoRank xa_NoRank xb_NoRank xt_NoRank xj_NoRank, ⟨qcs_NoRank, qga_NoRank, qgt_NoRank, qca_NoRank, qgg_NoRank, qtk_NoRank, qmo_NoRank, qsb_NoRank⟩, i_NoRank_NoEntry, i_NoRank_Late, i_NoRank_NoAct, i_NoRank_NoSheet, i_NoRank_NoPath, i_NoRank_ValueError, e_NoRank_RightError, XCls.mk2 xl_NoNumber xn_NoNumber xs_NoNumber xi_NoNumber xa_NoNumber xb_NoNumber xt_NoNumber xj_NoNumber, ⟨qcs_NoNumber, qga_NoNumber, qgt_NoNumber, qca_NoNumber, qgg_NoNumber, qtk_NoNumber, qmo_NoNumber, qsb_NoNumber⟩, i_NoNumber_NoEntry, i_NoNumber_Late, i_NoNumber_NoAct, i_NoNumber_NoSheet, i_NoNumber_NoPath, i_NoNumber_ValueError, e_NoNumber_RightError, XCls.mk2 xl_NoDay xn_NoDay xs_NoDay xi_NoDay xa_NoDay xb_NoDay xt_NoDay xj_NoDay, ⟨qcs_NoDay, qga_NoDay, qgt_NoDay, qca_NoDay, qgg_NoDay, qtk_NoDay, qmo_NoDay, qsb_NoDay⟩, i_NoDay_NoEntry, i_NoDay_Late, i_NoDay_NoAct, i_NoDay_NoSheet, i_NoDay_NoPath, i_NoDay_ValueError, e_NoDay_RightError, XCls.mk2 xl_NoWord xn_NoWord xs_NoWord xi_NoWord xa_NoWord xb_NoWord xt_NoWord xj_NoWord, ⟨qcs_NoWord, qga_NoWord, qgt_NoWord, qca_NoWord, qgg_NoWord, qtk_NoWord, qmo_NoWord, qsb_NoWord⟩, i_NoWord_NoEntry, i_NoWord_Late, i_NoWord_NoAct, i_NoWord_NoSheet, i_NoWord_NoPath, i_NoWord_ValueError, e_NoWord_RightError, XCls.mk2 xl_NoSorting xn_NoSorting xs_NoSorting xi_NoSorting xa_NoSorting xb_NoSorting xt_NoSorting xj_NoSorting, ⟨qcs_NoSorting, qga_NoSorting, qgt_NoSorting, qca_NoSorting, qgg_NoSorting, qtk_NoSorting, qmo_NoSorting, qsb_NoSorting⟩, i_NoSorting_NoEntry, i_NoSorting_Late, i_NoSorting_NoAct, i_NoSorting_NoSheet, i_NoSorting_NoPath, i_NoSorting_ValueError, e_NoSorting_RightError, XCls.mk2 xl_NoEntry xn_NoEntry xs_NoEntry xi_NoEntry xa_NoEntry xb_NoEntry xt_NoEntry xj_NoEntry, ⟨qcs_NoEntry, qga_NoEntry, qgt_NoEntry, qca_NoEntry, qgg_NoEntry, qtk_NoEntry, qmo_NoEntry, qsb_NoEntry⟩, i_NoEntry_NoEntry, i_NoEntry_Late, i_NoEntry_NoAct, i_NoEntry_NoSheet, i_NoEntry_NoPath, i_NoEntry_ValueError, e_NoEntry_RightError, XCls.mk2 xl_Late xn_Late xs_Late xi_Late xa_Late xb_Late xt_Late xj_Late, ⟨qcs_Late, qga_Late, qgt_Late, qca_Late, qgg_Late, qtk_Late, qmo_Late, qsb_Late⟩, i_Late_NoEntry, i_Late_Late, i_Late_NoAct, i_Late_NoSheet, i_Late_NoPath, i_Late_ValueError, e_Late_RightError, ⟨wc_Entry, wg_Entry, wt_Entry, wm_Entry⟩, ws_Entry, wn_Entry_NoneType, wn_Entry_int, wn_Entry_str, wn_Entry_bool, wn_Entry_list, wn_Entry_tuple, wn_Entry_dict, PySem.W.mg_none_of X G z_len, PySem.W.mg_none_of X G z_isinstance, PySem.W.mg_none_of X G z_str, PySem.W.mg_none_of X G z_bool, PySem.W.mg_none_of X G z_all, PySem.W.mg_none_of X G z_range, PySem.W.mg_none_of X G z_int, PySem.W.mg_none_of X G z_list, PySem.W.mg_none_of X G z_min, PySem.W.mg_none_of X G z_max, PySem.W.mg_none_of X G z_dict, PySem.W.mg_none_of X G z_zip, PySem.W.mg_none_of X G z_ValueError⟩
  exact ⟨_, fun s v => .of_eq rfl, fun base _ _ => ok_law T⟩
end My
theorem PySem.W.Fast.tw17756487362035500008 : True := trivial
theorem PySem.W.Fast.tw17450108530129056021 : True := trivial
theorem PySem.W.Fast.tw17099893943711990906 : True := trivial
theorem PySem.W.Fast.tw18236119035468566032 : True := trivial
theorem PySem.W.Fast.tw10028748601974689060 : True := trivial
theorem PySem.W.Fast.tw7547511098551111592 : True := trivial
theorem PySem.W.Fast.tw6527634641474143805 : True := trivial
theorem PySem.W.Fast.tw11447745097858139661 : True := trivial
theorem PySem.W.Fast.tw7072586387013119031 : True := trivial
theorem PySem.W.Fast.tw1304799071477463455 : True := trivial
theorem PySem.W.Fast.tw15291076196501854979 : True := trivial
theorem PySem.W.Fast.tw6608294491051171005 : True := trivial
theorem PySem.W.Fast.tw4064046229328583110 : True := trivial
theorem PySem.W.Fast.tw16410856054176187104 : True := trivial
theorem PySem.W.Fast.tw5433193562902951065 : True := trivial
theorem PySem.W.Fast.tw11115479928195827997 : True := trivial
theorem PySem.W.Fast.tw11694774589030269481 : True := trivial
theorem PySem.W.Fast.tw855840653949163420 : True := trivial
theorem PySem.W.Fast.tw1285779737011246528 : True := trivial
theorem PySem.W.Fast.tw3947318750506279636 : True := trivial
theorem PySem.W.Fast.tw14969899161665060431 : True := trivial
theorem PySem.W.Fast.tw6478190060138043691 : True := trivial
theorem PySem.W.Fast.tw7089412659542685860 : True := trivial
theorem PySem.W.Fast.tw18218538463340380864 : True := trivial
theorem PySem.W.Fast.tw5244491812833115102 : True := trivial
theorem PySem.W.Fast.tw9104393661922534469 : True := trivial
theorem PySem.W.Fast.tw15793339997217739600 : True := trivial
theorem PySem.W.Fast.tw13401481769461585038 : True := trivial
theorem PySem.W.Fast.tw14637461194753299067 : True := trivial
theorem PySem.W.Fast.tw12156649956899249486 : True := trivial
theorem PySem.W.Fast.tw14504408732503311775 : True := trivial
theorem PySem.W.Fast.tw14130739730259694925 : True := trivial
theorem PySem.W.Fast.tw15211547240554594320 : True := trivial
theorem PySem.W.Fast.tw160690310272668077 : True := trivial
theorem PySem.W.Fast.tw6182061426161961716 : True := trivial
theorem PySem.W.Fast.tw15017980076073795612 : True := trivial
theorem PySem.W.Fast.tw187873569497049472 : True := trivial
theorem PySem.W.Fast.tw8858959804604960087 : True := trivial
theorem PySem.W.Fast.tw17526698007109613278 : True := trivial
theorem PySem.W.Fast.tw14946049386781613665 : True := trivial
theorem PySem.W.Fast.tw2823270030858059822 : True := trivial
theorem PySem.W.Fast.tw11892450691280458678 : True := trivial
theorem PySem.W.Fast.tw6034030959725933215 : True := trivial
theorem PySem.W.Fast.tw3105255735803163792 : True := trivial
theorem PySem.W.Fast.tw10843557251258776637 : True := trivial
theorem PySem.W.Fast.tw1356433940539854337 : True := trivial
theorem PySem.W.Fast.tw17122185975198567162 : True := trivial
theorem PySem.W.Fast.tw5445167371464472193 : True := trivial
theorem PySem.W.Fast.tw6731747461553752152 : True := trivial
theorem PySem.W.Fast.tw5707750964189321867 : True := trivial
theorem PySem.W.Fast.tw5608381777239794278 : True := trivial
theorem PySem.W.Fast.tw10618766121602022155 : True := trivial
theorem PySem.W.Fast.tw8894689564891358010 : True := trivial
theorem PySem.W.Fast.tw4822104259726946762 : True := trivial
theorem PySem.W.Fast.tw9449811433290985065 : True := trivial
theorem PySem.W.Fast.tw8657651983600847122 : True := trivial
theorem PySem.W.Fast.tw13727276611453657911 : True := trivial
theorem PySem.W.Fast.tw13583369605632533194 : True := trivial
theorem PySem.W.Fast.tw6262653168362495793 : True := trivial
theorem PySem.W.Fast.tw221710414522659814 : True := trivial
theorem PySem.W.Fast.tw5900676968574249090 : True := trivial
theorem PySem.W.Fast.tw16077142237386071406 : True := trivial
theorem PySem.W.Fast.tw13381975864693146953 : True := trivial
theorem PySem.W.Fast.tw8317711849368080880 : True := trivial
theorem PySem.W.Fast.tw7315336115990597691 : True := trivial
theorem PySem.W.Fast.tw8710805389659786065 : True := trivial
theorem PySem.W.Fast.tw3706596835709589892 : True := trivial
theorem PySem.W.Fast.tw14624223821110426367 : True := trivial
theorem PySem.W.Fast.tw9863219412360496280 : True := trivial
theorem PySem.W.Fast.tw1032041308269223642 : True := trivial
theorem PySem.W.Fast.tw17579290569064507007 : True := trivial
theorem PySem.W.Fast.tw4341894897294655052 : True := trivial
theorem PySem.W.Fast.tw15759339461058027455 : True := trivial
theorem PySem.W.Fast.tw14524507114499975812 : True := trivial
theorem PySem.W.Fast.tw6017782649192351987 : True := trivial
theorem PySem.W.Fast.tw16602830005551435985 : True := trivial
theorem PySem.W.Fast.tw6765250967008562152 : True := trivial
theorem PySem.W.Fast.tw12669006774158366649 : True := trivial
theorem PySem.W.Fast.tw3354731493672416169 : True := trivial
theorem PySem.W.Fast.tw13406889738113327943 : True := trivial
theorem PySem.W.Fast.tw2496710016085288823 : True := trivial
theorem PySem.W.Fast.tw16360532733233478870 : True := trivial
theorem PySem.W.Fast.tw3983254691243659954 : True := trivial
theorem PySem.W.Fast.tw753904255986382840 : True := trivial
theorem PySem.W.Fast.tw8587466334747284276 : True := trivial
theorem PySem.W.Fast.tw7703572609321112788 : True := trivial
theorem PySem.W.Fast.tw4627620518918512198 : True := trivial
theorem PySem.W.Fast.tw17987300009247468817 : True := trivial
theorem PySem.W.Fast.tw15939437455173494085 : True := trivial
theorem PySem.W.Fast.tw14834363257342726002 : True := trivial
theorem PySem.W.Fast.tw3377551729063806753 : True := trivial
theorem PySem.W.Fast.tw5532711647456839875 : True := trivial
theorem PySem.W.Fast.tw192535890258687162 : True := trivial
theorem PySem.W.Fast.tw1561551003102493884 : True := trivial
theorem PySem.W.Fast.tw115556407208088028 : True := trivial
theorem PySem.W.Fast.tw1798066271135833350 : True := trivial
theorem PySem.W.Fast.tw11955546239822396144 : True := trivial
theorem PySem.W.Fast.tw6161539598273893647 : True := trivial
theorem PySem.W.Fast.tw14046164030701952583 : True := trivial
theorem PySem.W.Fast.tw1105050345526533591 : True := trivial
theorem PySem.W.Fast.tw15031822518881715304 : True := trivial
theorem PySem.W.Fast.tw10682612283246889734 : True := trivial
theorem PySem.W.Fast.tw15705863894832234010 : True := trivial
theorem PySem.W.Fast.tw482119784958379105 : True := trivial
theorem PySem.W.Fast.tw1926129335722628782 : True := trivial
theorem PySem.W.Fast.tw9265586526687689109 : True := trivial
theorem PySem.W.Fast.tw3726729571190840783 : True := trivial
theorem PySem.W.Fast.tw4120137033559706490 : True := trivial
theorem PySem.W.Fast.tw8180547147063365702 : True := trivial
theorem PySem.W.Fast.tw2599819865501077627 : True := trivial
theorem PySem.W.Fast.tw14470764810515298435 : True := trivial
theorem PySem.W.Fast.tw1850408930052746595 : True := trivial
theorem PySem.W.Fast.tw3181407726628321039 : True := trivial
theorem PySem.W.Fast.tw5134980696051075853 : True := trivial
theorem PySem.W.Fast.tw7119823778323684608 : True := trivial
theorem PySem.W.Fast.tw11728907175767693281 : True := trivial
theorem PySem.W.Fast.tw417317734091402715 : True := trivial
theorem PySem.W.Fast.tw761762574560120367 : True := trivial
theorem PySem.W.Fast.tw8505328182008778688 : True := trivial
theorem PySem.W.Fast.tw17450542777767821463 : True := trivial
theorem PySem.W.Fast.tw10841286901669785983 : True := trivial
theorem PySem.W.Fast.tw1435891669484667346 : True := trivial
theorem PySem.W.Fast.tw8198160575905997372 : True := trivial
theorem PySem.W.Fast.tw2300636942157668185 : True := trivial
theorem PySem.W.Fast.tw305332431282833636 : True := trivial
theorem PySem.W.Fast.tw7815028254364734134 : True := trivial
theorem PySem.W.Fast.tw11660706383816036740 : True := trivial
theorem PySem.W.Fast.tw6409497814599828208 : True := trivial
theorem PySem.W.Fast.tw11481472427978000176 : True := trivial
theorem PySem.W.Fast.tw2306657284587387749 : True := trivial
theorem PySem.W.Fast.tw3429445271764495139 : True := trivial
theorem PySem.W.Fast.tw3705282812663715094 : True := trivial
theorem PySem.W.Fast.tw17146658415154368334 : True := trivial
theorem PySem.W.Fast.tw8362912371220599702 : True := trivial
theorem PySem.W.Fast.tw11429702039185129032 : True := trivial
theorem PySem.W.Fast.tw12799535343270785832 : True := trivial
theorem PySem.W.Fast.tw665087404683685654 : True := trivial
theorem PySem.W.Fast.tw1191723980466100225 : True := trivial
theorem PySem.W.Fast.tw14622753118879863025 : True := trivial
theorem PySem.W.Fast.tw12676402748687382048 : True := trivial
theorem PySem.W.Fast.tw2364761520806576385 : True := trivial
theorem PySem.W.Fast.tw2858745085771507307 : True := trivial
theorem PySem.W.Fast.tw5689987452885037500 : True := trivial
theorem PySem.W.Fast.tw13980209028006597138 : True := trivial
theorem PySem.W.Fast.tw12635144052979321868 : True := trivial
theorem PySem.W.Fast.tw9268891100161641634 : True := trivial
theorem PySem.W.Fast.tw703974764970464110 : True := trivial
theorem PySem.W.Fast.tw8523547933835157868 : True := trivial
theorem PySem.W.Fast.tw5737743922825160270 : True := trivial
theorem PySem.W.Fast.tw6608528558143287925 : True := trivial
theorem PySem.W.Fast.tw970673099463072797 : True := trivial
theorem PySem.W.Fast.tw14689112916015193889 : True := trivial
theorem PySem.W.Fast.tw4965095360134338250 : True := trivial
theorem PySem.W.Fast.tw1396005618818313145 : True := trivial
theorem PySem.W.Fast.tw14082869888374282646 : True := trivial
theorem PySem.W.Fast.tw1665778618711268840 : True := trivial
theorem PySem.W.Fast.tw9528988796314168614 : True := trivial
theorem PySem.W.Fast.tw12847619835976539222 : True := trivial
theorem PySem.W.Fast.tw17286631437984243168 : True := trivial
theorem PySem.W.Fast.tw9985388946862916369 : True := trivial
theorem PySem.W.Fast.tw7245394532490573917 : True := trivial
theorem PySem.W.Fast.tw9357780716088335339 : True := trivial
theorem PySem.W.Fast.tw11691000872215513529 : True := trivial
theorem PySem.W.Fast.tw10357382465257063805 : True := trivial
theorem PySem.W.Fast.tw14317413878319130491 : True := trivial
theorem PySem.W.Fast.tw11040184393382766419 : True := trivial
theorem PySem.W.Fast.tw12684980262460264848 : True := trivial
theorem PySem.W.Fast.tw13910766775962081514 : True := trivial
theorem PySem.W.Fast.tw4390845513278213309 : True := trivial
theorem PySem.W.Fast.tw16265188795471994110 : True := trivial
theorem PySem.W.Fast.tw9687349127085618013 : True := trivial
theorem PySem.W.Fast.tw3141576586203957571 : True := trivial
theorem PySem.W.Fast.tw3480601448552245340 : True := trivial
theorem PySem.W.Fast.tw11787762254840306922 : True := trivial
theorem PySem.W.Fast.tw15211505685182140819 : True := trivial
theorem PySem.W.Fast.tw11518187042118450988 : True := trivial
theorem PySem.W.Fast.tw16608002082882554202 : True := trivial
theorem PySem.W.Fast.tw8400748053387645017 : True := trivial
theorem PySem.W.Fast.tw4124421962552577107 : True := trivial
theorem PySem.W.Fast.tw4532759271311015525 : True := trivial
theorem PySem.W.Fast.tw11495131855722012668 : True := trivial
theorem PySem.W.Fast.tw10278712224473023476 : True := trivial
theorem PySem.W.Fast.tw12612760741630208352 : True := trivial
theorem PySem.W.Fast.tw10358559728114967559 : True := trivial
theorem PySem.W.Fast.tw7091791918283263493 : True := trivial
theorem PySem.W.Fast.tw905629901014218137 : True := trivial
theorem PySem.W.Fast.tw18159258109581632318 : True := trivial
theorem PySem.W.Fast.tw9549075287737699543 : True := trivial
theorem PySem.W.Fast.tw5781739418625240926 : True := trivial
theorem PySem.W.Fast.tw10238566660023949404 : True := trivial
theorem PySem.W.Fast.tw5442702197377921526 : True := trivial
theorem PySem.W.Fast.tw4151213822084072441 : True := trivial
theorem PySem.W.Fast.tw1265235706689728400 : True := trivial
theorem PySem.W.Fast.tw1895599706503383042 : True := trivial
theorem PySem.W.Fast.tw4178712153660378836 : True := trivial
theorem PySem.W.Fast.tw3143764144582352366 : True := trivial
theorem PySem.W.Fast.tw5048677175922911480 : True := trivial
theorem PySem.W.Fast.tw10720471316431892145 : True := trivial
theorem PySem.W.Fast.tw14542770292267175785 : True := trivial
theorem PySem.W.Fast.tw12687234727514735799 : True := trivial
theorem PySem.W.Fast.tw13486167563795688779 : True := trivial
theorem PySem.W.Fast.tw3664247916260721669 : True := trivial
theorem PySem.W.Fast.tw9704392173315350788 : True := trivial
theorem PySem.W.Fast.tw5353470030699783364 : True := trivial
theorem PySem.W.Fast.tw17298502262553651843 : True := trivial
theorem PySem.W.Fast.tw5195289348023419309 : True := trivial
theorem PySem.W.Fast.tw5717791213777325591 : True := trivial
theorem PySem.W.Fast.tw5473969898285466588 : True := trivial
theorem PySem.W.Fast.tw8867061478305589945 : True := trivial
theorem PySem.W.Fast.tw16711238516390711841 : True := trivial
theorem PySem.W.Fast.tw8676269538673726121 : True := trivial
theorem PySem.W.Fast.tw14583817335191661515 : True := trivial
theorem PySem.W.Fast.tw11083681232788086391 : True := trivial
theorem PySem.W.Fast.tw15442596311870515708 : True := trivial
theorem PySem.W.Fast.tw230824318805678426 : True := trivial
theorem PySem.W.Fast.tw8160471023616192649 : True := trivial
theorem PySem.W.Fast.tw5244147179654764265 : True := trivial
theorem PySem.W.Fast.tw17818837841674218012 : True := trivial
theorem PySem.W.Fast.tw17304201859150992677 : True := trivial
theorem PySem.W.Fast.tw9946168343741042006 : True := trivial
theorem PySem.W.Fast.tw7232723787260406261 : True := trivial
theorem PySem.W.Fast.tw14177534221383863121 : True := trivial
theorem PySem.W.Fast.tw7490998947747096667 : True := trivial
theorem PySem.W.Fast.tw16092532342123797150 : True := trivial
theorem PySem.W.Fast.tw10683548817820554709 : True := trivial
theorem PySem.W.Fast.tw9487614078262390900 : True := trivial
theorem PySem.W.Fast.tw15415096174373509443 : True := trivial
theorem PySem.W.Fast.tw58833348449697876 : True := trivial
theorem PySem.W.Fast.tw14077927931669534883 : True := trivial
theorem PySem.W.Fast.tw4315335203918180185 : True := trivial
theorem PySem.W.Fast.tw18265862679788571657 : True := trivial
theorem PySem.W.Fast.tw5789770484652982968 : True := trivial
theorem PySem.W.Fast.tw3933903211128063912 : True := trivial
theorem PySem.W.Fast.tw14521999523167754290 : True := trivial
theorem PySem.W.Fast.tw4441742024357734408 : True := trivial
theorem PySem.W.Fast.tw6915565539406939778 : True := trivial
theorem PySem.W.Fast.tw10966934523008451810 : True := trivial
theorem PySem.W.Fast.tw16097867018307547193 : True := trivial
theorem PySem.W.Fast.tw3369385212942983536 : True := trivial
theorem PySem.W.Fast.tw11605987669145648170 : True := trivial
theorem PySem.W.Fast.tw14238806405362531560 : True := trivial
theorem PySem.W.Fast.tw11783074283248611802 : True := trivial
theorem PySem.W.Fast.tw5610099955166542119 : True := trivial
theorem PySem.W.Fast.tw9761155793981960683 : True := trivial
theorem PySem.W.Fast.tw12792266638070833608 : True := trivial
theorem PySem.W.Fast.tw1921443651351615964 : True := trivial
theorem PySem.W.Fast.tw1658037827819694328 : True := trivial
theorem PySem.W.Fast.tw5629641607570625985 : True := trivial
theorem PySem.W.Fast.tw13744810449521498877 : True := trivial
theorem PySem.W.Fast.tw1799015182207808004 : True := trivial
theorem PySem.W.Fast.tw15466603338016526153 : True := trivial
theorem PySem.W.Fast.tw10155767905714449277 : True := trivial
theorem PySem.W.Fast.tw16872583343793371426 : True := trivial
theorem PySem.W.Fast.tw2194195228553536576 : True := trivial
theorem PySem.W.Fast.tw17044191161888113781 : True := trivial
theorem PySem.W.Fast.tw6768012723392130048 : True := trivial
theorem PySem.W.Fast.tw11896360919920560058 : True := trivial
theorem PySem.W.Fast.tw7884229105026439679 : True := trivial
theorem PySem.W.Fast.tw9930996792831293251 : True := trivial
theorem PySem.W.Fast.tw9814307844582357536 : True := trivial
theorem PySem.W.Fast.tw17014032780725640247 : True := trivial
theorem PySem.W.Fast.tw10090251902913926462 : True := trivial
theorem PySem.W.Fast.tw1179076122039953103 : True := trivial
theorem PySem.W.Fast.tw8982963101151782249 : True := trivial
theorem PySem.W.Fast.tw10689717583680023212 : True := trivial
theorem PySem.W.Fast.tw2224860819219678637 : True := trivial
theorem PySem.W.Fast.tw2330270041220691081 : True := trivial
theorem PySem.W.Fast.tw13952548767303036901 : True := trivial
theorem PySem.W.Fast.tw6214953238405552918 : True := trivial
theorem PySem.W.Fast.tw15606103169751830919 : True := trivial
theorem PySem.W.Fast.tw3839197291119983768 : True := trivial
theorem PySem.W.Fast.tw5247137509480430567 : True := trivial
theorem PySem.W.Fast.tw2124686860273470033 : True := trivial
theorem PySem.W.Fast.tw7233818667247764631 : True := trivial
theorem PySem.W.Fast.tw9410956643641422856 : True := trivial
theorem PySem.W.Fast.tw13437887721436930380 : True := trivial
theorem PySem.W.Fast.tw15929732794510864093 : True := trivial
theorem PySem.W.Fast.tw313452893778846624 : True := trivial
theorem PySem.W.Fast.tw6827415382579921385 : True := trivial
theorem PySem.W.Fast.tw1896010304501528664 : True := trivial
theorem PySem.W.Fast.tw7583382042616833634 : True := trivial
theorem PySem.W.Fast.tw10363777946016385861 : True := trivial
theorem PySem.W.Fast.tw5550958714301037155 : True := trivial
theorem PySem.W.Fast.tw14955669640874186930 : True := trivial
theorem PySem.W.Fast.tw1212215568108039028 : True := trivial
theorem PySem.W.Fast.tw597398056564099505 : True := trivial
theorem PySem.W.Fast.tw1109793160584642573 : True := trivial
theorem PySem.W.Fast.tw14214012962865080486 : True := trivial
theorem PySem.W.Fast.tw12535812059354984765 : True := trivial
theorem PySem.W.Fast.tw8124435915366185622 : True := trivial
theorem PySem.W.Fast.tw16546864202247534096 : True := trivial
theorem PySem.W.Fast.tw15179460841146346283 : True := trivial
theorem PySem.W.Fast.tw10597272568954562076 : True := trivial
theorem PySem.W.Fast.tw9280349785917261563 : True := trivial
theorem PySem.W.Fast.tw16175863091335822335 : True := trivial
theorem PySem.W.Fast.tw9926963991325909462 : True := trivial
theorem PySem.W.Fast.tw10883548297866146861 : True := trivial
theorem PySem.W.Fast.tw17118717586173109448 : True := trivial
theorem PySem.W.Fast.tw17527416885420862126 : True := trivial
theorem PySem.W.Fast.tw7722738664553149659 : True := trivial
theorem PySem.W.Fast.tw14726584889333169728 : True := trivial
theorem PySem.W.Fast.tw14233888339713867543 : True := trivial
theorem PySem.W.Fast.tw16798160431013264476 : True := trivial
theorem PySem.W.Fast.tw3776959516780186186 : True := trivial
theorem PySem.W.Fast.tw2911394922834785616 : True := trivial
theorem PySem.W.Fast.tw16789432375119267213 : True := trivial
theorem PySem.W.Fast.tw622858587744951517 : True := trivial
theorem PySem.W.Fast.tw14960722182086799157 : True := trivial
theorem PySem.W.Fast.tw7050152560069888263 : True := trivial
theorem PySem.W.Fast.tw8469562559523434297 : True := trivial
theorem PySem.W.Fast.tw6135263403623827511 : True := trivial
theorem PySem.W.Fast.tw7970840489833784170 : True := trivial
theorem PySem.W.Fast.tw6735060409612369210 : True := trivial
theorem PySem.W.Fast.tw13866562891215021393 : True := trivial
theorem PySem.W.Fast.tw6977568754568617458 : True := trivial
theorem PySem.W.Fast.tw9461798516049925192 : True := trivial
theorem PySem.W.Fast.tw10405139728347888590 : True := trivial
theorem PySem.W.Fast.tw1161410031683590001 : True := trivial
theorem PySem.W.Fast.tw6081178969354344070 : True := trivial
theorem PySem.W.Fast.tw7768234964585057231 : True := trivial
theorem PySem.W.Fast.tw11895424185812938339 : True := trivial
theorem PySem.W.Fast.tw18415226515216798113 : True := trivial
theorem PySem.W.Fast.tw3878418677627335190 : True := trivial
theorem PySem.W.Fast.tw7532855724729961050 : True := trivial
theorem PySem.W.Fast.tw563329860482618569 : True := trivial
theorem PySem.W.Fast.tw6791644106967542957 : True := trivial
theorem PySem.W.Fast.tw9930987164468543196 : True := trivial
theorem PySem.W.Fast.tw15207176508720570315 : True := trivial
theorem PySem.W.Fast.tw9852924258050402599 : True := trivial
theorem PySem.W.Fast.tw10691631526150504889 : True := trivial
theorem PySem.W.Fast.tw571314052821659478 : True := trivial
theorem PySem.W.Fast.tw16132539337928080216 : True := trivial
theorem PySem.W.Fast.tw7774889129519940861 : True := trivial
theorem PySem.W.Fast.tw3029628622000198179 : True := trivial
theorem PySem.W.Fast.tw13939848063384898465 : True := trivial
theorem PySem.W.Fast.tw14811139330067450331 : True := trivial
theorem PySem.W.Fast.tw10191806446519071899 : True := trivial
theorem PySem.W.Fast.tw12196500872104426178 : True := trivial
theorem PySem.W.Fast.tw5971402677472392391 : True := trivial
theorem PySem.W.Fast.tw2456053448686446649 : True := trivial
theorem PySem.W.Fast.tw3971668176168498687 : True := trivial
theorem PySem.W.Fast.tw10850243526919953052 : True := trivial
theorem PySem.W.Fast.tw3038719053431732916 : True := trivial
theorem PySem.W.Fast.tw18101181439113491912 : True := trivial
theorem PySem.W.Fast.tw15870333413223336490 : True := trivial
theorem PySem.W.Fast.tw13282131179267793852 : True := trivial
theorem PySem.W.Fast.tw11797142997245835560 : True := trivial
theorem PySem.W.Fast.tw17006048309503950929 : True := trivial
theorem PySem.W.Fast.tw14524113974541999685 : True := trivial
theorem PySem.W.Fast.tw18003111791988865524 : True := trivial
theorem PySem.W.Fast.tw12238490735074438603 : True := trivial
theorem PySem.W.Fast.tw9170311893552635263 : True := trivial
theorem PySem.W.Fast.tw14198397404070630931 : True := trivial
theorem PySem.W.Fast.tw12624326849799465248 : True := trivial
theorem PySem.W.Fast.tw14390530968427918792 : True := trivial
theorem PySem.W.Fast.tw6966574783379929262 : True := trivial
theorem PySem.W.Fast.tw7980014919085877845 : True := trivial
theorem PySem.W.Fast.tw1776484481059203638 : True := trivial
theorem PySem.W.Fast.tw17998802864697695574 : True := trivial
theorem PySem.W.Fast.tw16916118477604577186 : True := trivial
theorem PySem.W.Fast.tw6592683564455781850 : True := trivial
theorem PySem.W.Fast.tw16551791990848917740 : True := trivial
theorem PySem.W.Fast.tw10659772113129616912 : True := trivial
theorem PySem.W.Fast.tw9630994532462044117 : True := trivial
theorem PySem.W.Fast.tw4673846207129957981 : True := trivial
theorem PySem.W.Fast.tw1279075648510297284 : True := trivial
theorem PySem.W.Fast.tw17904647730979717365 : True := trivial
theorem PySem.W.Fast.tw16729503188750762198 : True := trivial
theorem PySem.W.Fast.tw13881617739428473884 : True := trivial
theorem PySem.W.Fast.tw8213617785809328258 : True := trivial
theorem PySem.W.Fast.tw13456447963742545873 : True := trivial
theorem PySem.W.Fast.tw14670370555038030176 : True := trivial
theorem PySem.W.Fast.tw15288367500080667486 : True := trivial
theorem PySem.W.Fast.tw15754508642314481841 : True := trivial
theorem PySem.W.Fast.tw17311699309475547428 : True := trivial
theorem PySem.W.Fast.tw1548228327080221002 : True := trivial
theorem PySem.W.Fast.tw5593273328648578142 : True := trivial
theorem PySem.W.Fast.tw13407304959214118216 : True := trivial
theorem PySem.W.Fast.tw4638121599910886813 : True := trivial
theorem PySem.W.Fast.tw2234590012072918078 : True := trivial
theorem PySem.W.Fast.tw13039505436029968694 : True := trivial
theorem PySem.W.Fast.tw14122137283756514291 : True := trivial
theorem PySem.W.Fast.tw15638460890946133689 : True := trivial
theorem PySem.W.Fast.tw7426956219102747275 : True := trivial
theorem PySem.W.Fast.tw12888095554742941206 : True := trivial
theorem PySem.W.Fast.tw1043960004925789784 : True := trivial
theorem PySem.W.Fast.tw13759646013265215837 : True := trivial
theorem PySem.W.Fast.tw1116463904350086108 : True := trivial
theorem PySem.W.Fast.tw465853243895035493 : True := trivial
theorem PySem.W.Fast.tw12411283011252986639 : True := trivial
theorem PySem.W.Fast.tw855426485665560121 : True := trivial
theorem PySem.W.Fast.tw10142614580348740839 : True := trivial
theorem PySem.W.Fast.tw17805382610775861576 : True := trivial
theorem PySem.W.Fast.tw386075517614484800 : True := trivial
theorem PySem.W.Fast.tw2879443091657567046 : True := trivial
theorem PySem.W.Fast.tw10938135432069630532 : True := trivial
theorem PySem.W.Fast.tw16511307205777364861 : True := trivial
theorem PySem.W.Fast.tw15505475233718392815 : True := trivial
theorem PySem.W.Fast.tw1804868337123379260 : True := trivial
theorem PySem.W.Fast.tw942381852048703546 : True := trivial
theorem PySem.W.Fast.tw18056598556780222700 : True := trivial
theorem PySem.W.Fast.tw16025280942661897746 : True := trivial
theorem PySem.W.Fast.tw11187757642371358750 : True := trivial
theorem PySem.W.Fast.tw2351043950863621627 : True := trivial
theorem PySem.W.Fast.tw3317193768317982613 : True := trivial
theorem PySem.W.Fast.tw18263482297207230225 : True := trivial
theorem PySem.W.Fast.tw10472893569306430529 : True := trivial
theorem PySem.W.Fast.tw6946436117679060361 : True := trivial
theorem PySem.W.Fast.tw1475161723388805914 : True := trivial
theorem PySem.W.Fast.tw6648460641476849689 : True := trivial
theorem PySem.W.Fast.tw8297499121921628677 : True := trivial
theorem PySem.W.Fast.tw8490666677269530632 : True := trivial
theorem PySem.W.Fast.tw14931357049064060928 : True := trivial
theorem PySem.W.Fast.tw8021224118247333810 : True := trivial
theorem PySem.W.Fast.tw5650865555491087743 : True := trivial
theorem PySem.W.Fast.tw3986959054188362686 : True := trivial
theorem PySem.W.Fast.tw103228969003200526 : True := trivial
theorem PySem.W.Fast.tw13374603883118652949 : True := trivial
theorem PySem.W.Fast.tw13121751430260389761 : True := trivial
theorem PySem.W.Fast.tw8513478993611497339 : True := trivial
theorem PySem.W.Fast.tw3252010940895534978 : True := trivial
theorem PySem.W.Fast.tw12122471909729810581 : True := trivial
theorem PySem.W.Fast.tw9022720878492263501 : True := trivial
theorem PySem.W.Fast.tw13239454622358499642 : True := trivial
theorem PySem.W.Fast.tw6336473235159304702 : True := trivial
theorem PySem.W.Fast.tw12130479445718564560 : True := trivial
theorem PySem.W.Fast.tw17260329242716818319 : True := trivial
theorem PySem.W.Fast.tw14940178291452152819 : True := trivial
theorem PySem.W.Fast.tw4256768679784983174 : True := trivial
theorem PySem.W.Fast.tw12272538208379669578 : True := trivial
theorem PySem.W.Fast.tw5451868950896800911 : True := trivial
theorem PySem.W.Fast.tw6247154479119943878 : True := trivial
theorem PySem.W.Fast.tw8443789041251407923 : True := trivial
theorem PySem.W.Fast.tw2868605569727818194 : True := trivial
theorem PySem.W.Fast.tw11890275207400977704 : True := trivial
theorem PySem.W.Fast.tw5976000152200909559 : True := trivial
theorem PySem.W.Fast.tw7429455098931921825 : True := trivial
theorem PySem.W.Fast.tw7621152365932586445 : True := trivial
theorem PySem.W.Fast.tw12556060865018662189 : True := trivial
theorem PySem.W.Fast.tw14849095265137285507 : True := trivial
theorem PySem.W.Fast.tw2506851109145685296 : True := trivial
theorem PySem.W.Fast.tw10234010142801516888 : True := trivial
theorem PySem.W.Fast.tw8497772377370855399 : True := trivial
theorem PySem.W.Fast.tw12998226056104262901 : True := trivial
theorem PySem.W.Fast.tw1967327830084338257 : True := trivial
theorem PySem.W.Fast.tw15683257149360038374 : True := trivial
theorem PySem.W.Fast.tw15334509898743779604 : True := trivial
theorem PySem.W.Fast.tw6510504224055025456 : True := trivial
theorem PySem.W.Fast.tw10121728119482381820 : True := trivial
theorem PySem.W.Fast.tw15525982375025156415 : True := trivial
theorem PySem.W.Fast.tw11487362564727484682 : True := trivial
theorem PySem.W.Fast.tw10809068171302095830 : True := trivial
theorem PySem.W.Fast.tw9631623722906416026 : True := trivial
theorem PySem.W.Fast.tw16503830259105249173 : True := trivial
theorem PySem.W.Fast.tw1451399733893500161 : True := trivial
theorem PySem.W.Fast.tw3108228691665074682 : True := trivial
theorem PySem.W.Fast.tw6541654356126161035 : True := trivial
theorem PySem.W.Fast.tw760913580540961351 : True := trivial
theorem PySem.W.Fast.tw15660016651441808750 : True := trivial
theorem PySem.W.Fast.tw17794840744289685812 : True := trivial
theorem PySem.W.Fast.tw232669148166681937 : True := trivial
theorem PySem.W.Fast.tw8896803203912053435 : True := trivial
theorem PySem.W.Fast.tw17867459200497804695 : True := trivial
theorem PySem.W.Fast.tw16810588880926767893 : True := trivial
theorem PySem.W.Fast.tw8080532350700871985 : True := trivial
theorem PySem.W.Fast.tw14159028486474707349 : True := trivial
theorem PySem.W.Fast.tw10001703210812016196 : True := trivial
theorem PySem.W.Fast.tw16140268547011746157 : True := trivial
theorem PySem.W.Fast.tw14327554828179195646 : True := trivial
theorem PySem.W.Fast.tw12075164739912970349 : True := trivial
theorem PySem.W.Fast.tw1437111384278907353 : True := trivial
theorem PySem.W.Fast.tw6478609872234373868 : True := trivial
theorem PySem.W.Fast.tw1004520486853629705 : True := trivial
theorem PySem.W.Fast.tw3158023607224016237 : True := trivial
theorem PySem.W.Fast.tw3191190381479587182 : True := trivial
theorem PySem.W.Fast.tw14028967150069695712 : True := trivial
theorem PySem.W.Fast.tw8393800703504842970 : True := trivial
theorem PySem.W.Fast.tw17086103849401220289 : True := trivial
theorem PySem.W.Fast.tw44281356330056925 : True := trivial
theorem PySem.W.Fast.tw10198137137571441062 : True := trivial
theorem PySem.W.Fast.tw3597996604934294184 : True := trivial
theorem PySem.W.Fast.tw977260067834888632 : True := trivial
theorem PySem.W.Fast.tw8708572359850471718 : True := trivial
theorem PySem.W.Fast.tw6264253839084263497 : True := trivial
theorem PySem.W.Fast.tw10010805474647843087 : True := trivial
theorem PySem.W.Fast.tw10730499338438299265 : True := trivial
theorem PySem.W.Fast.tw11313865994218461266 : True := trivial
theorem PySem.W.Fast.tw2762261732730608132 : True := trivial
theorem PySem.W.Fast.tw2776147459074531904 : True := trivial
theorem PySem.W.Fast.tw7749962790029827326 : True := trivial
theorem PySem.W.Fast.tw17200587939911944230 : True := trivial
theorem PySem.W.Fast.tw304580145196431232 : True := trivial
theorem PySem.W.Fast.tw11144249805514155123 : True := trivial
theorem PySem.W.Fast.tw1778521802258373139 : True := trivial
theorem PySem.W.Fast.tw8327244574442304248 : True := trivial
theorem PySem.W.Fast.tw370263836536644347 : True := trivial
theorem PySem.W.Fast.tw7801019490978452462 : True := trivial
theorem PySem.W.Fast.tw18066458673954511430 : True := trivial
theorem PySem.W.Fast.tw2557196579416938608 : True := trivial
theorem PySem.W.Fast.tw13429215267749154594 : True := trivial
theorem PySem.W.Fast.tw9099216059772288626 : True := trivial
theorem PySem.W.Fast.tw16972055950117710662 : True := trivial
theorem PySem.W.Fast.tw16846793393479786395 : True := trivial
theorem PySem.W.Fast.tw2837101328935894037 : True := trivial
theorem PySem.W.Fast.tw9944004452128217349 : True := trivial
theorem PySem.W.Fast.tw15660644466023393176 : True := trivial
theorem PySem.W.Fast.tw374164005863023318 : True := trivial
theorem PySem.W.Fast.tw16641088151089952147 : True := trivial
theorem PySem.W.Fast.tw14281499259566501061 : True := trivial
theorem PySem.W.Fast.tw16376624283507248438 : True := trivial
theorem PySem.W.Fast.tw13615288125151973961 : True := trivial
theorem PySem.W.Fast.tw1715618684399561707 : True := trivial
theorem PySem.W.Fast.tw17401225395386020178 : True := trivial
theorem PySem.W.Fast.tw2986709359719425382 : True := trivial
theorem PySem.W.Fast.tw9042062029825030159 : True := trivial
theorem PySem.W.Fast.tw4850205122181863167 : True := trivial
theorem PySem.W.Fast.tw3522526935589210127 : True := trivial
theorem PySem.W.Fast.tw12922692265349915292 : True := trivial
theorem PySem.W.Fast.tw14686356196815521183 : True := trivial
theorem PySem.W.Fast.tw5113584487547379450 : True := trivial
theorem PySem.W.Fast.tw4481434308713548979 : True := trivial
theorem PySem.W.Fast.tw8477933836827795537 : True := trivial
theorem PySem.W.Fast.tw4003546880954794731 : True := trivial
theorem PySem.W.Fast.tw8229743408791297129 : True := trivial
theorem PySem.W.Fast.tw1526832625988337501 : True := trivial
theorem PySem.W.Fast.tw1394797367119971804 : True := trivial
theorem PySem.W.Fast.tw16067504516293728880 : True := trivial
theorem PySem.W.Fast.tw7951219564119161412 : True := trivial
theorem PySem.W.Fast.tw8032419187668586336 : True := trivial
theorem PySem.W.Fast.tw6215358721076179748 : True := trivial
theorem PySem.W.Fast.tw514492228467096077 : True := trivial
theorem PySem.W.Fast.tw3607760904406518285 : True := trivial
theorem PySem.W.Fast.tw5827073936534230103 : True := trivial
theorem PySem.W.Fast.tw7072089980095873777 : True := trivial
theorem PySem.W.Fast.tw6748638461445987009 : True := trivial
theorem PySem.W.Fast.tw1517922717918430650 : True := trivial
theorem PySem.W.Fast.tw11802395371143501695 : True := trivial
theorem PySem.W.Fast.tw4682254935592093387 : True := trivial
theorem PySem.W.Fast.tw9828789534421822390 : True := trivial
theorem PySem.W.Fast.tw15487008504495971275 : True := trivial
theorem PySem.W.Fast.tw15233318141926488724 : True := trivial
theorem PySem.W.Fast.tw14295637832750110231 : True := trivial
theorem PySem.W.Fast.tw13890628053226608616 : True := trivial
theorem PySem.W.Fast.tw11880879916154737901 : True := trivial
theorem PySem.W.Fast.tw16149140263656332687 : True := trivial
theorem PySem.W.Fast.tw11816970231444790781 : True := trivial
theorem PySem.W.Fast.tw10895566120776031202 : True := trivial
theorem PySem.W.Fast.tw6426966209189121386 : True := trivial
theorem PySem.W.Fast.tw8000474423037539018 : True := trivial
theorem PySem.W.Fast.tw2665734398626705155 : True := trivial
theorem PySem.W.Fast.tw10003648000937699359 : True := trivial
theorem PySem.W.Fast.tw2842431918826914159 : True := trivial
theorem PySem.W.Fast.tw11197577053960131023 : True := trivial
theorem PySem.W.Fast.tw14864363776683008790 : True := trivial
theorem PySem.W.Fast.tw8346881654572980750 : True := trivial
theorem PySem.W.Fast.tw9673249820571427464 : True := trivial
theorem PySem.W.Fast.tw7417385392372368287 : True := trivial
theorem PySem.W.Fast.tw14592600758990845650 : True := trivial
theorem PySem.W.Fast.tw730878205177628592 : True := trivial
theorem PySem.W.Fast.tw4113091556753303276 : True := trivial
theorem PySem.W.Fast.tw1026809873170571867 : True := trivial
theorem PySem.W.Fast.tw8086594629830439775 : True := trivial
theorem PySem.W.Fast.tw3987611201302086721 : True := trivial
theorem PySem.W.Fast.tw15225272837008728919 : True := trivial
theorem PySem.W.Fast.tw5795703533562529297 : True := trivial
theorem PySem.W.Fast.tw2927265320972178377 : True := trivial
theorem PySem.W.Fast.tw15497266012424478235 : True := trivial
theorem PySem.W.Fast.tw14035982383920664554 : True := trivial
theorem PySem.W.Fast.tw13293533219490491884 : True := trivial
theorem PySem.W.Fast.tw4352760590316825757 : True := trivial
theorem PySem.W.Fast.tw8612466479264874440 : True := trivial
theorem PySem.W.Fast.tw17948316117306008531 : True := trivial
theorem PySem.W.Fast.tw11505995002236737751 : True := trivial
theorem PySem.W.Fast.tw14085963731346854375 : True := trivial
theorem PySem.W.Fast.tw6650215619043764365 : True := trivial
theorem PySem.W.Fast.tw6961940998492565335 : True := trivial
theorem PySem.W.Fast.tw7552765490651528299 : True := trivial
theorem PySem.W.Fast.tw13719658437653083767 : True := trivial
theorem PySem.W.Fast.tw7540927698581960431 : True := trivial
theorem PySem.W.Fast.tw10030740139640686819 : True := trivial
theorem PySem.W.Fast.tw1012645870900778478 : True := trivial
theorem PySem.W.Fast.tw17855912132344288743 : True := trivial
theorem PySem.W.Fast.tw13174036451379620936 : True := trivial
theorem PySem.W.Fast.tw844862912003632491 : True := trivial
theorem PySem.W.Fast.tw5846564699970351795 : True := trivial
theorem PySem.W.Fast.tw10351578595677499720 : True := trivial
theorem PySem.W.Fast.tw2892418383966296688 : True := trivial
theorem PySem.W.Fast.tw8384402662717165891 : True := trivial
theorem PySem.W.Fast.tw9757919678246414737 : True := trivial
theorem PySem.W.Fast.tw3964428283656694827 : True := trivial
theorem PySem.W.Fast.tw8588105645028622878 : True := trivial
theorem PySem.W.Fast.tw8058270937768969464 : True := trivial
theorem PySem.W.Fast.tw10907921906576489927 : True := trivial
theorem PySem.W.Fast.tw1471623631275970096 : True := trivial
theorem PySem.W.Fast.tw264970710891832123 : True := trivial
theorem PySem.W.Fast.tw15988042123730812965 : True := trivial
theorem PySem.W.Fast.tw16420637271834188509 : True := trivial
theorem PySem.W.Fast.tw17507464376756407267 : True := trivial
theorem PySem.W.Fast.tw13294204154960352637 : True := trivial
theorem PySem.W.Fast.tw4395221577027646975 : True := trivial
theorem PySem.W.Fast.tw5705205975473472507 : True := trivial
theorem PySem.W.Fast.tw10183037942355728152 : True := trivial
theorem PySem.W.Fast.tw9175455924463503240 : True := trivial
theorem PySem.W.Fast.tw4374612725798708020 : True := trivial
theorem PySem.W.Fast.tw15675720689997703119 : True := trivial
theorem PySem.W.Fast.tw15377156848863364080 : True := trivial
theorem PySem.W.Fast.tw10827108760027344022 : True := trivial
theorem PySem.W.Fast.tw11802282150991033371 : True := trivial
theorem PySem.W.Fast.tw15550713954221386408 : True := trivial
theorem PySem.W.Fast.tw13569291516641087417 : True := trivial
theorem PySem.W.Fast.tw649205431709414811 : True := trivial
theorem PySem.W.Fast.tw7724002011351968795 : True := trivial
theorem PySem.W.Fast.tw14345263178227691252 : True := trivial
theorem PySem.W.Fast.tw10941472457203263480 : True := trivial
theorem PySem.W.Fast.tw11274500013176036787 : True := trivial
theorem PySem.W.Fast.tw17919641006856070577 : True := trivial
open PySem PySem.W PyProof.Rows
set_option maxRecDepth 100000 in
set_option maxHeartbeats 0 in
theorem PySem.Challenge.cw_rightname_k71_published_holds : PySem.Challenge.rw_rightname_k71_published.Holds := by
  w_on; o_law; k_head; (case hw => w_witness2)
  k_fill
  refine L2.walk_ofK (l := PySem.Challenge.rw_rightname_k71_published) (n := 63) (k := 8) (x := "_law_script") (CX := L2.CX0) (sp := My.spLaw) rfl (by decide) rfl ⟨rfl, by decide, by decide⟩ (fun w h Y => PySem.W.kIn_of Y) ?F ?S ?C
  case F =>
    intro w mg fa h KX G hmg
    refine' My.all_mk KX G hmg ?pa0 ?pl0 ?pc0 ?pk0 ?pa1 ?pl1 ?pc1 ?pk1 ?pa2 ?pl2 ?pc2 ?pk2 ?pa3 ?pl3 ?pc3 ?pk3 ?pa4 ?pl4 ?pc4 ?pk4 ?pa5 ?pl5 ?pc5 ?pk5 ?pa6 ?pl6 ?pc6 ?pk6 ?pa7 ?pl7 ?pc7 ?pk7 ?pa8 ?pl8 ?pc8 ?pk8 ?pa9 ?pl9 ?pc9 ?pk9 ?pa10 ?pl10 ?pc10 ?pk10 ?pa11 ?pl11 ?pc11 ?pk11 ?pa12 ?pl12 ?pc12 ?pk12 ?pa13 ?pl13 ?pc13 ?pk13 ?pa14 ?pl14 ?pc14 ?pk14 ?pa15 ?pl15 ?pc15 ?pk15 ?pa16 ?pl16 ?pc16 ?pk16 ?pa17 ?pl17 ?pc17 ?pk17 ?pa18 ?pl18 ?pc18 ?pk18 ?pa19 ?pl19 ?pc19 ?pk19 ?pa20 ?pl20 ?pc20 ?pk20 ?pa21 ?pl21 ?pc21 ?pk21 ?pa22 ?pl22 ?pc22 ?pk22 ?pa23 ?pl23 ?pc23 ?pk23 ?pa24 ?pl24 ?pc24 ?pk24 ?pa25 ?pl25 ?pc25 ?pk25 ?pa26 ?pl26 ?pc26 ?pk26 ?pa27 ?pl27 ?pc27 ?pk27 ?pa28 ?pl28 ?pc28 ?pk28 ?pa29 ?pl29 ?pc29 ?pk29 ?pa30 ?pl30 ?pc30 ?pk30 ?pa31 ?pl31 ?pc31 ?pk31 ?pa32 ?pl32 ?pc32 ?pk32 ?pa33 ?pl33 ?pc33 ?pk33 ?pcg_Entry ?ppg_Entry ?phd_Entry ?ppo_Entry ?psa_Entry ?pmk_Entry ?pin_Entry ?pfn_Entry ?pkc_Entry ?pkf_Entry ?plf_Entry ?pcf_Entry ?plt_Entry ?pdt_Entry ?pna_Entry_number ?pna_Entry_day ?pna_Entry_rank ?pna_Entry_word ?pna_Entry_under ?pna_Entry_sheet ?pna_Entry_base ?pna_Entry_described ?pcg_Results ?ppg_Results ?phd_Results ?ppo_Results ?psa_Results ?pkc_Results ?pmk_Results ?pin_Results ?pfn_Results ?pl_Results_init ?pk_Results_init ?pp_Results_init ?pna_Results_outs ?pna_Results_names ?pna_Results_rights ?pna_Results_holders ?pcg_Clerk ?ppg_Clerk ?phd_Clerk ?ppo_Clerk ?psa_Clerk ?pkc_Clerk ?pmk_Clerk ?pin_Clerk ?pfn_Clerk ?pl_Clerk_init ?pk_Clerk_init ?pp_Clerk_init ?pna_Clerk_entries ?pna_Clerk_results ?pna_Clerk_deeds ?pna_Clerk_piles ?pmf_Results_put ?pmi_Results_put ?pl_Results_put ?pk_Results_put ?pp_Results_put ?pmf_Results_name_of ?pmi_Results_name_of ?pl_Results_name_of ?pk_Results_name_of ?pp_Results_name_of ?pmf_Results_outcome_of ?pmi_Results_outcome_of ?pl_Results_outcome_of ?pk_Results_outcome_of ?pp_Results_outcome_of ?pmf_Clerk_publish ?pmi_Clerk_publish ?pl_Clerk_publish ?pk_Clerk_publish ?pp_Clerk_publish ?pmf_Clerk_book ?pmi_Clerk_book ?pl_Clerk_book ?pk_Clerk_book ?pp_Clerk_book ?pmf_Clerk_acts ?pmi_Clerk_acts ?pl_Clerk_acts ?pk_Clerk_acts ?pp_Clerk_acts ?pmf_Clerk_sorting ?pmi_Clerk_sorting ?pl_Clerk_sorting ?pk_Clerk_sorting ?pp_Clerk_sorting ?pcg_MOST_LETTERS ?pcr_MOST_LETTERS ?pcg_LAST_DAY ?pcr_LAST_DAY ?pcg_LAST_NUMBER ?pcr_LAST_NUMBER ?pcg_RANKS ?pcl_RANKS ?pcc_RANKS ?pcd_RANKS ?pcv_RANKS ?pcg_ABOVE ?pcl_ABOVE ?pcv_ABOVE ?pcg_NoRank ?pcg_NoNumber ?pcg_NoDay ?pcg_NoWord ?pcg_NoSorting ?pcg_NoEntry ?pcg_Late ?pcg_RightError ?pcg_NoAct ?pcg_NoSheet ?pcg_NoPath ?pxl_NoRank ?pxn_NoRank ?pxs_NoRank ?pxi_NoRank ?pxa_NoRank ?pxb_NoRank ?pxt_NoRank ?pxj_NoRank ?pqcs_NoRank ?pqga_NoRank ?pqgt_NoRank ?pqca_NoRank ?pqgg_NoRank ?pqtk_NoRank ?pqmo_NoRank ?pqsb_NoRank ?pi_NoRank_NoEntry ?pi_NoRank_Late ?pi_NoRank_NoAct ?pi_NoRank_NoSheet ?pi_NoRank_NoPath ?pi_NoRank_ValueError ?pe_NoRank_RightError ?pxl_NoNumber ?pxn_NoNumber ?pxs_NoNumber ?pxi_NoNumber ?pxa_NoNumber ?pxb_NoNumber ?pxt_NoNumber ?pxj_NoNumber ?pqcs_NoNumber ?pqga_NoNumber ?pqgt_NoNumber ?pqca_NoNumber ?pqgg_NoNumber ?pqtk_NoNumber ?pqmo_NoNumber ?pqsb_NoNumber ?pi_NoNumber_NoEntry ?pi_NoNumber_Late ?pi_NoNumber_NoAct ?pi_NoNumber_NoSheet ?pi_NoNumber_NoPath ?pi_NoNumber_ValueError ?pe_NoNumber_RightError ?pxl_NoDay ?pxn_NoDay ?pxs_NoDay ?pxi_NoDay ?pxa_NoDay ?pxb_NoDay ?pxt_NoDay ?pxj_NoDay ?pqcs_NoDay ?pqga_NoDay ?pqgt_NoDay ?pqca_NoDay ?pqgg_NoDay ?pqtk_NoDay ?pqmo_NoDay ?pqsb_NoDay ?pi_NoDay_NoEntry ?pi_NoDay_Late ?pi_NoDay_NoAct ?pi_NoDay_NoSheet ?pi_NoDay_NoPath ?pi_NoDay_ValueError ?pe_NoDay_RightError ?pxl_NoWord ?pxn_NoWord ?pxs_NoWord ?pxi_NoWord ?pxa_NoWord ?pxb_NoWord ?pxt_NoWord ?pxj_NoWord ?pqcs_NoWord ?pqga_NoWord ?pqgt_NoWord ?pqca_NoWord ?pqgg_NoWord ?pqtk_NoWord ?pqmo_NoWord ?pqsb_NoWord ?pi_NoWord_NoEntry ?pi_NoWord_Late ?pi_NoWord_NoAct ?pi_NoWord_NoSheet ?pi_NoWord_NoPath ?pi_NoWord_ValueError ?pe_NoWord_RightError ?pxl_NoSorting ?pxn_NoSorting ?pxs_NoSorting ?pxi_NoSorting ?pxa_NoSorting ?pxb_NoSorting ?pxt_NoSorting ?pxj_NoSorting ?pqcs_NoSorting ?pqga_NoSorting ?pqgt_NoSorting ?pqca_NoSorting ?pqgg_NoSorting ?pqtk_NoSorting ?pqmo_NoSorting ?pqsb_NoSorting ?pi_NoSorting_NoEntry ?pi_NoSorting_Late ?pi_NoSorting_NoAct ?pi_NoSorting_NoSheet ?pi_NoSorting_NoPath ?pi_NoSorting_ValueError ?pe_NoSorting_RightError ?pxl_NoEntry ?pxn_NoEntry ?pxs_NoEntry ?pxi_NoEntry ?pxa_NoEntry ?pxb_NoEntry ?pxt_NoEntry ?pxj_NoEntry ?pqcs_NoEntry ?pqga_NoEntry ?pqgt_NoEntry ?pqca_NoEntry ?pqgg_NoEntry ?pqtk_NoEntry ?pqmo_NoEntry ?pqsb_NoEntry ?pi_NoEntry_NoEntry ?pi_NoEntry_Late ?pi_NoEntry_NoAct ?pi_NoEntry_NoSheet ?pi_NoEntry_NoPath ?pi_NoEntry_ValueError ?pe_NoEntry_RightError ?pxl_Late ?pxn_Late ?pxs_Late ?pxi_Late ?pxa_Late ?pxb_Late ?pxt_Late ?pxj_Late ?pqcs_Late ?pqga_Late ?pqgt_Late ?pqca_Late ?pqgg_Late ?pqtk_Late ?pqmo_Late ?pqsb_Late ?pi_Late_NoEntry ?pi_Late_Late ?pi_Late_NoAct ?pi_Late_NoSheet ?pi_Late_NoPath ?pi_Late_ValueError ?pe_Late_RightError ?pwc_Entry ?pwg_Entry ?pwt_Entry ?pwm_Entry ?pws_Entry ?pwn_Entry_NoneType ?pwn_Entry_int ?pwn_Entry_str ?pwn_Entry_bool ?pwn_Entry_list ?pwn_Entry_tuple ?pwn_Entry_dict ?pz_len ?pz_isinstance ?pz_str ?pz_bool ?pz_all ?pz_range ?pz_int ?pz_list ?pz_min ?pz_max ?pz_dict ?pz_zip ?pz_ValueError
    (case pa0 => k_is)
    (case pl0 => k_is)
    (case pc0 => k_is)
    (case pk0 => k_is)
    (case pa1 => k_is)
    (case pl1 => k_is)
    (case pc1 => k_is)
    (case pk1 => k_is)
    (case pa2 => k_is)
    (case pl2 => k_is)
    (case pc2 => k_is)
    (case pk2 => k_is)
    (case pa3 => k_is)
    (case pl3 => k_is)
    (case pc3 => k_is)
    (case pk3 => k_is)
    (case pa4 => k_is)
    (case pl4 => k_is)
    (case pc4 => k_is)
    (case pk4 => k_is)
    (case pa5 => k_is)
    (case pl5 => k_is)
    (case pc5 => k_is)
    (case pk5 => k_is)
    (case pa6 => k_is)
    (case pl6 => k_is)
    (case pc6 => k_is)
    (case pk6 => k_is)
    (case pa7 => k_is)
    (case pl7 => k_is)
    (case pc7 => k_is)
    (case pk7 => k_is)
    (case pa8 => k_is)
    (case pl8 => k_is)
    (case pc8 => k_is)
    (case pk8 => k_is)
    (case pa9 => k_is)
    (case pl9 => k_is)
    (case pc9 => k_is)
    (case pk9 => k_is)
    (case pa10 => k_is)
    (case pl10 => k_is)
    (case pc10 => k_is)
    (case pk10 => k_is)
    (case pa11 => k_is)
    (case pl11 => k_is)
    (case pc11 => k_is)
    (case pk11 => k_is)
    (case pa12 => k_is)
    (case pl12 => k_is)
    (case pc12 => k_is)
    (case pk12 => k_is)
    (case pa13 => k_is)
    (case pl13 => k_is)
    (case pc13 => k_is)
    (case pk13 => k_is)
    (case pa14 => k_is)
    (case pl14 => k_is)
    (case pc14 => k_is)
    (case pk14 => k_is)
    (case pa15 => k_is)
    (case pl15 => k_is)
    (case pc15 => k_is)
    (case pk15 => k_is)
    (case pa16 => k_is)
    (case pl16 => k_is)
    (case pc16 => k_is)
    (case pk16 => k_is)
    (case pa17 => k_is)
    (case pl17 => k_is)
    (case pc17 => k_is)
    (case pk17 => k_is)
    (case pa18 => k_is)
    (case pl18 => k_is)
    (case pc18 => k_is)
    (case pk18 => k_is)
    (case pa19 => k_is)
    (case pl19 => k_is)
    (case pc19 => k_is)
    (case pk19 => k_is)
    (case pa20 => k_is)
    (case pl20 => k_is)
    (case pc20 => k_is)
    (case pk20 => k_is)
    (case pa21 => k_is)
    (case pl21 => k_is)
    (case pc21 => k_is)
    (case pk21 => k_is)
    (case pa22 => k_is)
    (case pl22 => k_is)
    (case pc22 => k_is)
    (case pk22 => k_is)
    (case pa23 => k_is)
    (case pl23 => k_is)
    (case pc23 => k_is)
    (case pk23 => k_is)
    (case pa24 => k_is)
    (case pl24 => k_is)
    (case pc24 => k_is)
    (case pk24 => k_is)
    (case pa25 => k_is)
    (case pl25 => k_is)
    (case pc25 => k_is)
    (case pk25 => k_is)
    (case pa26 => k_is)
    (case pl26 => k_is)
    (case pc26 => k_is)
    (case pk26 => k_is)
    (case pa27 => k_is)
    (case pl27 => k_is)
    (case pc27 => k_is)
    (case pk27 => k_is)
    (case pa28 => k_is)
    (case pl28 => k_is)
    (case pc28 => k_is)
    (case pk28 => k_is)
    (case pa29 => k_is)
    (case pl29 => k_is)
    (case pc29 => k_is)
    (case pk29 => k_is)
    (case pa30 => k_is)
    (case pl30 => k_is)
    (case pc30 => k_is)
    (case pk30 => k_is)
    (case pa31 => k_is)
    (case pl31 => k_is)
    (case pc31 => k_is)
    (case pk31 => k_is)
    (case pa32 => k_is)
    (case pl32 => k_is)
    (case pc32 => k_is)
    (case pk32 => k_is)
    (case pa33 => k_is)
    (case pl33 => k_is)
    (case pc33 => k_is)
    (case pk33 => k_is)
    (case pcg_Entry => k_is)
    (case ppg_Entry => k_is)
    (case phd_Entry => k_is)
    (case ppo_Entry => k_is)
    (case psa_Entry => k_is)
    (case pmk_Entry => k_is)
    (case pin_Entry => k_is)
    (case pfn_Entry => k_is)
    (case pkc_Entry => k_is)
    (case pkf_Entry => k_is)
    (case plf_Entry => k_is)
    (case pcf_Entry => k_is)
    (case plt_Entry => k_is)
    (case pdt_Entry => exact rfl)
    (case pna_Entry_number => k_is)
    (case pna_Entry_day => k_is)
    (case pna_Entry_rank => k_is)
    (case pna_Entry_word => k_is)
    (case pna_Entry_under => k_is)
    (case pna_Entry_sheet => k_is)
    (case pna_Entry_base => k_is)
    (case pna_Entry_described => k_is)
    (case pcg_Results => k_is)
    (case ppg_Results => k_is)
    (case phd_Results => k_is)
    (case ppo_Results => k_is)
    (case psa_Results => k_is)
    (case pkc_Results => k_is)
    (case pmk_Results => k_is)
    (case pin_Results => k_is)
    (case pfn_Results => k_is)
    (case pl_Results_init => k_is)
    (case pk_Results_init => k_is)
    (case pp_Results_init => k_is)
    (case pna_Results_outs => k_is)
    (case pna_Results_names => k_is)
    (case pna_Results_rights => k_is)
    (case pna_Results_holders => k_is)
    (case pcg_Clerk => k_is)
    (case ppg_Clerk => k_is)
    (case phd_Clerk => k_is)
    (case ppo_Clerk => k_is)
    (case psa_Clerk => k_is)
    (case pkc_Clerk => k_is)
    (case pmk_Clerk => k_is)
    (case pin_Clerk => k_is)
    (case pfn_Clerk => k_is)
    (case pl_Clerk_init => k_is)
    (case pk_Clerk_init => k_is)
    (case pp_Clerk_init => k_is)
    (case pna_Clerk_entries => k_is)
    (case pna_Clerk_results => k_is)
    (case pna_Clerk_deeds => k_is)
    (case pna_Clerk_piles => k_is)
    (case pmf_Results_put => k_is)
    (case pmi_Results_put => k_is)
    (case pl_Results_put => k_is)
    (case pk_Results_put => k_is)
    (case pp_Results_put => k_is)
    (case pmf_Results_name_of => k_is)
    (case pmi_Results_name_of => k_is)
    (case pl_Results_name_of => k_is)
    (case pk_Results_name_of => k_is)
    (case pp_Results_name_of => k_is)
    (case pmf_Results_outcome_of => k_is)
    (case pmi_Results_outcome_of => k_is)
    (case pl_Results_outcome_of => k_is)
    (case pk_Results_outcome_of => k_is)
    (case pp_Results_outcome_of => k_is)
    (case pmf_Clerk_publish => k_is)
    (case pmi_Clerk_publish => k_is)
    (case pl_Clerk_publish => k_is)
    (case pk_Clerk_publish => k_is)
    (case pp_Clerk_publish => k_is)
    (case pmf_Clerk_book => k_is)
    (case pmi_Clerk_book => k_is)
    (case pl_Clerk_book => k_is)
    (case pk_Clerk_book => k_is)
    (case pp_Clerk_book => k_is)
    (case pmf_Clerk_acts => k_is)
    (case pmi_Clerk_acts => k_is)
    (case pl_Clerk_acts => k_is)
    (case pk_Clerk_acts => k_is)
    (case pp_Clerk_acts => k_is)
    (case pmf_Clerk_sorting => k_is)
    (case pmi_Clerk_sorting => k_is)
    (case pl_Clerk_sorting => k_is)
    (case pk_Clerk_sorting => k_is)
    (case pp_Clerk_sorting => k_is)
    (case pcg_MOST_LETTERS => k_is)
    (case pcr_MOST_LETTERS => first | exact L2.rel_int | exact L2.rel_str | exact rfl)
    (case pcg_LAST_DAY => k_is)
    (case pcr_LAST_DAY => first | exact L2.rel_int | exact L2.rel_str | exact rfl)
    (case pcg_LAST_NUMBER => k_is)
    (case pcr_LAST_NUMBER => first | exact L2.rel_int | exact L2.rel_str | exact rfl)
    (case pcg_RANKS => k_is)
    (case pcl_RANKS => k_is)
    (case pcc_RANKS => exact rfl)
    (case pcd_RANKS => exact rfl)
    (case pcv_RANKS => exact (.cons ⟨_, rfl⟩ (.cons ⟨_, rfl⟩ (.cons ⟨_, rfl⟩ .nil))))
    (case pcg_ABOVE => k_is)
    (case pcl_ABOVE => k_is)
    (case pcv_ABOVE => exact (.cons ⟨rfl, ⟨_, rfl⟩, rfl⟩ (.cons ⟨rfl, ⟨_, rfl⟩, ⟨_, rfl⟩⟩ (.cons ⟨rfl, ⟨_, rfl⟩, ⟨_, rfl⟩⟩ .nil))))
    (case pcg_NoRank => k_is)
    (case pcg_NoNumber => k_is)
    (case pcg_NoDay => k_is)
    (case pcg_NoWord => k_is)
    (case pcg_NoSorting => k_is)
    (case pcg_NoEntry => k_is)
    (case pcg_Late => k_is)
    (case pcg_RightError => k_is)
    (case pcg_NoAct => k_is)
    (case pcg_NoSheet => k_is)
    (case pcg_NoPath => k_is)
    (case pxl_NoRank => k_is)
    (case pxn_NoRank => k_is)
    (case pxs_NoRank => kernel_rfl)
    (case pxi_NoRank => kernel_rfl)
    (case pxa_NoRank => k_is)
    (case pxb_NoRank => k_is)
    (case pxt_NoRank => kernel_rfl)
    (case pxj_NoRank => kernel_rfl)
    (case pqcs_NoRank => kernel_rfl)
    (case pqga_NoRank => k_is)
    (case pqgt_NoRank => k_is)
    (case pqca_NoRank => k_is)
    (case pqgg_NoRank => k_is)
    (case pqtk_NoRank => k_is)
    (case pqmo_NoRank => k_is)
    (case pqsb_NoRank => k_is)
    (case pi_NoRank_NoEntry => kernel_rfl)
    (case pi_NoRank_Late => kernel_rfl)
    (case pi_NoRank_NoAct => kernel_rfl)
    (case pi_NoRank_NoSheet => kernel_rfl)
    (case pi_NoRank_NoPath => kernel_rfl)
    (case pi_NoRank_ValueError => kernel_rfl)
    (case pe_NoRank_RightError => kernel_rfl)
    (case pxl_NoNumber => k_is)
    (case pxn_NoNumber => k_is)
    (case pxs_NoNumber => kernel_rfl)
    (case pxi_NoNumber => kernel_rfl)
    (case pxa_NoNumber => k_is)
    (case pxb_NoNumber => k_is)
    (case pxt_NoNumber => kernel_rfl)
    (case pxj_NoNumber => kernel_rfl)
    (case pqcs_NoNumber => kernel_rfl)
    (case pqga_NoNumber => k_is)
    (case pqgt_NoNumber => k_is)
    (case pqca_NoNumber => k_is)
    (case pqgg_NoNumber => k_is)
    (case pqtk_NoNumber => k_is)
    (case pqmo_NoNumber => k_is)
    (case pqsb_NoNumber => k_is)
    (case pi_NoNumber_NoEntry => kernel_rfl)
    (case pi_NoNumber_Late => kernel_rfl)
    (case pi_NoNumber_NoAct => kernel_rfl)
    (case pi_NoNumber_NoSheet => kernel_rfl)
    (case pi_NoNumber_NoPath => kernel_rfl)
    (case pi_NoNumber_ValueError => kernel_rfl)
    (case pe_NoNumber_RightError => kernel_rfl)
    (case pxl_NoDay => k_is)
    (case pxn_NoDay => k_is)
    (case pxs_NoDay => kernel_rfl)
    (case pxi_NoDay => kernel_rfl)
    (case pxa_NoDay => k_is)
    (case pxb_NoDay => k_is)
    (case pxt_NoDay => kernel_rfl)
    (case pxj_NoDay => kernel_rfl)
    (case pqcs_NoDay => kernel_rfl)
    (case pqga_NoDay => k_is)
    (case pqgt_NoDay => k_is)
    (case pqca_NoDay => k_is)
    (case pqgg_NoDay => k_is)
    (case pqtk_NoDay => k_is)
    (case pqmo_NoDay => k_is)
    (case pqsb_NoDay => k_is)
    (case pi_NoDay_NoEntry => kernel_rfl)
    (case pi_NoDay_Late => kernel_rfl)
    (case pi_NoDay_NoAct => kernel_rfl)
    (case pi_NoDay_NoSheet => kernel_rfl)
    (case pi_NoDay_NoPath => kernel_rfl)
    (case pi_NoDay_ValueError => kernel_rfl)
    (case pe_NoDay_RightError => kernel_rfl)
    (case pxl_NoWord => k_is)
    (case pxn_NoWord => k_is)
    (case pxs_NoWord => kernel_rfl)
    (case pxi_NoWord => kernel_rfl)
    (case pxa_NoWord => k_is)
    (case pxb_NoWord => k_is)
    (case pxt_NoWord => kernel_rfl)
    (case pxj_NoWord => kernel_rfl)
    (case pqcs_NoWord => kernel_rfl)
    (case pqga_NoWord => k_is)
    (case pqgt_NoWord => k_is)
    (case pqca_NoWord => k_is)
    (case pqgg_NoWord => k_is)
    (case pqtk_NoWord => k_is)
    (case pqmo_NoWord => k_is)
    (case pqsb_NoWord => k_is)
    (case pi_NoWord_NoEntry => kernel_rfl)
    (case pi_NoWord_Late => kernel_rfl)
    (case pi_NoWord_NoAct => kernel_rfl)
    (case pi_NoWord_NoSheet => kernel_rfl)
    (case pi_NoWord_NoPath => kernel_rfl)
    (case pi_NoWord_ValueError => kernel_rfl)
    (case pe_NoWord_RightError => kernel_rfl)
    (case pxl_NoSorting => k_is)
    (case pxn_NoSorting => k_is)
    (case pxs_NoSorting => kernel_rfl)
    (case pxi_NoSorting => kernel_rfl)
    (case pxa_NoSorting => k_is)
    (case pxb_NoSorting => k_is)
    (case pxt_NoSorting => kernel_rfl)
    (case pxj_NoSorting => kernel_rfl)
    (case pqcs_NoSorting => kernel_rfl)
    (case pqga_NoSorting => k_is)
    (case pqgt_NoSorting => k_is)
    (case pqca_NoSorting => k_is)
    (case pqgg_NoSorting => k_is)
    (case pqtk_NoSorting => k_is)
    (case pqmo_NoSorting => k_is)
    (case pqsb_NoSorting => k_is)
    (case pi_NoSorting_NoEntry => kernel_rfl)
    (case pi_NoSorting_Late => kernel_rfl)
    (case pi_NoSorting_NoAct => kernel_rfl)
    (case pi_NoSorting_NoSheet => kernel_rfl)
    (case pi_NoSorting_NoPath => kernel_rfl)
    (case pi_NoSorting_ValueError => kernel_rfl)
    (case pe_NoSorting_RightError => kernel_rfl)
    (case pxl_NoEntry => k_is)
    (case pxn_NoEntry => k_is)
    (case pxs_NoEntry => kernel_rfl)
    (case pxi_NoEntry => kernel_rfl)
    (case pxa_NoEntry => k_is)
    (case pxb_NoEntry => k_is)
    (case pxt_NoEntry => kernel_rfl)
    (case pxj_NoEntry => kernel_rfl)
    (case pqcs_NoEntry => kernel_rfl)
    (case pqga_NoEntry => k_is)
    (case pqgt_NoEntry => k_is)
    (case pqca_NoEntry => k_is)
    (case pqgg_NoEntry => k_is)
    (case pqtk_NoEntry => k_is)
    (case pqmo_NoEntry => k_is)
    (case pqsb_NoEntry => k_is)
    (case pi_NoEntry_NoEntry => kernel_rfl)
    (case pi_NoEntry_Late => kernel_rfl)
    (case pi_NoEntry_NoAct => kernel_rfl)
    (case pi_NoEntry_NoSheet => kernel_rfl)
    (case pi_NoEntry_NoPath => kernel_rfl)
    (case pi_NoEntry_ValueError => kernel_rfl)
    (case pe_NoEntry_RightError => kernel_rfl)
    (case pxl_Late => k_is)
    (case pxn_Late => k_is)
    (case pxs_Late => kernel_rfl)
    (case pxi_Late => kernel_rfl)
    (case pxa_Late => k_is)
    (case pxb_Late => k_is)
    (case pxt_Late => kernel_rfl)
    (case pxj_Late => kernel_rfl)
    (case pqcs_Late => kernel_rfl)
    (case pqga_Late => k_is)
    (case pqgt_Late => k_is)
    (case pqca_Late => k_is)
    (case pqgg_Late => k_is)
    (case pqtk_Late => k_is)
    (case pqmo_Late => k_is)
    (case pqsb_Late => k_is)
    (case pi_Late_NoEntry => kernel_rfl)
    (case pi_Late_Late => kernel_rfl)
    (case pi_Late_NoAct => kernel_rfl)
    (case pi_Late_NoSheet => kernel_rfl)
    (case pi_Late_NoPath => kernel_rfl)
    (case pi_Late_ValueError => kernel_rfl)
    (case pe_Late_RightError => kernel_rfl)
    (case pwc_Entry => k_is)
    (case pwg_Entry => k_is)
    (case pwt_Entry => k_is)
    (case pwm_Entry => k_is)
    (case pws_Entry => kernel_rfl)
    (case pwn_Entry_NoneType => kernel_rfl)
    (case pwn_Entry_int => kernel_rfl)
    (case pwn_Entry_str => kernel_rfl)
    (case pwn_Entry_bool => kernel_rfl)
    (case pwn_Entry_list => kernel_rfl)
    (case pwn_Entry_tuple => kernel_rfl)
    (case pwn_Entry_dict => kernel_rfl)
    (case pz_len => k_is)
    (case pz_isinstance => k_is)
    (case pz_str => k_is)
    (case pz_bool => k_is)
    (case pz_all => k_is)
    (case pz_range => k_is)
    (case pz_int => k_is)
    (case pz_list => k_is)
    (case pz_min => k_is)
    (case pz_max => k_is)
    (case pz_dict => k_is)
    (case pz_zip => k_is)
    (case pz_ValueError => k_is)
  case S => exact fun K H a ns hl hO hS => ⟨a, ns, rfl, hS, hl, fun _ => rfl⟩
  case C => exact fun _ _ _ _ z => z
#print axioms PySem.Challenge.cw_rightname_k71_published_holds

